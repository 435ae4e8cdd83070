/-
  A slice of texts of the call's own, beside a disk.
-/
import Derived.Test.YtinfgfgmijjhjaaDiskZ
namespace Go.Proofs.Ytinfgfgmijjhjaa
open Go.RowKit
set_option linter.unusedVariables false
set_option linter.unusedSimpArgs false

theorem infoStr : (Try.prog.info? 9).map (fun i => (i.zero, i.size, i.bytes)) = some (some (.string .empty), 1, 16) := by kernel_rfl
def strC (l : List UInt8) : List Value := [.string ⟨l.toArray⟩]
theorem strC_one (l : List UInt8) : ∀ u ∈ strC l, u.oneCell' = true := by
  intro u hu
  simp only [strC, List.mem_singleton] at hu
  subst hu
  rfl

/-- texts of the call's own, that a disk's steps leave alone -/
structure StrsAt (w wr : World) (S : Nat → Prop) (v : Value) (M : List (List UInt8)) : Prop where
  recs : Recs strC wr 9 1 v M
  off : ∀ k, v.ownBlock = some k → ¬ S k ∧ k < wr.heap.size ∧ w.heap.size ≤ k
theorem StrsAt.nil (w wr : World) (S : Nat → Prop) : StrsAt w wr S (.slice none 0 0) [] := ⟨Recs.nil _ _ _ _, fun k hk => by simp [Value.ownBlock] at hk⟩
theorem StrsAt.step {w wr wr' : World} {S S' : Nat → Prop} {v : Value} {M : List (List UInt8)} (h : StrsAt w wr S v M) (ho : Only S wr wr') (hS : ∀ k, S' k → S k ∨ wr.heap.size ≤ k) : StrsAt w wr' S' v M :=
  ⟨h.recs.only ho fun k hk => (h.off k hk).1, fun k hk => ⟨fun hs => by
    rcases hS _ hs with hs | hs
    · exact (h.off k hk).1 hs
    · have := (h.off k hk).2.1; omega, Nat.lt_of_lt_of_le (h.off k hk).2.1 ho.size, (h.off k hk).2.2⟩⟩
theorem StrsAt.below {w wr wr' : World} {S : Nat → Prop} {v : Value} {M : List (List UInt8)} (h : StrsAt w wr S v M) (hb : Below wr.heap.size wr wr') : StrsAt w wr' S v M :=
  ⟨h.recs.below hb, fun k hk => ⟨(h.off k hk).1, Nat.lt_of_lt_of_le (h.off k hk).2.1 hb.size, (h.off k hk).2.2⟩⟩
theorem StrsAt.cell {w wr : World} {S : Nat → Prop} {v : Value} {M : List (List UInt8)} (h : StrsAt w wr S v M) (hp : 0 < M.length) :
    ∃ g cap, v = .slice (some ⟨g, 0, none⟩) M.length cap ∧ ∀ (i : Nat) (hi : i < M.length), wr.cell? ⟨g, i, none⟩ = some (.string ⟨M[i].toArray⟩) := by
  obtain ⟨g, cap, rfl, _, _, _⟩ := h.recs.form' hp
  refine ⟨g, cap, rfl, fun i hi => ?_⟩
  have := h.recs.cellAt i 0 _ (List.getElem?_eq_getElem hi) (by omega)
  rw [show i * 1 + 0 = i by omega] at this
  rw [this]; rfl
/-- one more -/
theorem StrsAt.more {w wr w1 w2 : World} {S : Nat → Prop} {v v' : Value} {M : List (List UInt8)} {x : List UInt8} {g : Nat} {D : Dk} (h : StrsAt w wr S v M) (hr : Run w wr S g D) (hb : Below wr.heap.size wr w1) (hrec : Recs strC w2 9 1 v' (M ++ [x])) (hg : w1.grownBy w2 v.ownBlock) (hv : v'.ownBlock = v.ownBlock ∨ v'.ownBlock = some w1.heap.size) :
    StrsAt w w2 S v' (M ++ [x]) ∧ Run w w2 S g D := by
  have hsz := hr.below.size
  have hsz1 := hb.size
  refine ⟨⟨hrec, fun k hk => ?_⟩, hr.disk.below hb |>.keep hg.size (fun k hS => hg.block k ?_ ?_), ?_, hr.new⟩
  · rcases hv with hv | hv
    · have := h.off k (by rw [← hv]; exact hk)
      exact ⟨this.1, hrec.lt k hk, this.2.2⟩
    · rw [hv] at hk
      injection hk with hk
      subst hk
      exact ⟨fun hs => by have := hr.disk.lt _ hs; omega, hrec.lt _ hv, by omega⟩
  · have := hr.disk.lt k hS; omega
  · intro e
    exact (h.off k e.symm).1 hS
  · exact (hr.below.trans (hb.mono hsz)).grown hg (by omega) (fun k hk => (h.off k hk).2.2)

theorem laid_or (K : Nat → Bool) (ws : List (Nat × List UInt8)) (s : List (List UInt8)) (i : Nat) (hi : i < s.length) :
    (Dk.laid K ws s).getD i [] = s.getD i [] ∨ ∃ x ∈ ws, x.1 = i ∧ (Dk.laid K ws s).getD i [] = x.2 := by
  induction ws using Dk.snoc_ind with
  | h0 => exact .inl rfl
  | h1 l x ih =>
    rw [Dk.laid_snoc]
    by_cases hk : K l.length = true
    · rw [if_pos hk, List.getD, List.getElem?_set]
      by_cases h : x.1 = i
      · rw [if_pos h, Dk.laid_length, if_pos (by omega)]
        exact .inr ⟨x, by simp, h, rfl⟩
      · rw [if_neg h]
        rcases ih with ih | ⟨y, hy, h1, h2⟩
        · exact .inl ih
        · exact .inr ⟨y, by simp [hy], h1, h2⟩
    · rw [if_neg hk]
      rcases ih with ih | ⟨y, hy, h1, h2⟩
      · exact .inl ih
      · exact .inr ⟨y, by simp [hy], h1, h2⟩
theorem laid_keep_nil (ws : List (Nat × List UInt8)) (s : List (List UInt8)) : Dk.laid (Dk.keeps []) ws s = s := Dk.laid_false ws s

/-- a disk that writes are tried on: what waits is of what was tried -/
structure Tried (w wr : World) (S : Nat → Prop) (g : Nat) (D : Dk) (s0 : List (List UInt8)) (P : Nat → List UInt8 → Prop) (k : Nat) : Prop where
  run : Run w wr S g D
  size : D.secs.length = 4
  on : D.power = true
  free : D.budget = -1
  few : D.waits.length ≤ k
  same : D.secs = s0
  from_ : ∀ x ∈ D.waits, P x.1 x.2
theorem Tried.can {w wr : World} {S : Nat → Prop} {g : Nat} {D : Dk} {s0 : List (List UInt8)} {P : Nat → List UInt8 → Prop} {k : Nat} (h : Tried w wr S g D s0 P k) : D.can = true := by
  simp [Dk.can, h.on, h.free]
theorem Tried.still {w wr wr' : World} {S : Nat → Prop} {g : Nat} {D : Dk} {s0 : List (List UInt8)} {P : Nat → List UInt8 → Prop} {k : Nat} (h : Tried w wr S g D s0 P k) (hb : Below wr.heap.size wr wr') : Tried w wr' S g D s0 P k :=
  ⟨h.run.quiet hb, h.size, h.on, h.free, h.few, h.same, h.from_⟩
theorem Tried.next {w wr : World} {S : Nat → Prop} {g : Nat} {D : Dk} {s0 : List (List UInt8)} {P P' : Nat → List UInt8 → Prop} {k : Nat} (h : Tried w wr S g D s0 P k) (hP : ∀ i s, P i s → P' i s) : Tried w wr S g D s0 P' (k + 1) :=
  ⟨h.run, h.size, h.on, h.free, Nat.le_succ_of_le h.few, h.same, fun x hx => hP _ _ (h.from_ x hx)⟩
theorem Tried.put {w wr wr' : World} {S S' : Nat → Prop} {g : Nat} {D : Dk} {s0 : List (List UInt8)} {P P' : Nat → List UInt8 → Prop} {k i : Nat} {s : List UInt8} (h : Tried w wr S g D s0 P k) (hP : ∀ i s, P i s → P' i s) (hi : P' i s) (hd : DiskAt wr' S' g (D.put i s)) (ho : Only S wr wr') (hs : ∀ k, S' k → S k ∨ wr.heap.size ≤ k) : Tried w wr' S' g (D.put i s) s0 P' (k + 1) := by
  refine ⟨h.run.to hd ho hs, h.size, h.on, ?_, ?_, h.same, fun x hx => ?_⟩
  · show (if D.budget = -1 then (-1 : Int) else _) = -1
    rw [if_pos h.free]
  · show (D.waits ++ [(i, s)]).length ≤ k + 1
    have := h.few
    simp; omega
  · rcases List.mem_append.1 (show x ∈ D.waits ++ [(i, s)] from hx) with hx | hx
    · exact hP _ _ (h.from_ x hx)
    · simp only [List.mem_singleton] at hx; subst hx; exact hi

end Go.Proofs.Ytinfgfgmijjhjaa
