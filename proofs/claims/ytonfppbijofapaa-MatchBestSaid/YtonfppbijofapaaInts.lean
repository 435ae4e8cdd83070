/-
  Slices of ints: that came in, and the call's own.
-/
import Derived.Test.YtonfppbijofapaaCame
import Derived.Test.YtonfppbijofapaaOpen
import Derived.BigFrame
namespace Go.Proofs.Ytonfppbijofapaa
open Go.ChangeShapes Go.WideShapes Go.ChangeAt Go.RowKit
set_option linter.unusedVariables false
set_option linter.unusedSimpArgs false
set_option maxRecDepth 100000

def intCS (z : Int) : List Value := [.int .i64 z]
/-- a slice of ints that came in -/
def IntsAt := CameAt intCS 1
theorem IntsAt.cell {w : World} {a : Option Addr} {n cap : Nat} {L : List Int} (h : IntsAt w a n cap L) (hn : 0 < n) :
    ∃ b off, a = some ⟨b, off, none⟩ ∧ b < w.heap.size ∧ ∀ i, i < n → w.cell? ⟨b, off + i, none⟩ = some (.int .i64 (L.getD i 0)) := by
  obtain ⟨b, off, h1, h2, h3⟩ := CameAt.at h hn (by omega)
  refine ⟨b, off, h1, h2, fun i hi => ?_⟩
  have hx : L[i]? = some (L.getD i 0) := by rw [List.getD, List.getElem?_eq_getElem (by have := h.1; omega)]; rfl
  have := h3 i 0 _ hx (by omega)
  simpa [intCS] using this

theorem infoIntS : (Try.prog.info? 3).map (fun i => (i.zero, i.size, i.bytes)) = some (some (.int .i64 0), 1, 8) := by kernel_rfl
def ivals (P : List Nat) : List Value := P.map fun (p : Nat) => .int .i64 (p : Int)
theorem came_owned {α : Type} {f : α → Value} {w : World} {base n cap : Nat} {a : Option Addr} {L : List α} {t : TypeId} (h : w.ownsRow base t 1 (.slice a n cap) n (L.map f)) : CameAt (fun x => [f x]) 1 w a n cap L := by
  have hl : L.length = n := by have := h.1; simpa using this
  rcases h.2 with ⟨h', h0⟩ | ⟨g, cap', cur, h', hb, hg, hnc, hcm, hcs, htake⟩
  · simp at h'
    obtain ⟨rfl, rfl, rfl⟩ := h'
    exact ⟨hl, Nat.le_refl _, by simp, by simp, .inl ⟨rfl, rfl, rfl⟩⟩
  · simp only [Value.slice.injEq, true_and] at h'
    obtain ⟨rfl, rfl⟩ := h'
    refine ⟨hl, hnc, hcm, by simp, .inr ⟨_, rfl, fun i j x hx hj => ?_⟩⟩
    obtain rfl : j = 0 := by omega
    have hi : i < L.length := (List.getElem?_eq_some_iff.1 hx).1
    rw [Addr.add_mid, Nat.zero_add, World.ownsRow.cellAt h (i * 1 + 0) (by omega), Nat.mul_one, Nat.add_zero, List.getElem?_map, hx]
    rfl
theorem ints_owned {w : World} {base n cap : Nat} {a : Option Addr} {P : List Nat} {t : TypeId} (h : w.ownsRow base t 1 (.slice a n cap) n (ivals P)) : IntsAt w a n cap (P.map Int.ofNat) := by
  have : ivals P = (P.map Int.ofNat).map fun z => .int .i64 z := by simp [ivals]
  rw [this] at h
  exact came_owned h
theorem ivals_eq (P : List Nat) : ivals P = (P.map Int.ofNat).map fun z => .int .i64 z := by simp [ivals]
def zvals (L : List Int) : List Value := L.map fun z => .int .i64 z
theorem zvals_one (l : List Int) : ∀ u ∈ zvals l, u.oneCell' = true := by
  intro u hu
  simp only [zvals, List.mem_map] at hu
  obtain ⟨b, _, rfl⟩ := hu
  rfl
theorem zints_owned {w : World} {base n cap : Nat} {a : Option Addr} {L : List Int} {t : TypeId} (h : w.ownsRow base t 1 (.slice a n cap) n (zvals L)) : IntsAt w a n cap L := came_owned h
/-- ints laid behind a row of the call's own, whatever slice they come from; the operation may stand behind a guard -/
theorem wpList_append_intsG {w : World} {ops : Array Oper} {rest : List Oper} {o : Oper} {a : Act} {Q : Exit → Act → World → Prop} (hw : Region.wanted o (yielded ops a.tmps) = true) (s x : Operand)
    (ho : o.op = .call { callee := .builtin .append, args := #[s, x], argTypes := #[61, 61] })
    (base : Nat) (v : Value) (n : Nat) (xs : List Value) (hs : a.eval s = v) (hown : w.ownsRow base 3 1 v n xs)
    (sa : Option Addr) (m c : Nat) (l : List Int) (hx : a.eval x = .slice sa m c) (hsrc : IntsAt w sa m c l) (N : Nat) (hN : N = n + m)
    (h63 : N * 8 ≤ 140737488355328) (hbase : base ≤ w.heap.size)
    (h : ∀ a' cap' w', w'.ownsRow base 3 1 (.slice a' N cap') N (xs ++ zvals l) → w.grownBy w' v.ownBlock → wpList Try.prog ops Q rest (a.put o.dst (.slice a' N cap')) w') : wpList Try.prog ops Q (o :: rest) a w := by
  refine Go.BigFrame.wpList_want hw fun K hK => ?_
  obtain ⟨i0, hi, hz0, hz1, hz2⟩ := info_parts infoIntS
  subst hN
  obtain ⟨h1, h2, h3, h5, h4⟩ := hsrc
  rcases h4 with ⟨rfl, rfl, rfl⟩ | ⟨ad, rfl, hc⟩
  · have : l = [] := List.eq_nil_of_length_eq_zero h1
    subst this
    have hrun := run_append_owned_none (P := Try.prog) (w := w) base 61 o.type 3 i0 1 Try.underlying61 hi v n xs hown
    unfold Oper.wp
    simp [execOp, ho, resolve, invoke, builtin, hs, hx, hrun, Result.andThen]
    rw [Oper.upon_value]
    obtain ⟨a', cap', rfl⟩ := owned_shape hown
    have := h a' cap' w (by simpa [zvals] using hown) (World.grownBy.refl _ _)
    exact hK _ _ (by simpa using this)
  · subst h1
    refine wp_append_own w s x 61 ho base 3 i0 (.int .i64 0) 1 8 Try.underlying61 hi hz0 hz1 hz2 rfl (by decide) v n xs hs hown ad l.length c (zvals l) hx (by simp [zvals]) ?_ (zvals_one l) (by unfold maxLen; omega) (by omega) hbase ?_
    · intro j u hj
      have hj' : j < l.length := by
        have := (List.getElem?_eq_some_iff.1 hj).1
        simpa [zvals] using this
      have := hc j 0 l[j] (List.getElem?_eq_getElem hj') (by omega)
      rw [Nat.mul_one, Nat.add_zero] at this
      rw [this, ← hj]
      simp [intCS, zvals, List.getElem?_eq_getElem hj']
    · intro v' w' ho' hg' _
      obtain ⟨a', cap', rfl⟩ := owned_shape ho'
      exact hK _ _ (h a' cap' w' ho' hg')
theorem build_ints (u : World) : (Instr.buildSlice 61 0 #[]).run Try.prog u = .ok (.slice (some ⟨u.heap.size, 0, none⟩) 0 0) (u.alloc (.cells #[] 3)) := by
  obtain ⟨i0, hi, hz0, hz1, hz2⟩ := info_parts infoIntS
  simp [Instr.buildSlice, run_underlying Try.underlying61, sizeOf, typeInfo, hi, Instr.fill, newRow, Array.range_zero']

section
variable {H : Type} {enc : TypeId × Value → H} {W : World} {base : Nat} {sp : Nat → Bool} {held : Bool}
theorem open_intsAt {r : Reach} {b0 : Nat} {v : Value} {d : DataW H} {p : List MemPlace} (hv : Value.okWide Try.prog W r b0 61 v) (h : DataW.Trod enc Try.prog W base sp held 61 v d p) :
    ∃ a n cap L, v = .slice a n cap ∧ IntsAt W a n cap L := by
  obtain ⟨a, len, cap, rfl⟩ := okWide_slice Try.underlying61 hv
  obtain ⟨fuel, hf⟩ := h
  rcases open_ints Try.underlying61 Try.underlying3 (by kernel_rfl) hf with ⟨hcs, _⟩ | ⟨x, l, c, zs, hcs, _, hl, hm, hz, _, hcell, hwz⟩
  · simp [Value.cells] at hcs
    obtain ⟨rfl, rfl, rfl⟩ := hcs
    exact ⟨_, _, _, [], rfl, CameAt.nil _ _ _⟩
  · simp [Value.cells] at hcs
    obtain ⟨rfl, rfl, rfl⟩ := hcs
    refine ⟨_, _, _, zs.take len, rfl, by simp; split at hz <;> omega, hl, hm, by simp [intCS], .inr ⟨_, rfl, fun i j z hi hj => ?_⟩⟩
    obtain rfl : j = 0 := by omega
    rw [Nat.mul_one, Nat.add_zero]
    have hil : i < (zs.take len).length := (List.getElem?_eq_some_iff.1 hi).1
    have hil2 : i < zs.length := by simp at hil; omega
    have hil3 : i < len := by simp at hil; omega
    rw [hcell i hil2]
    rw [List.getElem?_take_of_lt hil3, List.getElem?_eq_getElem hil2] at hi
    simp only [Option.some.injEq] at hi
    simp [intCS, ← hi, List.getD, List.getElem?_eq_getElem hil2]
end

end Go.Proofs.Ytonfppbijofapaa
