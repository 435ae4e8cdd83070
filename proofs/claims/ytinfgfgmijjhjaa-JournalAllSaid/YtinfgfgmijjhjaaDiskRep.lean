/-
  A disk in memory; the functions that ask little.
-/
import Derived.Test.YtinfgfgmijjhjaaRecs
import Derived.Test.YtinfgfgmijjhjaaDiskMath
import Derived.Deep.WholeRow
import Derived.Deep.DeepCutAuto
namespace Go.Proofs.Ytinfgfgmijjhjaa
open Go.RowKit
set_option linter.unusedVariables false
set_option linter.unusedSimpArgs false

def waitC (x : Nat × List UInt8) : List Value := .int .i64 x.1 :: vals x.2

def diskC (vs vw : Value) (D : Dk) : Array Value := #[vs, vw, .bool D.power, .int .i64 D.budget]

/-- the disk at block g is D, its two slices are vs and vw; all that it has lies in S -/
structure DiskIs (w : World) (S : Nat → Prop) (g : Nat) (D : Dk) (vs vw : Value) : Prop where
  ok : D.Ok
  lt : ∀ k, S k → k < w.heap.size
  self : S g
  blk : w.heap[g]? = some (.cells (diskC vs vw D) 83 (0, 0))
  secs : Recs vals w 106 128 vs D.secs
  waits : Recs waitC w 108 129 vw D.waits
  inS : ∀ k, vs.ownBlock = some k → S k
  inW : ∀ k, vw.ownBlock = some k → S k

/-- the disk at block g is D; all that it has lies in S -/
def DiskAt (w : World) (S : Nat → Prop) (g : Nat) (D : Dk) : Prop := ∃ vs vw, DiskIs w S g D vs vw

theorem DiskAt.is {w : World} {S : Nat → Prop} {g : Nat} {D : Dk} (h : DiskAt w S g D) : ∃ vs vw, DiskIs w S g D vs vw := h
theorem DiskAt.ok {w : World} {S : Nat → Prop} {g : Nat} {D : Dk} (h : DiskAt w S g D) : D.Ok := by obtain ⟨_, _, h⟩ := h; exact h.ok
theorem DiskAt.lt {w : World} {S : Nat → Prop} {g : Nat} {D : Dk} (h : DiskAt w S g D) : ∀ k, S k → k < w.heap.size := by obtain ⟨_, _, h⟩ := h; exact h.lt
theorem DiskAt.self {w : World} {S : Nat → Prop} {g : Nat} {D : Dk} (h : DiskAt w S g D) : S g := by obtain ⟨_, _, h⟩ := h; exact h.self
theorem DiskAt.ex {w : World} {S : Nat → Prop} {g : Nat} {D : Dk} (h : DiskAt w S g D) : ∃ vs vw, w.heap[g]? = some (.cells (diskC vs vw D) 83 (0, 0)) ∧ Recs vals w 106 128 vs D.secs ∧ Recs waitC w 108 129 vw D.waits ∧ (∀ k, vs.ownBlock = some k → S k) ∧ (∀ k, vw.ownBlock = some k → S k) := by
  obtain ⟨vs, vw, h⟩ := h
  exact ⟨vs, vw, h.blk, h.secs, h.waits, h.inS, h.inW⟩

theorem DiskIs.keep {w w' : World} {S : Nat → Prop} {g : Nat} {D : Dk} {vs vw : Value} (h : DiskIs w S g D vs vw) (hs : w.heap.size ≤ w'.heap.size) (hk : ∀ k, S k → w'.heap[k]? = w.heap[k]?) : DiskIs w' S g D vs vw :=
  ⟨h.ok, fun k hS => Nat.lt_of_lt_of_le (h.lt k hS) hs, h.self, (hk g h.self).trans h.blk, h.secs.keep fun k hv => hk k (h.inS k hv), h.waits.keep fun k hv => hk k (h.inW k hv), h.inS, h.inW⟩
theorem DiskIs.only {w w' : World} {S T : Nat → Prop} {g : Nat} {D : Dk} {vs vw : Value} (h : DiskIs w S g D vs vw) (ho : Only T w w') (hd : ∀ k, S k → ¬ T k) : DiskIs w' S g D vs vw :=
  h.keep ho.size fun k hS => ho.block k (h.lt k hS) (hd k hS)
theorem DiskIs.below {w w' : World} {S : Nat → Prop} {g : Nat} {D : Dk} {vs vw : Value} (h : DiskIs w S g D vs vw) (hb : Below w.heap.size w w') : DiskIs w' S g D vs vw :=
  h.keep hb.size fun k hS => hb.block k (h.lt k hS)
theorem DiskAt.keep {w w' : World} {S : Nat → Prop} {g : Nat} {D : Dk} (h : DiskAt w S g D) (hs : w.heap.size ≤ w'.heap.size) (hk : ∀ k, S k → w'.heap[k]? = w.heap[k]?) : DiskAt w' S g D := by
  obtain ⟨vs, vw, h⟩ := h
  exact ⟨vs, vw, h.keep hs hk⟩
theorem DiskAt.only {w w' : World} {S T : Nat → Prop} {g : Nat} {D : Dk} (h : DiskAt w S g D) (ho : Only T w w') (hd : ∀ k, S k → ¬ T k) : DiskAt w' S g D :=
  h.keep ho.size fun k hS => ho.block k (h.lt k hS) (hd k hS)
theorem DiskAt.below {w w' : World} {S : Nat → Prop} {g : Nat} {D : Dk} (h : DiskAt w S g D) (hb : Below w.heap.size w w') : DiskAt w' S g D :=
  h.keep hb.size fun k hS => hb.block k (h.lt k hS)
theorem DiskAt.drewN {w : World} {S : Nat → Prop} {g : Nat} {D : Dk} (h : DiskAt w S g D) (n : Nat) : DiskAt (w.drewN n) S g D := h.keep (Nat.le_refl _) fun _ _ => rfl

/-- the disk becomes D' -/
def DiskTo (v : Value) (S : Nat → Prop) (g : Nat) (D' : Dk) (w : World) (e : Ending) (w' : World) : Prop :=
  e = .returned v ∧ ∃ S', DiskAt w' S' g D' ∧ Only S w w' ∧ ∀ k, S' k → S k ∨ w.heap.size ≤ k

/-- the cells of the disk, as a walk wants them -/
theorem DiskAt.cells {w : World} {S : Nat → Prop} {g : Nat} {D : Dk} {vs vw : Value} (h : w.heap[g]? = some (.cells (diskC vs vw D) 83 (0, 0))) :
    w.cell? ⟨g, 0, none⟩ = some vs ∧ w.cell? ⟨g, 1, none⟩ = some vw ∧ w.cell? ⟨g, 2, none⟩ = some (.bool D.power) ∧ w.cell? ⟨g, 3, none⟩ = some (.int .i64 D.budget) ∧ ∀ i, w.frozen? ⟨g, i, none⟩ = false :=
  ⟨by rw [cell_of_row w g 0 _ _ _ h]; rfl, by rw [cell_of_row w g 1 _ _ _ h]; rfl, by rw [cell_of_row w g 2 _ _ _ h]; rfl, by rw [cell_of_row w g 3 _ _ _ h]; rfl, fun i => frozen_of_row w g i _ _ h⟩

/-! ### Size, Power, there -/
theorem size_any (g : Nat) (D : Dk) (S : Nat → Prop) (w : World) (h : DiskAt w S g D) :
    Calls Try.prog 43 #[.pointer (some ⟨g, 0, none⟩)] w fun e w' => e = .returned (.int .i64 D.secs.length) ∧ w = w' := by
  obtain ⟨vs, vw, h1, h2, h3, h4, h5⟩ := h.ex
  obtain ⟨a, cap, rfl, _, _⟩ := h2.form
  obtain ⟨c0, _⟩ := DiskAt.cells (S := S) h1
  clear h1 h2 h3 h4 h5 h
  go_enter Try.func43, Try.ntmps43
  go_wp2
  go_ret
  exact ⟨rfl, rfl⟩

theorem power_any (g : Nat) (D : Dk) (S : Nat → Prop) (w : World) (h : DiskAt w S g D) :
    Calls Try.prog 63 #[.pointer (some ⟨g, 0, none⟩)] w fun e w' => e = .returned (.bool D.power) ∧ w = w' := by
  obtain ⟨vs, vw, h1, h2, h3, h4, h5⟩ := h.ex
  obtain ⟨_, _, c2, _⟩ := DiskAt.cells (S := S) h1
  clear h1 h2 h3 h4 h5 h
  go_enter Try.func63, Try.ntmps63
  go_wp2
  go_ret
  exact ⟨rfl, rfl⟩

theorem there_yes (g : Nat) (i : Nat) (D : Dk) (S : Nat → Prop) (w : World) (h : DiskAt w S g D) (hi : i < D.secs.length) :
    Calls Try.prog 58 #[.pointer (some ⟨g, 0, none⟩), .int .i64 i] w fun e w' => e = .returned (.bool true) ∧ w = w' := by
  obtain ⟨vs, vw, h1, h2, h3, h4, h5⟩ := h.ex
  obtain ⟨a, cap, rfl, _, _⟩ := h2.form
  obtain ⟨c0, _⟩ := DiskAt.cells (S := S) h1
  clear h1 h2 h3 h4 h5 h
  go_enter Try.func58, Try.ntmps58
  go_wp2
  go_ret
  exact ⟨rfl, rfl⟩

theorem there_no (g : Nat) (i : Int) (D : Dk) (S : Nat → Prop) (w : World) (h : DiskAt w S g D) (hi : i < 0 ∨ (D.secs.length : Int) ≤ i) :
    Calls Try.prog 58 #[.pointer (some ⟨g, 0, none⟩), .int .i64 i] w fun e w' => e = .returned (.bool false) ∧ w = w' := by
  obtain ⟨vs, vw, h1, h2, h3, h4, h5⟩ := h.ex
  obtain ⟨a, cap, rfl, _, _⟩ := h2.form
  obtain ⟨c0, _⟩ := DiskAt.cells (S := S) h1
  clear h1 h2 h3 h4 h5 h
  by_cases h0 : 0 ≤ i
  · have h1 : ¬ i < (D.secs.length : Int) := by omega
    have h1' : (D.secs.length : Int) ≤ i := by omega
    go_enter Try.func58, Try.ntmps58
    go_wp2
    go_ret
    exact ⟨rfl, rfl⟩
  · go_enter Try.func58, Try.ntmps58
    go_wp2
    go_ret
    exact ⟨rfl, rfl⟩

/-! ### octets: a sector, in new memory -/
def ReadN (P : Value → Value) (n : Nat) (l : List UInt8) (w : World) (e : Ending) (w' : World) : Prop :=
  ∃ a cap, e = .returned (P (.slice a n cap)) ∧ BytesAt w' a n cap l ∧ Below w.heap.size w w' ∧ ∀ x, a = some x → w.heap.size ≤ x.block ∧ x.block < w'.heap.size
theorem octets_any (l : List UInt8) (w : World) (hl : l.length = 128) :
    Calls Try.prog 64 #[.agg (vals l).toArray] w (ReadN id 128 l w) := by
  have hsz : (vals l).toArray.size = 128 := by simp [vals_length, hl]
  go_enter Try.func64, Try.ntmps64
  go_wp2
  go_ret
  refine ⟨_, _, rfl, ?_, (Below.refl _ _).alloc (Nat.le_refl _) _, fun x hx => by cases hx; simp⟩
  refine BytesAt.of_cells hl (Nat.le_refl _) (by unfold maxLen; omega) fun i hi => ?_
  rw [Nat.zero_add, cell_of_row _ _ i _ _ _ (heap_alloc_new w _), ← Array.getElem?_toList, List.toList_toArray, vals_at _ _ (by omega)]

theorem sizeSec : (Try.prog.info? 106).map (·.size) = some 128 := by kernel_rfl

theorem vals_one (l : List UInt8) : (vals l).toArray.all (·.oneCell') = true := all_oneCell_toArray (mem_vals_oneCell l)

/-! ### Has -/
theorem has_no (g : Nat) (i : Int) (D : Dk) (S : Nat → Prop) (w : World) (h : DiskAt w S g D) (hi : i < 0 ∨ (D.secs.length : Int) ≤ i) :
    Calls Try.prog 33 #[.pointer (some ⟨g, 0, none⟩), .int .i64 i] w fun e w' => e = .returned (.tuple #[.slice none 0 0, .int .i64 4]) ∧ w = w' := by
  have CT := Lib.hid (there_no g i D S w h hi)
  clear h hi
  go_enter Try.func33, Try.ntmps33
  go_wp2_with (go_at_call 58; refine (CT.out).mono ?_; rintro e w1 ⟨rfl, rfl⟩)
  go_ret2
  exact ⟨rfl, rfl⟩

set_option maxRecDepth 100000 in
theorem has_yes (g : Nat) (i : Nat) (D : Dk) (S : Nat → Prop) (w : World) (h : DiskAt w S g D) (hi : i < D.secs.length) :
    Calls Try.prog 33 #[.pointer (some ⟨g, 0, none⟩), .int .i64 i] w (ReadN (fun v => .tuple #[v, .int .i64 0]) 128 (D.secs.getD i []) w) := by
  have CT := Lib.hid (there_yes g i D S w h hi)
  obtain ⟨vs, vw, h1, h2, h3, h4, h5⟩ := h.ex
  obtain ⟨a, cap, rfl, hc1, hc2, _⟩ := h2.form' (by omega)
  obtain ⟨c0, _⟩ := DiskAt.cells (S := S) h1
  have hx : D.secs[i]? = some (D.secs.getD i []) := by rw [List.getD, List.getElem?_eq_getElem hi]; rfl
  have HR := Lib.hid (h2.rangeAt i _ hx)
  have CO := Lib.hid (octets_any (D.secs.getD i []) w (h.ok.getD i hi))
  have HL := Lib.hid (h.ok.getD i hi)
  have hin : (i : Int) < (D.secs.length : Int) := by omega
  generalize D.secs.getD i [] = l at *
  clear h1 h2 h3 h4 h5 h hx
  go_enter Try.func33, Try.ntmps33
  go_wp2_with (first
    | (go_at_call 58; refine (CT.out).mono ?_; rintro e w1 ⟨rfl, rfl⟩)
    | (refine wpList_load_mid rfl 106 _ rfl a (i * 128) rfl (vals l) _ HR.out Try.underlying106 rfl (by rw [vals_length, HL.out]; exact sizeSec) ?_)
    | (go_at_call 64; refine (CO.out).mono ?_; rintro e w2 ⟨a2, c2, rfl, hr2, hb2, hn2⟩))
  go_ret2
  exact ⟨a2, c2, rfl, hr2, hb2, hn2⟩

end Go.Proofs.Ytinfgfgmijjhjaa
