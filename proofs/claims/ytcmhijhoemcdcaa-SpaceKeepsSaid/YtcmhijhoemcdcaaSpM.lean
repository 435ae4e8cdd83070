/-
  The reference's reading of a space, as the laws ask it; what the laws' loops reckon.
-/
import Derived.Test.YtcmhijhoemcdcaaSpL
namespace Go.Proofs.Ytcmhijhoemcdcaa
open Go.RowKit
set_option linter.unusedVariables false
set_option linter.unusedSimpArgs false
set_option maxRecDepth 100000

theorem FU_len (N : Int) (l : List UInt8) : (FU N l).length ≤ 2048 := by
  unfold FU
  cases h : mayS N l with
  | false => simp
  | true => rw [if_pos rfl]; have := may_len2 h; simp [flagsL]; omega
def FlagsRd (N : Int) (l : List UInt8) (u : World) (e : Ending) (w' : World) : Prop :=
  ∃ av cv, e = .returned (.tuple #[.slice av (FU N l).length cv, .bool (mayS N l)]) ∧ BoolsAt w' av (FU N l).length cv (FU N l) ∧ Below u.heap.size u w'
theorem flags_rd {u : World} {N : Int} {a : Option Addr} {n cap : Nat} {l : List UInt8} (h : BytesAt u a n cap l) (hn : n ≤ 258) : Calls Try.prog 11 #[.agg #[.int .i64 N, .slice a n cap]] u (FlagsRd N l u) := by
  refine Calls.mono (rflags_any N a n cap l u h hn) ?_
  rintro e w' ⟨av, cv, rfl, ho, hb⟩
  have hl : (if mayS N l then N.toNat else 0) = (FU N l).length := by
    unfold FU
    cases hm : mayS N l with
    | false => rfl
    | true => simp [flagsL]
  have ho2 : w'.ownsRow u.heap.size 4 1 (.slice av (FU N l).length cv) (FU N l).length (bvals (FU N l)) := by
    rw [← hl]; exact ho
  rw [hl]
  exact ⟨av, cv, rfl, bools_owned ho2, hb⟩

theorem count_take (F : List Bool) (i : Nat) (h : i < F.length) : (F.take (i + 1)).count true = (F.take i).count true + (if F.getD i false then 1 else 0) := by
  rw [List.take_add_one, List.count_append, List.getElem?_eq_getElem h, List.getD, List.getElem?_eq_getElem h]
  cases F[i] <;> simp
def usedB (F : List Bool) (p : Int) (i : Nat) : Bool := decide (0 ≤ p ∧ p < i) && F.getD p.toNat false
theorem usedB_zero (F : List Bool) (p : Int) : usedB F p 0 = false := by simp [usedB]; omega
theorem usedB_all (F : List Bool) (p : Int) : usedB F p F.length = (decide (0 ≤ p) && F.getD p.toNat false) := by
  unfold usedB
  by_cases h : 0 ≤ p
  · by_cases h2 : p < F.length
    · simp [h, h2]
    · have : F.getD p.toNat false = false := by rw [List.getD, List.getElem?_eq_none (by omega)]; rfl
      rw [this]; simp
  · simp [h]
theorem usedB_skip (F : List Bool) (p : Int) (i : Nat) (h : F.getD i false = false) : usedB F p (i + 1) = usedB F p i := by
  unfold usedB
  by_cases hp : p = i
  · subst hp; rw [Int.toNat_natCast, h]; simp
  · have : decide (0 ≤ p ∧ p < ((i + 1 : Nat) : Int)) = decide (0 ≤ p ∧ p < (i : Int)) := by
      rw [decide_eq_decide]; omega
    rw [this]
theorem usedB_or (F : List Bool) (p : Int) (i : Nat) (h : F.getD i false = true) : usedB F p (i + 1) = (usedB F p i || ((i : Int) == p)) := by
  unfold usedB
  by_cases hp : p = i
  · subst hp; rw [Int.toNat_natCast, h]; simp; omega
  · have : decide (0 ≤ p ∧ p < ((i + 1 : Nat) : Int)) = decide (0 ≤ p ∧ p < (i : Int)) := by
      rw [decide_eq_decide]; omega
    have h2 : ((i : Int) == p) = false := by rw [beq_eq_false_iff_ne]; exact fun e => hp e.symm
    rw [this, h2, Bool.or_false]

theorem mk_bools (m : Nat) (hm : m ≤ 1048576) (u : World) : (Instr.makeSlice 31 (.int .i64 m) (.int .i64 m)).run Try.prog u = .ok (.slice (some ⟨u.heap.size, 0, none⟩) m m) (u.alloc (.cells (madeCells #[.bool false] m) 4)) := by
  obtain ⟨i0, hi, hz0, hz1, hz2⟩ := info_parts infoBool
  have := run_make u 31 4 i0 _ Try.underlying31 hi hz0 .i64 .i64 m m (by omega) (by omega) (by rw [hz2]; omega) (by omega)
  rw [hz1] at this
  simpa [Value.cells] using this
theorem made_bools (m : Nat) (hm : m ≤ 1048576) (w : World) : BoolsAt (w.alloc (.cells (madeCells #[.bool false] m) 4)) (some ⟨w.heap.size, 0, none⟩) m m (List.replicate m false) := by
  have hmc : (madeCells #[.bool false] m).toList = bvals (List.replicate m false) := by rw [toList_madeCells_one]; unfold bvals; rw [List.map_replicate]
  refine bools_owned (base := w.heap.size) (t := 4) ?_
  rw [← hmc]
  have hCl : (madeCells #[.bool false] m).size = m := by have := congrArg List.length hmc; simpa [bvals] using this
  exact ⟨by simp [hCl], .inr ⟨w.heap.size, m, _, rfl, Nat.le_refl _, heap_alloc_new _ _, Nat.le_refl _, by unfold maxLen; omega, by omega, by rw [Nat.mul_one, List.take_of_length_le]; simp; omega⟩⟩

end Go.Proofs.Ytcmhijhoemcdcaa
