/-
  Package match: what a token may be, what is wrong with one, what it comes to; Expand.
-/
import Derived.Test.YtonfppbijofapaaMaV
namespace Go.Proofs.Ytonfppbijofapaa
open Go.RowKit
set_option linter.unusedVariables false
set_option linter.unusedSimpArgs false
set_option maxRecDepth 100000

set_option maxHeartbeats 1000000 in
/-- is this a literal? -/
theorem mkLit_any (t : Tok) (w : World) :
    Calls Try.prog 28 #[.agg (tokC t).toArray] w fun e w' => e = .returned (.bool (decide (t.len = 0) && decide (t.dist = 0))) ∧ Below w.heap.size w w' := by
  obtain ⟨lit, len, dist⟩ := t
  unfold tokC
  dsimp only
  go_enter Try.func28, Try.ntmps28
  by_cases a1 : len = 0
  · subst a1
    by_cases a2 : dist = 0
    · subst a2
      go_wp2
      go_ret
      exact ⟨rfl, (Below.refl _ _).alloc (Nat.le_refl _) _⟩
    · have a2b : (dist == 0) = false := by simpa using a2
      go_wp2
      go_ret
      exact ⟨rfl, (Below.refl _ _).alloc (Nat.le_refl _) _⟩
  · have a1b : (len == 0) = false := by simpa using a1
    go_wp2
    go_ret
    exact ⟨congrArg (fun b => Ending.returned (.bool b)) (by rw [decide_eq_false a1, Bool.false_and] : false = (decide (len = 0) && decide (dist = 0))), (Below.refl _ _).alloc (Nat.le_refl _) _⟩

set_option maxHeartbeats 4000000 in
/-- may this be a token? -/
theorem mkValid_any (t : Tok) (w : World) :
    Calls Try.prog 29 #[.agg (tokC t).toArray] w fun e w' => e = .returned (.bool (mayT t)) ∧ Below w.heap.size w w' := by
  have CL := Lib.hid (fun u => mkLit_any t u)
  obtain ⟨lit, len, dist⟩ := t
  have HL := Lib.hid (show ((lit.toNat : Int) == 0) = decide (lit = 0) by
    rw [Bool.eq_iff_iff, beq_iff_eq, decide_eq_true_iff, ← UInt8.toNat_inj]; simp)
  have HM := Lib.hid (show mayT ⟨lit, len, dist⟩ = ((decide (len = 0) && decide (dist = 0)) || ((lit.toNat : Int) == 0) && decide (3 ≤ len) && decide (len ≤ 258) && decide (1 ≤ dist) && decide (dist ≤ 32768)) by rw [HL.out]; rfl)
  unfold tokC at *
  dsimp only at *
  generalize hM : mayT ⟨lit, len, dist⟩ = M at *
  generalize hx : (lit.toNat : Int) = x at *
  clear hx HL hM
  go_enter Try.func29, Try.ntmps29
  go_wp2_with fail
  refine (CL.out _).mono ?_
  rintro e w2 ⟨rfl, hb2⟩
  have hrow := (hb2.block w.heap.size (by simp)).trans (heap_alloc_new w _)
  have y0 := cell_of_row _ w.heap.size 0 _ _ _ hrow
  have y1 := cell_of_row _ w.heap.size 1 _ _ _ hrow
  have y2 := cell_of_row _ w.heap.size 2 _ _ _ hrow
  change World.cell? _ ⟨w.heap.size, 0, none⟩ = some (.int .u8 x) at y0
  change World.cell? _ ⟨w.heap.size, 1, none⟩ = some (.int .i64 len) at y1
  change World.cell? _ ⟨w.heap.size, 2, none⟩ = some (.int .i64 dist) at y2
  have HB := Lib.hid (show Below w.heap.size w w2 from ((Below.refl w.heap.size w).alloc (Nat.le_refl _) (.cells #[.int .u8 x, .int .i64 len, .int .i64 dist] 51)).trans (hb2.mono (by simp)))
  clear hb2 hrow CL
  cases hlit : (decide (len = 0) && decide (dist = 0)) with
  | true =>
    rw [hlit, Bool.true_or] at HM
    go_wp2
    go_ret
    exact ⟨congrArg (fun b => Ending.returned (.bool b)) HM.out.symm, HB.out⟩
  | false =>
    rw [hlit, Bool.false_or] at HM
    clear hlit
    by_cases b1 : 3 ≤ len
    · by_cases b2 : len ≤ 258
      · by_cases b3 : 1 ≤ dist
        · by_cases b4 : dist ≤ 32768
          · by_cases b5 : x = 0
            · subst b5
              have H := Lib.hid (show true = M by rw [HM.out]; simp [b1, b2, b3, b4])
              go_wp2
              all_goals
                go_ret
                exact ⟨congrArg (fun b => Ending.returned (.bool b)) H.out, HB.out⟩
            · have b5b : (x == 0) = false := by simpa using b5
              have H := Lib.hid (show false = M by rw [HM.out, b5b]; rfl)
              clear b5
              go_wp2
              all_goals
                go_ret
                exact ⟨congrArg (fun b => Ending.returned (.bool b)) H.out, HB.out⟩
          · have H := Lib.hid (show false = M by rw [HM.out, decide_eq_false b4, Bool.and_false])
            go_wp2
            all_goals
              go_ret
              exact ⟨congrArg (fun b => Ending.returned (.bool b)) H.out, HB.out⟩
        · have H := Lib.hid (show false = M by rw [HM.out, decide_eq_false b3, Bool.and_false, Bool.false_and])
          go_wp2
          all_goals
            go_ret
            exact ⟨congrArg (fun b => Ending.returned (.bool b)) H.out, HB.out⟩
      · have H := Lib.hid (show false = M by rw [HM.out, decide_eq_false b2, Bool.and_false, Bool.false_and, Bool.false_and])
        go_wp2
        all_goals
          go_ret
          exact ⟨congrArg (fun b => Ending.returned (.bool b)) H.out, HB.out⟩
    · have H := Lib.hid (show false = M by rw [HM.out, decide_eq_false b1, Bool.and_false, Bool.false_and, Bool.false_and, Bool.false_and])
      go_wp2
      all_goals
        go_ret
        exact ⟨congrArg (fun b => Ending.returned (.bool b)) H.out, HB.out⟩
end Go.Proofs.Ytonfppbijofapaa
