/-
  few, same, awake of layer 10.
-/
import Derived.Test.YtklfoafbgniogaaLkL
import Derived.Test.YtklfoafbgniogaaLit
import Derived.Deep.QuietTactic
import Derived.BigQuiet
namespace Go.Proofs.Ytklfoafbgniogaa
open Go.RowKit Go.Deep
set_option linter.unusedVariables false
set_option linter.unusedSimpArgs false
set_option maxRecDepth 100000

def FewK (a : Option Addr) (cap : Nat) (w : World) (e : Ending) (w' : World) : Prop := w = w' ∧ ∃ m M, e = .returned (.slice a m cap) ∧ IntsAt w a m cap M ∧ m ≤ 322
theorem lmFew_any (a : Option Addr) (n cap : Nat) (L : List Int) (w : World) (h : IntsAt w a n cap L) :
    Calls Try.prog 7 #[.slice a n cap] w (FewK a cap w) := by
  have hcap := h.2.1
  have HL := Lib.hid h
  clear h
  by_cases hb : 322 < n
  · have hbi : (322 : Int) < n := by omega
    go_enter Try.func7, Try.ntmps7
    go_wp2
    go_ret
    exact ⟨rfl, 322, _, rfl, CameAt.headOf HL.out 322 (by omega), by omega⟩
  · have hbi : ¬ (322 : Int) < n := by omega
    by_cases h60 : 60 < n
    · have h60i : (60 : Int) < n := by omega
      by_cases h320 : n ≤ 320
      · have h320i : (n : Int) ≤ 320 := by omega
        go_enter Try.func7, Try.ntmps7
        go_wp2
        go_ret
        exact ⟨rfl, 60, _, rfl, CameAt.headOf HL.out 60 (by omega), by omega⟩
      · have h320i : ¬ (n : Int) ≤ 320 := by omega
        go_enter Try.func7, Try.ntmps7
        go_wp2
        go_ret
        exact ⟨rfl, n, _, rfl, HL.out, by omega⟩
    · have h60i : ¬ (60 : Int) < n := by omega
      go_enter Try.func7, Try.ntmps7
      go_wp2
      go_ret
      exact ⟨rfl, n, _, rfl, HL.out, by omega⟩

set_option maxHeartbeats 2000000 in
theorem lmSame_any (a : Option Addr) (n cap : Nat) (L : List Int) (b : Option Addr) (m c : Nat) (M : List Int) (w : World) (hL : IntsAt w a n cap L) (hM : IntsAt w b m c M) :
    Calls Try.prog 10 #[.slice a n cap, .slice b m c] w fun e w' => e = .returned (.bool (decide (L = M))) ∧ Below w.heap.size w w' := by
  have HL := Lib.hid hL
  have HM := Lib.hid hM
  have h1 : L.length = n := hL.1
  have h2 : M.length = m := hM.1
  have hn : n ≤ 9223372036854775807 := by have := hL.2.1; have := hL.2.2.1; unfold maxLen at *; omega
  have hm : m ≤ 9223372036854775807 := by have := hM.2.1; have := hM.2.2.1; unfold maxLen at *; omega
  by_cases hnm : n = m
  · subst hnm
    have HLL := Lib.hid h1
    have HML := Lib.hid h2
    clear hL hM h1 h2
    go_enter Try.func10, Try.ntmps10
    go_wp2
    go_loopw [5] (fun si wr => ∃ k : Nat, k ≤ n ∧ si = .int .i64 (k : Int) ∧ (∀ j, j < k → L.getD j 0 = M.getD j 0) ∧ Below w.heap.size w wr) (fun si _ => n - (intOf si).toNat)
    case atStart => exact ⟨0, Nat.zero_le _, rfl, fun j hj => by omega, Below.refl _ _⟩
    case round =>
      obtain ⟨k, hk, rfl, heq, hb⟩ := hrel
      have HEQ := Lib.hid heq
      have HB := Lib.hid hb
      clear heq hb
      by_cases hlt : k < n
      · obtain ⟨b1, off1, rfl, _, hc1⟩ := IntsAt.cell (CameAt.below HL.out (by omega) HB.out) (by omega)
        obtain ⟨b2, off2, rfl, _, hc2⟩ := IntsAt.cell (CameAt.below HM.out (by omega) HB.out) (by omega)
        have x1 := hc1 k hlt
        have x2 := hc2 k hlt
        have HY := Lib.hid (fun (h : L.getD k 0 = M.getD k 0) j (hj : j < k + 1) => show L.getD j 0 = M.getD j 0 by
          rcases Nat.lt_or_ge j k with h' | h'
          · exact HEQ.out j h'
          · rw [show j = k by omega]; exact h)
        have HN := Lib.hid (fun (h : L.getD k 0 ≠ M.getD k 0) => (decide_eq_false (fun e => h (by rw [e])) : decide (L = M) = false))
        have hki : (k : Int) < (n : Int) := by omega
        clear hc1 hc2
        generalize L.getD k 0 = x at *
        generalize M.getD k 0 = y at *
        by_cases hxy : x = y
        · have H := Lib.hid (HY.out hxy)
          subst hxy
          clear HY HN
          go_wp2
          go_quiet (fail)
          go_wp2
          go_roundw
          case rel => exact ⟨k + 1, by omega, by go_num, H.out, below_drewN HB.out nq⟩
          case measure => simp [intOf]; omega
        · have H := Lib.hid (HN.out hxy)
          have hxb : (x != y) = true := by rw [bne_iff_ne]; exact hxy
          clear HY HN hxy
          go_wp2
          go_quiet (fail)
          go_wp2
          go_ret
          exact ⟨congrArg (fun b => Ending.returned (.bool b)) H.out.symm, below_drewN HB.out nq⟩
      · obtain rfl : k = n := by omega
        have hLM : L = M := by
          have e1 := HLL.out
          have e2 := HML.out
          apply List.ext_getElem?
          intro j
          by_cases hj : j < k
          · have h1 := HEQ.out j hj
            rw [List.getD, List.getD, List.getElem?_eq_getElem (by omega), List.getElem?_eq_getElem (by omega)] at h1
            rw [List.getElem?_eq_getElem (by omega), List.getElem?_eq_getElem (by omega)]
            exact congrArg some h1
          · rw [List.getElem?_eq_none (by omega), List.getElem?_eq_none (by omega)]
        have HLM := Lib.hid (decide_eq_true hLM)
        have hki : ¬ (k : Int) < (k : Int) := by omega
        clear hLM
        go_wp2
        go_ret
        exact ⟨congrArg (fun b => Ending.returned (.bool b)) HLM.out.symm, HB.out⟩
  · have HLM := Lib.hid (show decide (L = M) = false from decide_eq_false fun e => hnm (by rw [← h1, ← h2, e]))
    have hnb : ((n : Int) != (m : Int)) = true := by rw [bne_iff_ne]; omega
    clear hL hM h1 h2 hnm
    go_enter Try.func10, Try.ntmps10
    go_wp2
    go_ret
    exact ⟨congrArg (fun b => Ending.returned (.bool b)) HLM.out.symm, Below.refl _ _⟩

/-! ### awake -/
theorem aw10_a : lensE [5, 1, 1] 15 = 0 ∧ lensL [5, 1, 1] 15 = [1, 2, 2] ∧ costV [5, 1, 1] [1, 2, 2] = 9 ∧ costE [5, 1, 1] [1, 2, 2] = 0 := by decide +kernel
theorem aw10_b : lensE [8, 4, 2, 1] 2 = 0 ∧ lensL [8, 4, 2, 1] 2 = [2, 2, 2, 2] ∧ lensE [0, 3] 15 = 0 ∧ lensL [0, 3] 15 = [0, 1] := by decide +kernel
theorem alloc_below (w : World) (o : Obj) : Below w.heap.size w (w.alloc o) := (Below.refl _ _).alloc (Nat.le_refl _) _
set_option maxHeartbeats 8000000 in
theorem awake10 (w : World) : Calls Try.prog 11 #[] w fun e w' => e = .returned (.bool true) ∧ Below w.heap.size w w' := by
  have C1 := limLengths_any _ _ _ _ 15 _ (lit_ints w [5, 1, 1] (by simp))
  unfold LensTo at C1
  rw [aw10_a.1, aw10_a.2.1] at C1
  have C1 := Lib.hid C1
  have B1 := Lib.hid (alloc_below w (.cells #[.int .i64 5, .int .i64 1, .int .i64 1] 3))
  go_enter Try.func11, Try.ntmps11
  go_wp2_with fail
  refine C1.out.mono ?_
  rintro e w1 ⟨a1, n1, c1, rfl, h1, hb1⟩
  have H1 := Lib.hid h1
  have B2 := Lib.hid (B1.out.trans (hb1.mono B1.out.size))
  clear C1 B1 h1 hb1
  have hb2 := alloc_below w1 (.cells #[.int .i64 5, .int .i64 1, .int .i64 1] 3)
  have B3 := Lib.hid (B2.out.trans (hb2.mono B2.out.size))
  have C2 := limCost_any _ _ _ _ a1 n1 c1 _ _ (lit_ints w1 [5, 1, 1] (by simp)) (CameAt.below H1.out (by omega) hb2)
  rw [aw10_a.2.2.1, aw10_a.2.2.2] at C2
  have C2 := Lib.hid C2
  have H2 := Lib.hid (show IntsAt _ a1 n1 c1 [1, 2, 2] from CameAt.below H1.out (by omega) hb2)
  clear hb2 H1 B2
  go_wp2_with fail
  refine C2.out.mono ?_
  rintro e w2 ⟨rfl, hb3⟩
  have B4 := Lib.hid (B3.out.trans (hb3.mono B3.out.size))
  have H3 := Lib.hid (show IntsAt _ a1 n1 c1 [1, 2, 2] from CameAt.below H2.out (by omega) hb3)
  clear C2 H2 B3 hb3
  have hb4 := alloc_below w2 (.cells #[.int .i64 8, .int .i64 4, .int .i64 2, .int .i64 1] 3)
  have B5 := Lib.hid (B4.out.trans (hb4.mono B4.out.size))
  have H4 := Lib.hid (show IntsAt _ a1 n1 c1 [1, 2, 2] from CameAt.below H3.out (by omega) hb4)
  have C3 := limLengths_any _ _ _ _ 2 _ (lit_ints w2 [8, 4, 2, 1] (by simp))
  unfold LensTo at C3
  rw [aw10_b.1, aw10_b.2.1] at C3
  have C3 := Lib.hid C3
  clear hb4 H3 B4
  go_wp2_with fail
  refine C3.out.mono ?_
  rintro e w3 ⟨a2, n2, c2, rfl, h5, hb5⟩
  have B6 := Lib.hid (B5.out.trans (hb5.mono B5.out.size))
  have H6 := Lib.hid (show IntsAt _ a1 n1 c1 [1, 2, 2] from CameAt.below H4.out (by omega) hb5)
  have K6 := Lib.hid h5
  clear C3 H4 B5 h5 hb5
  have hb6 := alloc_below w3 (.cells #[.int .i64 0, .int .i64 3] 3)
  have B7 := Lib.hid (B6.out.trans (hb6.mono B6.out.size))
  have H7 := Lib.hid (show IntsAt _ a1 n1 c1 [1, 2, 2] from CameAt.below H6.out (by omega) hb6)
  have K7 := Lib.hid (show IntsAt _ a2 n2 c2 [2, 2, 2, 2] from CameAt.below K6.out (by omega) hb6)
  have C4 := limLengths_any _ _ _ _ 15 _ (lit_ints w3 [0, 3] (by simp))
  unfold LensTo at C4
  rw [aw10_b.2.2.1, aw10_b.2.2.2] at C4
  have C4 := Lib.hid C4
  clear hb6 H6 K6 B6
  go_wp2_with fail
  refine C4.out.mono ?_
  rintro e w4 ⟨a3, n3, c3, rfl, h8, hb8⟩
  have B8 := Lib.hid (B7.out.trans (hb8.mono B7.out.size))
  have H8 := Lib.hid (show IntsAt _ a1 n1 c1 [1, 2, 2] from CameAt.below H7.out (by omega) hb8)
  have K8 := Lib.hid (show IntsAt _ a2 n2 c2 [2, 2, 2, 2] from CameAt.below K7.out (by omega) hb8)
  have J8 := Lib.hid h8
  clear C4 H7 K7 B7 h8 hb8
  have hb9 := alloc_below w4 (.cells #[.int .i64 1, .int .i64 2, .int .i64 2] 3)
  have B9 := Lib.hid (B8.out.trans (hb9.mono B8.out.size))
  have K9 := Lib.hid (show IntsAt _ a2 n2 c2 [2, 2, 2, 2] from CameAt.below K8.out (by omega) hb9)
  have J9 := Lib.hid (show IntsAt _ a3 n3 c3 [0, 1] from CameAt.below J8.out (by omega) hb9)
  have C5 := lmSame_any a1 n1 c1 _ _ _ _ _ _ (CameAt.below H8.out (by omega) hb9) (lit_ints w4 [1, 2, 2] (by simp))
  simp only [decide_true] at C5
  have C5 := Lib.hid C5
  clear hb9 H8 K8 J8 B8
  go_wp2_with fail
  refine C5.out.mono ?_
  rintro e w5 ⟨rfl, hb10⟩
  have B10 := Lib.hid (B9.out.trans (hb10.mono B9.out.size))
  have K10 := Lib.hid (show IntsAt _ a2 n2 c2 [2, 2, 2, 2] from CameAt.below K9.out (by omega) hb10)
  have J10 := Lib.hid (show IntsAt _ a3 n3 c3 [0, 1] from CameAt.below J9.out (by omega) hb10)
  clear C5 K9 J9 B9 hb10
  have hb11 := alloc_below w5 (.cells #[.int .i64 2, .int .i64 2, .int .i64 2, .int .i64 2] 3)
  have B11 := Lib.hid (B10.out.trans (hb11.mono B10.out.size))
  have J11 := Lib.hid (show IntsAt _ a3 n3 c3 [0, 1] from CameAt.below J10.out (by omega) hb11)
  have C6 := lmSame_any a2 n2 c2 _ _ _ _ _ _ (CameAt.below K10.out (by omega) hb11) (lit_ints w5 [2, 2, 2, 2] (by simp))
  simp only [decide_true] at C6
  have C6 := Lib.hid C6
  clear hb11 K10 J10 B10
  go_wp2_with fail
  refine C6.out.mono ?_
  rintro e w6 ⟨rfl, hb12⟩
  have B12 := Lib.hid (B11.out.trans (hb12.mono B11.out.size))
  have J12 := Lib.hid (show IntsAt _ a3 n3 c3 [0, 1] from CameAt.below J11.out (by omega) hb12)
  clear C6 J11 B11 hb12
  have hb13 := alloc_below w6 (.cells #[.int .i64 0, .int .i64 1] 3)
  have B13 := Lib.hid (B12.out.trans (hb13.mono B12.out.size))
  have C7 := lmSame_any a3 n3 c3 _ _ _ _ _ _ (CameAt.below J12.out (by omega) hb13) (lit_ints w6 [0, 1] (by simp))
  simp only [decide_true] at C7
  have C7 := Lib.hid C7
  clear hb13 J12 B12
  go_wp2_with fail
  refine C7.out.mono ?_
  rintro e w7 ⟨rfl, hb14⟩
  have B14 := Lib.hid (B13.out.trans (hb14.mono B13.out.size))
  clear C7 B13 hb14
  go_wp2
  go_ret
  exact ⟨rfl, B14.out⟩
end Go.Proofs.Ytklfoafbgniogaa
