/-
  Contracts of package tree: number, valueWidth, mayHave, slices.Grow, slices.Concat, page.
-/
import Derived.Test.YtflboggjbjfkjaaTrRep
import Derived.Test.YtflboggjbjfkjaaOctCon
import Derived.Lib.AppendZeros
namespace Go.Proofs.Ytflboggjbjfkjaa
open Go.RowKit
set_option linter.unusedVariables false
set_option linter.unusedSimpArgs false
set_option maxRecDepth 100000

theorem number_any (v wd : Nat) (w : World) (h1 : 1 ≤ wd) (h2 : wd ≤ 8) (hv : v < 256 ^ wd) :
    Calls Try.prog 50 #[.int .u64 v, .int .i64 wd] w (FreshB id wd (leB wd v) w) := by
  have CP := Lib.hid (put_ok v wd w h1 h2 hv)
  clear hv
  go_enter Try.func50, Try.ntmps50
  go_wp2_with (go_at_call 59; refine (CP.out).mono ?_; rintro e w1 ⟨a, cap, rfl, ho, hb⟩)
  go_ret
  exact ⟨a, cap, rfl, ho, hb⟩

theorem valueWidth_any (k : Nat) (w : World) :
    Calls Try.prog 41 #[.int .u64 k] w fun e w' => e = .returned (.int .i64 (vwN k : Nat)) ∧ w = w' := by
  by_cases hk : k = 1
  · subst hk
    rw [vwN_one]
    go_enter Try.func41, Try.ntmps41
    go_wp2
    go_ret
    exact ⟨rfl, rfl⟩
  · have e : vwN k = 2 := by unfold vwN; rw [if_neg hk]
    rw [e]
    have hk2 : ¬ (k : Int) = 1 := by omega
    go_enter Try.func41, Try.ntmps41
    go_wp2
    go_ret
    exact ⟨rfl, rfl⟩

theorem mayHave_any (k c : Nat) (w : World) :
    Calls Try.prog 40 #[.int .u64 k, .int .u64 c] w fun e w' => e = .returned (.bool (mayN k c)) ∧ w = w' := by
  by_cases h1 : k = 1
  · subst h1
    have e : mayN 1 c = decide ((c : Int) ≤ 7) := by unfold mayN; apply decide_eq_decide.2; omega
    rw [e]
    go_enter Try.func40, Try.ntmps40
    go_wp2
    go_ret
    exact ⟨rfl, rfl⟩
  · by_cases h2 : k = 2
    · subst h2
      by_cases hc : 1 ≤ c
      · have e : mayN 2 c = decide ((c : Int) ≤ 12) := by unfold mayN; apply decide_eq_decide.2; omega
        rw [e]
        have hc2 : (1 : Int) ≤ (c : Int) := by omega
        go_enter Try.func40, Try.ntmps40
        go_wp2
        go_ret
        exact ⟨rfl, rfl⟩
      · have e : mayN 2 c = false := by unfold mayN; apply decide_eq_false; omega
        rw [e]
        have hc2 : ¬ (1 : Int) ≤ (c : Int) := by omega
        go_enter Try.func40, Try.ntmps40
        go_wp2
        go_ret
        exact ⟨rfl, rfl⟩
    · have e : mayN k c = false := by unfold mayN; apply decide_eq_false; omega
      rw [e]
      have k1 : ¬ (k : Int) = 1 := by omega
      have k2 : ¬ (k : Int) = 2 := by omega
      go_enter Try.func40, Try.ntmps40
      go_wp2
      go_ret
      exact ⟨rfl, rfl⟩

theorem grow_any (m : Nat) (w : World) (h0 : 0 < m) (hm : m ≤ 140737488355328) :
    Calls Try.prog 58 #[.slice none 0 0, .int .i64 m] w fun e w' => ∃ g cap, e = .returned (.slice (some ⟨g, 0, none⟩) 0 cap) ∧ w'.ownsRow w.heap.size 5 1 (.slice (some ⟨g, 0, none⟩) 0 cap) 0 [] ∧ Below w.heap.size w w' := by
  obtain ⟨i0, hi, hz0, hz1, hz2⟩ := info_parts infoU8
  have hr := Lib.run_append_nil_zeros (P := Try.prog) w 34 3 34 5 i0 (.int .u8 0) .i64 .i64 Try.underlying34 Try.underlying3 hi hz0 m h0 (by omega) (by omega) (by rw [hz2]; omega)
  have HR := Lib.hid hr
  clear hr hi hz0 hz1 hz2
  have hx : (0 : Int) < (m : Int) := by omega
  go_enter Try.func58, Try.ntmps58
  go_wp2_with (at_builtin; refine Lib.wpList_append_run w rfl _ _ 34 3 rfl _ _ rfl rfl _ _ HR.out ?_)
  go_ret
  have hge := grownCap_ge w m 0 5
  have hle := grownCap_le_maxLen w m 0 5 (by unfold maxLen; omega)
  refine ⟨w.heap.size, grownCap w m 0 5, rfl, ⟨rfl, .inr ⟨w.heap.size, _, _, rfl, Nat.le_refl _, heap_alloc_new w.drew _, Nat.zero_le _, hle, ?_, rfl⟩⟩, ((Below.refl _ w).drew).alloc (Nat.le_refl _) _⟩
  rw [Array.size_append, size_zeroCells, size_zeroCells]
  show m * 1 + (grownCap w m 0 5 - m) * 1 = grownCap w m 0 5 * 1
  omega

theorem flat_take {P : List (List UInt8)} (k : Nat) (hk : k < P.length) : (P.take (k + 1)).flatten = (P.take k).flatten ++ P.getD k [] := by
  rw [List.take_succ_eq_append_getElem hk, List.flatten_append]
  simp [List.getD, List.getElem?_eq_getElem hk]
theorem flat_le {P : List (List UInt8)} (k : Nat) : (P.take k).flatten.length ≤ P.flatten.length := by
  conv => rhs; rw [← List.take_append_drop k P, List.flatten_append, List.length_append]
  omega

set_option maxHeartbeats 1000000 in
theorem concat_any (a : Option Addr) (n cap : Nat) (P : List (List UInt8)) (w : World) (hP : RowsR w a n cap P) (h0 : 0 < P.flatten.length) (hm : P.flatten.length ≤ 140737488355328) :
    Calls Try.prog 49 #[.slice a n cap] w (FreshB id P.flatten.length P.flatten w) := by
  have HP := Lib.hid hP
  obtain ⟨T, hT⟩ : ∃ T, P.flatten.length = T := ⟨_, rfl⟩
  rw [hT] at h0 hm ⊢
  have HT := Lib.hid hT
  clear hT
  have HL := Lib.hid hP.len
  have hcp := hP.caps
  have hn : n ≤ 9223372036854775807 := by have := hcp.1; have := hcp.2; unfold maxLen at *; omega
  have CG := Lib.hid (fun u (h : Below w.heap.size w u) => grow_any T u h0 hm)
  clear hP hcp h0
  go_enter Try.func49, Try.ntmps49
  go_wp2
  go_loop [3, 11] (fun x i => ∃ k : Nat, k ≤ n ∧ i = .int .i64 k ∧ x = .int .i64 ((P.take k).flatten.length : Nat)) (fun _ i => n - (intOf i).toNat)
  case atStart => exact ⟨0, Nat.zero_le _, rfl, by simp⟩
  case round =>
    obtain ⟨k, hk, rfl, rfl⟩ := hrel
    by_cases hlt : k < n
    · obtain ⟨b, off, rfl, hb, hc⟩ := HP.out.at [] (by omega)
      obtain ⟨⟨ha, hn1, hc1⟩, hcell, hB⟩ := hc k hlt
      have hbl := hB.1
      have hft := flat_take (P := P) k (by rw [HL.out]; exact hlt)
      have hfl := flat_le (P := P) (k + 1)
      rw [hft, List.length_append, hbl, HT.out] at hfl
      have HFT := Lib.hid (show (P.take (k + 1)).flatten.length = (P.take k).flatten.length + hn1 by rw [hft, List.length_append, hbl])
      clear hft hbl hB hc
      generalize (P.take k).flatten.length = s at *
      dsimp only at hfl hcell
      have hs0 : (0 : Int) ≤ (s : Int) + (hn1 : Int) := by omega
      go_wp2
      refine ⟨⟨k + 1, by omega, by go_num, by rw [HFT.out]; go_num⟩, by simp [intOf]; omega⟩
    · obtain rfl : k = n := by omega
      rw [List.take_of_length_le (Nat.le_of_eq HL.out), HT.out]
      have HFL := Lib.hid (fun j => flat_le (P := P) j)
      have HFT := Lib.hid (fun j (h : j < P.length) => flat_take (P := P) j h)
      go_wp2_with (go_at_call 58; refine (CG.out _ (Below.refl _ _)).mono ?_; rintro e w1 ⟨g, gc, rfl, ho1, hb1⟩)
      have HP1 := Lib.hid (HP.out.below hb1)
      go_loopw [6, 27] (fun x i wr => ∃ (j : Nat) (a' : Option Addr) (N cap' : Nat), j ≤ k ∧ i = .int .i64 j ∧ x = .slice a' N cap' ∧ wr.ownsRow w.heap.size 5 1 (.slice a' N cap') N (vals (P.take j).flatten) ∧ Below w.heap.size w wr) (fun _ i _ => k - (intOf i).toNat)
      case atStart => exact ⟨0, some ⟨g, 0, none⟩, 0, gc, Nat.zero_le _, rfl, rfl, by simpa [vals] using ho1, hb1⟩
      case round =>
        obtain ⟨j, a', N, cap', hj, rfl, rfl, ho, hb⟩ := hrel
        have hN := ho.1
        rw [vals_length, Nat.mul_one] at hN
        by_cases hlt : j < k
        · obtain ⟨b, off, rfl, hbb, hc⟩ := HP.out.at [] (by omega)
          obtain ⟨⟨ha, hn1, hc1⟩, hcell, hB⟩ := hc j hlt
          have hbl := hB.1
          have hft := HFT.out j (by rw [HL.out]; exact hlt)
          have hfl := HFL.out (j + 1)
          rw [hft, List.length_append, hbl, hN, HT.out] at hfl
          dsimp only at hfl hcell
          have hcell2 := (hb.cell (p := ⟨b, off + j, none⟩) hbb).trans hcell
          have HB2 := Lib.hid (hB.below hb)
          have HO := Lib.hid ho
          have HB := Lib.hid hb
          clear hcell hB hb ho hc hbl hN
          have HFJ := Lib.hid hft
          clear hft
          generalize (P.take j).flatten = Q at *
          generalize P.getD j [] = R at *
          have HM := Lib.hid (show N + hn1 ≤ 140737488355328 by omega)
          go_wp2_with (refine wpList_append_bytes rfl (.tmp 31) (.tmp 32) rfl w.heap.size (.slice a' N cap') N (vals Q) rfl HO.out ha hn1 hc1 R rfl HB2.out (N + hn1) rfl HM.out HB.out.size ?_; intro a3 cap3 w3 ho3 hg3)
          refine ⟨⟨j + 1, a3, N + hn1, cap3, by omega, by go_num, rfl, ?_, HB.out.grown hg3 HB.out.size (fun q hq => (HO.out.lt q hq).1)⟩, by simp [intOf]; omega⟩
          rw [HFJ.out]
          simpa [vals] using ho3
        · obtain rfl : j = k := by omega
          rw [List.take_of_length_le (Nat.le_of_eq HL.out)] at ho hN
          rw [HT.out] at hN
          subst hN
          go_wp2
          go_ret
          exact ⟨a', cap', rfl, ho, hb⟩

end Go.Proofs.Ytflboggjbjfkjaa
