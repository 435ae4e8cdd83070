/-
  A piece of the proof, laid together by program: SrtD SrtE SrtF SrtG SrtH SrtI.
-/
import Derived.Test.YtjcmphjjkeigjaaGreatPbC
import Derived.Deep.CutBlock
import Derived.Lib.Strings
import Derived.Lib.Slices
import Derived.Lib.Small
import Derived.Lib.Walk
import Derived.Lib.BitFns
import Derived.Sort.LotD1
import Derived.Laws.Bits64
import Derived.Laws.Bits64b
import Derived.Deep.DeepCutAuto

namespace Go.Proofs.YtjcmphjjkeigjaaGreat
open Go.RowKit
set_option linter.unusedVariables false
set_option linter.unusedSimpArgs false

def pi2 (a i : Nat) (d : Array Nat) : Array Nat := if 2 ≤ i - a then Sort.shiftDown ltN (i - 1) d else d
def pi3 (b i : Nat) (d : Array Nat) : Array Nat := if 2 ≤ b - i then Sort.shiftUp ltN b (i + 1) d else d
theorem pi_zero (a b i : Nat) (d : Array Nat) : Sort.partialIns ltN a b 0 i d = (d, false) := rfl
theorem pi_true (a b s i : Nat) (d : Array Nat) (h : Sort.scanSorted ltN d b i = b) : Sort.partialIns ltN a b (s + 1) i d = (d, true) := by
  rw [Sort.partialIns]; simp [h]
theorem pi_short (a b s i : Nat) (d : Array Nat) (h : Sort.scanSorted ltN d b i ≠ b) (h5 : b - a < 50) : Sort.partialIns ltN a b (s + 1) i d = (d, false) := by
  rw [Sort.partialIns]; simp [h, h5]
theorem pi_step (a b s i j : Nat) (d : Array Nat) (hj : Sort.scanSorted ltN d b i = j) (h : j ≠ b) (h5 : ¬ b - a < 50) : Sort.partialIns ltN a b (s + 1) i d = Sort.partialIns ltN a b s j (pi3 b j (pi2 a j (Sort.swp d j (j - 1)))) := by
  rw [Sort.partialIns]; simp only [hj, if_neg h, if_neg h5]; rfl
theorem scan_go (b i : Nat) (d : Array Nat) (h : i < b) (hl : ltN d[i]! d[i - 1]! = false) : Sort.scanSorted ltN d b i = Sort.scanSorted ltN d b (i + 1) := by
  rw [Sort.scanSorted, if_pos (by simp [h, hl])]
theorem scan_less (b i : Nat) (d : Array Nat) (hl : ltN d[i]! d[i - 1]! = true) : Sort.scanSorted ltN d b i = i := by
  rw [Sort.scanSorted, if_neg (by simp [hl])]
theorem scan_end (b i : Nat) (d : Array Nat) (h : ¬ i < b) : Sort.scanSorted ltN d b i = i := by
  rw [Sort.scanSorted, if_neg (by simp [h])]
theorem down_stop (j : Nat) (d : Array Nat) (hl : ltN d[j + 1]! d[j]! = false) : Sort.shiftDown ltN (j + 1) d = d := by rw [Sort.shiftDown, if_pos (by simp [hl])]
theorem down_go (j : Nat) (d : Array Nat) (hl : ltN d[j + 1]! d[j]! = true) : Sort.shiftDown ltN (j + 1) d = Sort.shiftDown ltN j (Sort.swp d (j + 1) j) := by rw [Sort.shiftDown, if_neg (by simp [hl])]
theorem up_stop (b j : Nat) (d : Array Nat) (hl : ltN d[j]! d[j - 1]! = false) : Sort.shiftUp ltN b j d = d := by rw [Sort.shiftUp]; simp [hl]
theorem up_go (b j : Nat) (d : Array Nat) (h : j < b) (hl : ltN d[j]! d[j - 1]! = true) : Sort.shiftUp ltN b j d = Sort.shiftUp ltN b (j + 1) (Sort.swp d j (j - 1)) := by rw [Sort.shiftUp, if_pos h]; simp [hl]
theorem up_end (b j : Nat) (d : Array Nat) (h : ¬ j < b) : Sort.shiftUp ltN b j d = d := by rw [Sort.shiftUp, if_neg h]

set_option maxHeartbeats 4000000 in
set_option maxRecDepth 100000 in
theorem partial_any (g n cap : Nat) (d : Array Nat) (a b : Nat) (w : World) (h : RowU w (.slice (some ⟨g, 0, none⟩) n cap) d) (hab : a < b) (hb : b ≤ n) (hn : n ≤ 1073741824) :
    Calls Tryz.prog 197 #[.slice (some ⟨g, 0, none⟩) n cap, .int .i64 a, .int .i64 b] w (SortTo (.slice (some ⟨g, 0, none⟩) n cap) g (.bool (Sort.partialInsertionSort ltN d a b).2) (Sort.partialInsertionSort ltN d a b).1 w) := by
  obtain ⟨hsz, hnc, hcm⟩ := h.len
  unfold maxLen at hcm
  have HS := Lib.hid (RowW.start h)
  have HSZ := Lib.hid hsz
  clear h hsz
  obtain ⟨R, hR⟩ : ∃ R, R = Sort.partialInsertionSort ltN d a b := ⟨_, rfl⟩
  have HST := Lib.hid (show Sort.partialIns ltN a b 5 (a + 1) d = R from hR.symm)
  rw [← hR]
  clear hR
  go_enter Tryz.func197, Tryz.ntmps197
  go_wp2
  go_loopw [7, 8] (fun x y wr => ∃ (i t : Nat) (dk : Array Nat), x = .int .i64 i ∧ y = .int .i64 t ∧ t ≤ 5 ∧ a < i ∧ i ≤ b ∧ dk.size = n ∧ RowW w g n cap dk wr ∧ Sort.partialIns ltN a b (5 - t) i dk = R) (fun _ y _ => 5 - (intOf y).toNat)
  case atStart => exact ⟨a + 1, 0, d, by simp, rfl, by omega, by omega, by omega, HSZ.out, HS.out, HST.out⟩
  case round =>
    clear HS HST
    obtain ⟨i, t, dk, rfl, rfl, ht, hai, hib, hdk, hrw, heq⟩ := hrel
    have HRW := Lib.hid hrw
    have HEQ := Lib.hid heq
    have HDK := Lib.hid hdk
    have hcw := hrw.row.cells
    have hfw := hrw.row.frozen
    rw [hdk] at hcw
    clear hrw heq hdk
    by_cases ht5 : t < 5
    · have hti : (t : Int) < 5 := by omega
      obtain ⟨s, hs⟩ : ∃ s, 5 - t = s + 1 := ⟨4 - t, by omega⟩
      rw [hs] at HEQ
      have HSS := Lib.hid hs
      clear hs
      go_upto_block 2 with (fail)
      go_cut [7] (fun s7 wc => ∃ j : Nat, s7 = .int .i64 j ∧ i ≤ j ∧ j ≤ b ∧ Sort.scanSorted ltN dk b i = j ∧ RowW w g n cap dk wc)
      case first =>
        go_wp2_with fail
        go_loopw [7] (fun x wr2 => ∃ j : Nat, x = .int .i64 j ∧ i ≤ j ∧ j ≤ b ∧ RowW w g n cap dk wr2 ∧ Sort.scanSorted ltN dk b i = Sort.scanSorted ltN dk b j) (fun x _ => b - (intOf x).toNat)
        case atStart => exact ⟨i, rfl, Nat.le_refl _, hib, HRW.out, rfl⟩
        case round =>
          clear hcw hfw
          obtain ⟨j, rfl, hij, hjb, hrw, heq⟩ := hrel
          have HRJ := Lib.hid hrw
          have HEJ := Lib.hid heq
          have hcw := hrw.row.cells
          have hfw := hrw.row.frozen
          rw [HDK.out] at hcw
          clear hrw heq
          by_cases hlt : j < b
          · have hlti : (j : Int) < (b : Int) := by omega
            obtain ⟨q, hq⟩ : ∃ q, q = j - 1 := ⟨_, rfl⟩
            have hqi : (j : Int) - 1 = (q : Int) := by omega
            have hqn : q < n := by omega
            have hjn : j < n := by omega
            have HQ := Lib.hid hq
            clear hq
            go_wp2_with fail
            go_big_quiet (first | (go_at_call 198; refine Calls.quiet_of_same (less_any _ _ _)))
            go_wp2_with fail
            · have hl : ltN dk[j]! dk[q]! = false := by
                have : (!ltN dk[j]! dk[q]!) = true := by assumption
                simpa using this
              go_roundw
              case rel => exact ⟨j + 1, by first | rfl | simp, by omega, by omega, HRJ.out.drew _, by rw [HEJ.out, scan_go b j dk hlt (by rw [← HQ.out]; exact hl)]⟩
              case measure => simp only [intOf]; omega
            · have hl : ltN dk[j]! dk[q]! = true := by
                have : (!ltN dk[j]! dk[q]!) = false := by assumption
                simpa using this
              go_meet
              exact ⟨j, rfl, hij, hjb, by rw [HEJ.out, scan_less b j dk (by rw [← HQ.out]; exact hl)], HRJ.out.drew _⟩
          · have hlti : ¬ (j : Int) < (b : Int) := by omega
            go_wp2_with fail
            go_big_quiet (fail)
            go_wp2_with fail
            go_meet
            exact ⟨j, rfl, hij, hjb, by rw [HEJ.out, scan_end b j dk hlt], HRJ.out.drew _⟩
      case rest =>
        clear hcw hfw HRW
        rename_i wc
        obtain ⟨j, rfl, hij, hjb, hsc, hrw⟩ := hcut
        have HRW := Lib.hid hrw
        have HSC := Lib.hid hsc
        have hcw := hrw.row.cells
        have hfw := hrw.row.frozen
        rw [HDK.out] at hcw
        clear hrw hsc
        by_cases hjb2 : j = b
        · have hji : (j : Int) = (b : Int) := by omega
          have HJ := Lib.hid hjb2
          clear hjb2
          go_wp2_with fail
          have h1 := HEQ.out
          rw [pi_true a b s i dk (HSC.out.trans HJ.out)] at h1
          go_ret
          rw [← h1]
          exact HRW.out.done _
        · have hji : ¬ (j : Int) = (b : Int) := by omega
          obtain ⟨m, hm⟩ : ∃ m, m = b - a := ⟨_, rfl⟩
          have hmi : (b : Int) - (a : Int) = (m : Int) := by omega
          by_cases h50 : m < 50
          · have h5i : (m : Int) < 50 := by omega
            have HJ := Lib.hid hjb2
            have HM := Lib.hid hm
            clear hjb2 hm
            go_wp2_with fail
            have h1 := HEQ.out
            rw [pi_short a b s i dk (by rw [HSC.out]; exact HJ.out) (by rw [← HM.out]; exact h50)] at h1
            go_ret
            rw [← h1]
            exact HRW.out.done _
          · have h5i : ¬ (m : Int) < 50 := by omega
            obtain ⟨q, hq⟩ : ∃ q, q = j - 1 := ⟨_, rfl⟩
            have hqi : (j : Int) - 1 = (q : Int) := by omega
            have hqn : q < n := by omega
            have hjn : j < n := by omega
            have hqj : q < j := by omega
            have HE2 := Lib.hid ((pi_step a b s i j dk HSC.out hjb2 (by omega)).symm.trans HEQ.out)
            rw [← hq] at HE2
            have HQ := Lib.hid hq
            have hjb3 : j < b := by omega
            have HRS := Lib.hid (HRW.out.swp j q (by rw [HDK.out]; exact hjn) (by rw [HDK.out]; exact hqn)).drew1
            have HD1 := Lib.hid (show (Sort.swp dk j q).size = n by rw [swp_sz]; exact HDK.out)
            clear hq hjb2
            go_wp2_with fail
            go_region
            clear hcw hfw HRW
            obtain ⟨d1, hd1⟩ : ∃ d1, d1 = Sort.swp dk j q := ⟨_, rfl⟩
            rw [← hd1] at HRS HD1 HE2
            clear hd1
            generalize World.drew _ = w1 at *
            obtain ⟨e1, he1⟩ : ∃ e, (j : Int) - (a : Int) = e := ⟨_, rfl⟩
            go_upto_if 61 with (fail)
            go_cut [9] (fun s9 wc => ∃ d2, d2 = pi2 a j d1 ∧ d2.size = n ∧ RowW w g n cap d2 wc)
            case first =>
              by_cases h2x : 2 ≤ j - a
              · have h2i : ¬ e1 < 2 := by omega
                go_upto_block 4 with (fail)
                obtain ⟨j1, hj1⟩ : ∃ j1, j1 = j - 1 := ⟨_, rfl⟩
                have hj1i : (j : Int) - 1 = (j1 : Int) := by omega
                go_wp2_with fail
                go_loopw [9] (fun x wr2 => ∃ (p : Nat) (dp : Array Nat), x = .int .i64 p ∧ p ≤ j1 ∧ dp.size = n ∧ RowW w g n cap dp wr2 ∧ Sort.shiftDown ltN p dp = Sort.shiftDown ltN j1 d1) (fun x _ => (intOf x).toNat)
                case atStart => exact ⟨j1, d1, by rw [show (q : Int) = (j1 : Int) by omega], Nat.le_refl _, HD1.out, HRS.out, rfl⟩
                case round =>
                  obtain ⟨p, dp, rfl, hp, hdp, hrw, heq⟩ := hrel
                  have HRP := Lib.hid hrw
                  have HEP := Lib.hid heq
                  have HDP := Lib.hid hdp
                  have hcw := hrw.row.cells
                  have hfw := hrw.row.frozen
                  rw [hdp] at hcw
                  clear hrw heq hdp
                  by_cases hp0 : 0 < p
                  · obtain ⟨r, hr⟩ : ∃ r, p = r + 1 := ⟨p - 1, by omega⟩
                    have hri : (p : Int) - 1 = (r : Int) := by omega
                    have hp1 : ¬ (p : Int) < 1 := by omega
                    have hpn : p < n := by omega
                    have hrn : r < n := by omega
                    have hrp : r < p := by omega
                    have HR := Lib.hid hr
                    clear hr
                    go_wp2_with fail
                    go_big_quiet (first | (go_at_call 198; refine Calls.quiet_of_same (less_any _ _ _)))
                    go_wp2_with fail
                    · have hl : ltN dp[p]! dp[r]! = false := by
                        have : (!ltN dp[p]! dp[r]!) = true := by assumption
                        simpa using this
                      go_meet
                      have h1 := HEP.out
                      have h2 := HR.out
                      subst h2
                      rw [down_stop r dp hl] at h1
                      exact ⟨dp, by rw [h1]; unfold pi2; rw [if_pos h2x, hj1], HDP.out, HRP.out.drew _⟩
                    · have hl : ltN dp[p]! dp[r]! = true := by
                        have : (!ltN dp[p]! dp[r]!) = false := by assumption
                        simpa using this
                      have HRT := Lib.hid (((HRP.out).drew nq).swp p r (by rw [HDP.out]; exact hpn) (by rw [HDP.out]; exact hrn)).drew1
                      have hcw2 : ∀ t, t < n → (wr.drewN nq).cell? ⟨g, t, none⟩ = some (.int .u64 (dp[t]! : Nat)) := hcw
                      have hfw2 : ∀ t, (wr.drewN nq).frozen? ⟨g, t, none⟩ = false := hfw
                      clear hcw hfw
                      generalize wr.drewN nq = wr3 at *
                      go_region
                      go_wp2_with fail
                      go_roundw
                      case rel => exact ⟨r, Sort.swp dp p r, rfl, by omega, by rw [swp_sz]; exact HDP.out, HRT.out, by
                        have h2 := HR.out
                        subst h2
                        rw [← HEP.out]; exact (down_go r dp hl).symm⟩
                      case measure => simp only [intOf]; omega
                  · have hp1 : (p : Int) < 1 := by omega
                    go_wp2_with fail
                    go_meet
                    have hp2 : p = 0 := by omega
                    have h1 := HEP.out
                    rw [hp2] at h1
                    exact ⟨dp, by unfold pi2; rw [if_pos h2x, ← hj1, ← h1]; rfl, HDP.out, HRP.out⟩
              · have h2i : e1 < 2 := by omega
                go_wp2_with fail
                go_meet
                exact ⟨d1, by unfold pi2; rw [if_neg h2x], HD1.out, HRS.out⟩
            case rest =>
              clear HRS HD1
              rename_i wz
              obtain ⟨d2, hd2, hs2, hrw2⟩ := hcut
              rw [← hd2] at HE2
              have HRS := Lib.hid hrw2
              have HD2 := Lib.hid hs2
              clear hd2 hs2 hrw2
              obtain ⟨e2, he2⟩ : ∃ e, (b : Int) - (j : Int) = e := ⟨_, rfl⟩
              go_upto_if 98 with (fail)
              by_cases h2x : 2 ≤ b - j
              · have h2i : ¬ e2 < 2 := by omega
                go_upto_block 6 with (fail)
                go_wp2_with fail
                go_loopw [10] (fun x wr2 => ∃ (p : Nat) (dp : Array Nat), x = .int .i64 p ∧ j < p ∧ p ≤ b ∧ dp.size = n ∧ RowW w g n cap dp wr2 ∧ Sort.shiftUp ltN b p dp = Sort.shiftUp ltN b (j + 1) d2) (fun x _ => b - (intOf x).toNat)
                case atStart => exact ⟨j + 1, d2, by first | rfl | simp, by omega, by omega, HD2.out, HRS.out, rfl⟩
                case round =>
                  obtain ⟨p, dp, rfl, hjp, hpb, hdp, hrw, heq⟩ := hrel
                  have HRP := Lib.hid hrw
                  have HEP := Lib.hid heq
                  have HDP := Lib.hid hdp
                  have hcw := hrw.row.cells
                  have hfw := hrw.row.frozen
                  rw [hdp] at hcw
                  clear hrw heq hdp
                  by_cases hpb2 : p < b
                  · obtain ⟨r, hr⟩ : ∃ r, r = p - 1 := ⟨_, rfl⟩
                    have hri : (p : Int) - 1 = (r : Int) := by omega
                    have hp1 : (p : Int) < (b : Int) := by omega
                    have hpn : p < n := by omega
                    have hrn : r < n := by omega
                    have hrp : r < p := by omega
                    have HR := Lib.hid hr
                    clear hr
                    go_wp2_with fail
                    go_big_quiet (first | (go_at_call 198; refine Calls.quiet_of_same (less_any _ _ _)))
                    go_wp2_with fail
                    · have hl : ltN dp[p]! dp[r]! = false := by
                        have : (!ltN dp[p]! dp[r]!) = true := by assumption
                        simpa using this
                      have h1 := HEP.out
                      rw [up_stop b p dp (by rw [← HR.out]; exact hl)] at h1
                      go_roundw
                      case rel => exact ⟨j, t + 1, dp, rfl, by first | rfl | simp, by omega, by omega, by omega, HDP.out, HRP.out.drew _, by
                        have h3 : pi3 b j d2 = dp := by rw [h1]; unfold pi3; rw [if_pos h2x]
                        rw [← h3, ← HE2.out]; congr 1; have := HSS.out; omega⟩
                      case measure => simp only [intOf]; omega
                    · have hl : ltN dp[p]! dp[r]! = true := by
                        have : (!ltN dp[p]! dp[r]!) = false := by assumption
                        simpa using this
                      have HRT := Lib.hid (((HRP.out).drew nq).swp p r (by rw [HDP.out]; exact hpn) (by rw [HDP.out]; exact hrn)).drew1
                      have hcw2 : ∀ t, t < n → (wr.drewN nq).cell? ⟨g, t, none⟩ = some (.int .u64 (dp[t]! : Nat)) := hcw
                      have hfw2 : ∀ t, (wr.drewN nq).frozen? ⟨g, t, none⟩ = false := hfw
                      clear hcw hfw
                      generalize wr.drewN nq = wr3 at *
                      go_region
                      go_wp2_with fail
                      go_roundw
                      case rel => exact ⟨p + 1, Sort.swp dp p r, by first | rfl | simp, by omega, by omega, by rw [swp_sz]; exact HDP.out, HRT.out, by
                        rw [← HEP.out, HR.out]; exact (up_go b p dp hpb2 (by rw [← HR.out]; exact hl)).symm⟩
                      case measure => simp only [intOf]; omega
                  · have hp1 : ¬ (p : Int) < (b : Int) := by omega
                    go_wp2_with fail
                    have h1 := HEP.out
                    rw [up_end b p dp hpb2] at h1
                    go_roundw
                    case rel => exact ⟨j, t + 1, dp, rfl, by first | rfl | simp, by omega, by omega, by omega, HDP.out, HRP.out, by
                      have h3 : pi3 b j d2 = dp := by unfold pi3; rw [if_pos h2x, ← h1]
                      rw [← h3, ← HE2.out]; congr 1; have := HSS.out; omega⟩
                    case measure => simp only [intOf]; omega
              · have h2i : e2 < 2 := by omega
                go_wp2_with fail
                go_roundw
                case rel => exact ⟨j, t + 1, d2, rfl, by first | rfl | simp, by omega, by omega, by omega, HD2.out, HRS.out, by
                  have h3 : pi3 b j d2 = d2 := by unfold pi3; rw [if_neg h2x]
                  rw [← h3, ← HE2.out]; congr 1; have := HSS.out; omega⟩
                case measure => simp only [intOf]; omega
    · have hti : ¬ (t : Int) < 5 := by omega
      have h0 : 5 - t = 0 := by omega
      rw [h0] at HEQ
      go_wp2_with fail
      have h1 := HEQ.out
      rw [pi_zero] at h1
      go_ret
      rw [← h1]
      exact HRW.out.done _

end Go.Proofs.YtjcmphjjkeigjaaGreat

namespace Go.Proofs.YtjcmphjjkeigjaaGreat
open Go.RowKit
set_option linter.unusedVariables false
set_option linter.unusedSimpArgs false

theorem scanUp_go (p : Nat → Bool) (d : Array Nat) (j i : Nat) (h : i ≤ j) (hl : p d[i]! = true) : Sort.scanUp p d j i = Sort.scanUp p d j (i + 1) := by rw [Sort.scanUp, if_pos (by simp [h, hl])]
theorem scanUp_stop (p : Nat → Bool) (d : Array Nat) (j i : Nat) (hl : p d[i]! = false) : Sort.scanUp p d j i = i := by rw [Sort.scanUp, if_neg (by simp [hl])]
theorem scanUp_end (p : Nat → Bool) (d : Array Nat) (j i : Nat) (h : ¬ i ≤ j) : Sort.scanUp p d j i = i := by rw [Sort.scanUp, if_neg (by simp [h])]
theorem scanDown_go (p : Nat → Bool) (d : Array Nat) (i j : Nat) (h : i ≤ j + 1) (hl : p d[j + 1]! = true) : Sort.scanDown p d i (j + 1) = Sort.scanDown p d i j := by rw [Sort.scanDown, if_pos (by simp [h, hl])]
theorem scanDown_stop (p : Nat → Bool) (d : Array Nat) (i j : Nat) (hl : p d[j + 1]! = false) : Sort.scanDown p d i (j + 1) = j + 1 := by rw [Sort.scanDown, if_neg (by simp [hl])]
theorem scanDown_end (p : Nat → Bool) (d : Array Nat) (i j : Nat) (h : ¬ i ≤ j) : Sort.scanDown p d i j = j := by
  cases j with
  | zero => rfl
  | succ j => rw [Sort.scanDown, if_neg (by simp; omega)]

def upP (d : Array Nat) (a : Nat) (x : Nat) : Bool := ltN x d[a]!
def dnP (d : Array Nat) (a : Nat) (x : Nat) : Bool := !ltN x d[a]!
/-- the loop of a partition, laid open -/
theorem part_break (a i j i2 j2 : Nat) (d : Array Nat) (hi : Sort.scanUp (upP d a) d j i = i2) (hj : Sort.scanDown (dnP d a) d i2 j = j2) (h : i2 > j2) : Sort.partLoop ltN a i j d = (j2, d) := by
  rw [Sort.partLoop_eq]
  have e1 : Sort.scanUp (fun x => ltN x d[a]!) d j i = i2 := hi
  have e2 : Sort.scanDown (fun x => !ltN x d[a]!) d i2 j = j2 := hj
  simp only [e1, e2]
  rw [if_pos h]
theorem part_go (a i j i2 j2 : Nat) (d : Array Nat) (hi : Sort.scanUp (upP d a) d j i = i2) (hj : Sort.scanDown (dnP d a) d i2 j = j2) (h : ¬ i2 > j2) : Sort.partLoop ltN a i j d = Sort.partLoop ltN a (i2 + 1) (j2 - 1) (Sort.swp d i2 j2) := by
  rw [Sort.partLoop_eq]
  have e1 : Sort.scanUp (fun x => ltN x d[a]!) d j i = i2 := hi
  have e2 : Sort.scanDown (fun x => !ltN x d[a]!) d i2 j = j2 := hj
  simp only [e1, e2]
  rw [if_neg h]
theorem part_one (a b p i j : Nat) (d : Array Nat) (hi : Sort.scanUp (upP (Sort.swp d a p) a) (Sort.swp d a p) (b - 1) (a + 1) = i) (hj : Sort.scanDown (dnP (Sort.swp d a p) a) (Sort.swp d a p) i (b - 1) = j) (h : i > j) :
    Sort.partition ltN d a b p = (j, true, Sort.swp (Sort.swp d a p) j a) := by
  unfold Sort.partition
  have e1 : Sort.scanUp (fun x => ltN x (Sort.swp d a p)[a]!) (Sort.swp d a p) (b - 1) (a + 1) = i := hi
  have e2 : Sort.scanDown (fun x => !ltN x (Sort.swp d a p)[a]!) (Sort.swp d a p) i (b - 1) = j := hj
  simp only [e1, e2]
  rw [if_pos h]
theorem part_two (a b p i j : Nat) (d : Array Nat) (hi : Sort.scanUp (upP (Sort.swp d a p) a) (Sort.swp d a p) (b - 1) (a + 1) = i) (hj : Sort.scanDown (dnP (Sort.swp d a p) a) (Sort.swp d a p) i (b - 1) = j) (h : ¬ i > j) :
    Sort.partition ltN d a b p = ((Sort.partLoop ltN a (i + 1) (j - 1) (Sort.swp (Sort.swp d a p) i j)).1, false, Sort.swp (Sort.partLoop ltN a (i + 1) (j - 1) (Sort.swp (Sort.swp d a p) i j)).2 (Sort.partLoop ltN a (i + 1) (j - 1) (Sort.swp (Sort.swp d a p) i j)).1 a) := by
  unfold Sort.partition
  have e1 : Sort.scanUp (fun x => ltN x (Sort.swp d a p)[a]!) (Sort.swp d a p) (b - 1) (a + 1) = i := hi
  have e2 : Sort.scanDown (fun x => !ltN x (Sort.swp d a p)[a]!) (Sort.swp d a p) i (b - 1) = j := hj
  simp only [e1, e2]
  rw [if_neg h]

set_option maxHeartbeats 8000000 in
set_option maxRecDepth 100000 in
theorem partition_any (g n cap : Nat) (d : Array Nat) (a b p : Nat) (w : World) (h : RowU w (.slice (some ⟨g, 0, none⟩) n cap) d) (hap : a ≤ p) (hpb : p < b) (hb : b ≤ n) (hn : n ≤ 1073741824) :
    Calls Tryz.prog 200 #[.slice (some ⟨g, 0, none⟩) n cap, .int .i64 a, .int .i64 b, .int .i64 p] w (SortTo (.slice (some ⟨g, 0, none⟩) n cap) g (.tuple #[.int .i64 ((Sort.partition ltN d a b p).1 : Nat), .bool (Sort.partition ltN d a b p).2.1]) (Sort.partition ltN d a b p).2.2 w) := by
  obtain ⟨hsz, hnc, hcm⟩ := h.len
  unfold maxLen at hcm
  have HS := Lib.hid (RowW.start h)
  have HSZ := Lib.hid hsz
  have hcw := h.cells
  have hfw := h.frozen
  rw [hsz] at hcw
  have han : a < n := by omega
  have hpn : p < n := by omega
  clear h hsz
  obtain ⟨R, hR⟩ : ∃ R, R = Sort.partition ltN d a b p := ⟨_, rfl⟩
  have HRR := Lib.hid hR
  rw [← hR]
  clear hR
  go_enter Tryz.func200, Tryz.ntmps200
  go_upto_region 1 with (fail)
  go_cut [] (fun wc => RowW w g n cap (Sort.swp d a p) wc)
  case first =>
    have HRS := Lib.hid (RowW.swp HS.out a p (by rw [HSZ.out]; exact han) (by rw [HSZ.out]; exact hpn)).drew1
    by_cases hxy : a = p
    · subst hxy
      go_region
      go_wp2_with fail
      go_meet
      exact HRS.out
    · have hxi : a < p := by omega
      go_region
      go_wp2_with fail
      go_meet
      exact HRS.out
  case rest =>
    clear hcw hfw
    obtain ⟨d0, hd0⟩ : ∃ e, e = Sort.swp d a p := ⟨_, rfl⟩
    rw [← hd0] at hcut
    have HRW := Lib.hid hcut
    have HDK := Lib.hid (show d0.size = n by rw [hd0, swp_sz]; exact HSZ.out)
    have HD0 := Lib.hid hd0
    have hcw := HRW.out.row.cells
    have hfw := HRW.out.row.frozen
    rw [HDK.out] at hcw
    clear hcut hd0 HS
    obtain ⟨b1, hb1⟩ : ∃ b1, b1 = b - 1 := ⟨_, rfl⟩
    have hb1i : (b : Int) - 1 = (b1 : Int) := by omega
    obtain ⟨a1, ha1⟩ : ∃ a1, a1 = a + 1 := ⟨_, rfl⟩
    have ha1i : (a : Int) + 1 = (a1 : Int) := by omega
    have HA1 := Lib.hid ha1
    have HB1 := Lib.hid hb1
    have hb1n : b1 < n := by omega
    have hab1 : a1 ≤ b1 + 1 := by omega
    have haa1 : a < a1 := by omega
    clear ha1 hb1
    go_upto_block 0 with (fail)
    go_cut [10] (fun s wc => ∃ i : Nat, s = .int .i64 i ∧ a1 ≤ i ∧ i ≤ b1 + 1 ∧ Sort.scanUp (upP d0 a) d0 b1 a1 = i ∧ (i ≤ b1 → ltN d0[i]! d0[a]! = false) ∧ RowW w g n cap d0 wc)
    case first =>
      go_wp2_with fail
      go_loopw [10] (fun x wr2 => ∃ i : Nat, x = .int .i64 i ∧ a1 ≤ i ∧ i ≤ b1 + 1 ∧ RowW w g n cap d0 wr2 ∧ Sort.scanUp (upP d0 a) d0 b1 a1 = Sort.scanUp (upP d0 a) d0 b1 i) (fun x _ => b1 + 1 - (intOf x).toNat)
      case atStart => exact ⟨a1, rfl, Nat.le_refl _, by omega, HRW.out, rfl⟩
      case round =>
        clear hcw hfw
        obtain ⟨i, rfl, hi0, hiJ, hrw, heq⟩ := hrel
        have HRJ := Lib.hid hrw
        have HEJ := Lib.hid heq
        have hcw := hrw.row.cells
        have hfw := hrw.row.frozen
        rw [HDK.out] at hcw
        clear hrw heq
        by_cases hlt : i ≤ b1
        · have hlti : (i : Int) ≤ (b1 : Int) := by omega
          have hin : i < n := by omega
          go_wp2_with fail
          go_big_quiet (first | (go_at_call 198; refine Calls.quiet_of_same (less_any _ _ _)))
          go_wp2_with fail
          · have hl : ltN d0[i]! d0[a]! = true := by
              assumption
            go_roundw
            case rel => exact ⟨i + 1, by first | rfl | simp, by omega, by omega, HRJ.out.drew _, by rw [HEJ.out, scanUp_go (upP d0 a) d0 b1 i hlt hl]⟩
            case measure => simp only [intOf]; omega
          · have hl : ltN d0[i]! d0[a]! = false := by
              assumption
            go_meet
            exact ⟨i, rfl, hi0, hiJ, by rw [HEJ.out, scanUp_stop (upP d0 a) d0 b1 i hl], fun _ => hl, HRJ.out.drew _⟩
        · have hlti : ¬ (i : Int) ≤ (b1 : Int) := by omega
          go_wp2_with fail
          go_big_quiet (fail)
          go_wp2_with fail
          go_meet
          exact ⟨i, rfl, hi0, hiJ, by rw [HEJ.out, scanUp_end _ d0 b1 i hlt], fun h => absurd h hlt, HRJ.out.drew _⟩

    case rest =>
      clear hcw hfw HRW
      obtain ⟨i, rfl, hai, hib, hsu, hil, hrw⟩ := hcut
      have HRW := Lib.hid hrw
      have HSU := Lib.hid hsu
      have HIL := Lib.hid hil
      have hcw := hrw.row.cells
      have hfw := hrw.row.frozen
      rw [HDK.out] at hcw
      clear hrw hsu hil
      go_upto_block 2 with (fail)
      go_cut [11] (fun s wc => ∃ j : Nat, s = .int .i64 j ∧ j ≤ b1 ∧ i ≤ j + 1 ∧ Sort.scanDown (dnP d0 a) d0 i b1 = j ∧ (i ≤ j → ltN d0[j]! d0[a]! = true) ∧ RowW w g n cap d0 wc)
      case first =>
        go_wp2_with fail
        go_loopw [11] (fun x wr2 => ∃ j : Nat, x = .int .i64 j ∧ j ≤ b1 ∧ i ≤ j + 1 ∧ RowW w g n cap d0 wr2 ∧ Sort.scanDown (dnP d0 a) d0 i b1 = Sort.scanDown (dnP d0 a) d0 i j) (fun x _ => (intOf x).toNat)
        case atStart => exact ⟨b1, rfl, Nat.le_refl _, by omega, HRW.out, rfl⟩
        case round =>
          clear hcw hfw
          obtain ⟨j, rfl, hj0, hjI, hrw, heq⟩ := hrel
          have HRJ := Lib.hid hrw
          have HEJ := Lib.hid heq
          have hcw := hrw.row.cells
          have hfw := hrw.row.frozen
          rw [HDK.out] at hcw
          clear hrw heq
          by_cases hlt : i ≤ j
          · have hlti : (i : Int) ≤ (j : Int) := by omega
            have hjn : j < n := by omega
            obtain ⟨r, hr⟩ : ∃ r, j = r + 1 := ⟨j - 1, by omega⟩
            have hri : (j : Int) - 1 = (r : Int) := by omega
            have HR := Lib.hid hr
            clear hr
            go_wp2_with fail
            go_big_quiet (first | (go_at_call 198; refine Calls.quiet_of_same (less_any _ _ _)))
            go_wp2_with fail
            · have hl : ltN d0[j]! d0[a]! = false := by
                have : (!ltN d0[j]! d0[a]!) = true := by assumption
                simpa using this
              go_roundw
              case rel => exact ⟨r, rfl, by have := HR.out; omega, by have := HR.out; omega, HRJ.out.drew _, by
                have h2 := HR.out
                subst h2
                rw [HEJ.out, scanDown_go (dnP d0 a) d0 i r hlt (by show (!ltN _ _) = true; rw [hl]; rfl)]⟩
              case measure => have := HR.out; simp only [intOf]; omega
            · have hl : ltN d0[j]! d0[a]! = true := by
                have : (!ltN d0[j]! d0[a]!) = false := by assumption
                simpa using this
              go_meet
              exact ⟨j, rfl, hj0, hjI, by
                have h2 := HR.out
                subst h2
                rw [HEJ.out, scanDown_stop (dnP d0 a) d0 i r (by show (!ltN _ _) = false; rw [hl]; rfl)], fun _ => hl, HRJ.out.drew _⟩
          · have hlti : ¬ (i : Int) ≤ (j : Int) := by omega
            go_wp2_with fail
            go_big_quiet (fail)
            go_wp2_with fail
            go_meet
            exact ⟨j, rfl, hj0, hjI, by rw [HEJ.out, scanDown_end _ d0 i j hlt], fun h => absurd h hlt, HRJ.out.drew _⟩

      case rest =>
        clear hcw hfw HRW
        obtain ⟨j, rfl, hjb, hij, hsd, hjl, hrw⟩ := hcut
        have HRW := Lib.hid hrw
        have HSD := Lib.hid hsd
        have hcw := hrw.row.cells
        have hfw := hrw.row.frozen
        rw [HDK.out] at hcw
        clear hrw hsd
        by_cases hgt : j < i
        · have hgti : (j : Int) < (i : Int) := by omega
          have haj : a ≤ j := by omega
          have hjn : j < n := by omega
          go_upto_region 8 with (fail)
          go_cut [] (fun wc => RowW w g n cap (Sort.swp d0 j a) wc)
          case first =>
            have HRS := Lib.hid (RowW.swp HRW.out j a (by rw [HDK.out]; exact hjn) (by rw [HDK.out]; exact han)).drew1
            by_cases hxy : j = a
            · subst hxy
              go_region
              go_wp2_with fail
              go_meet
              exact HRS.out
            · have hxi : a < j := by omega
              go_region
              go_wp2_with fail
              go_meet
              exact HRS.out

          case rest =>
            have HRT := Lib.hid hcut
            have h1 := part_one a b p i j d (by rw [← HD0.out, ← HB1.out, ← HA1.out]; exact HSU.out) (by rw [← HD0.out, ← HB1.out]; exact HSD.out) hgt
            rw [← HRR.out, ← HD0.out] at h1
            clear hcut
            go_wp2_with fail
            go_ret2
            rw [h1]
            exact HRT.out.done _
        · have hgti : ¬ (j : Int) < (i : Int) := by omega
          have hijn : i ≠ j := by
            rintro rfl
            have h1 := HIL.out hjb
            have h2 := hjl (Nat.le_refl _)
            rw [h1] at h2; cases h2
          have hijl : i < j := by omega
          have hin : i < n := by omega
          have hjn : j < n := by omega
          have HP2 := Lib.hid (part_two a b p i j d (by rw [← HD0.out, ← HB1.out, ← HA1.out]; exact HSU.out) (by rw [← HD0.out, ← HB1.out]; exact HSD.out) hgt)
          rw [← HRR.out, ← HD0.out] at HP2
          clear hjl hijn
          go_upto_region 10 with (fail)
          go_cut [] (fun wc => RowW w g n cap (Sort.swp d0 i j) wc)
          case first =>
            have HRS := Lib.hid (RowW.swp HRW.out i j (by rw [HDK.out]; exact hin) (by rw [HDK.out]; exact hjn)).drew1
            have hxi : i < j := by omega
            go_region
            go_wp2_with fail
            go_meet
            exact HRS.out

          case rest =>
            have HDKK := HDK
            clear hcw hfw HRW HSU HSD HIL HDK HD0
            obtain ⟨d1, hd1⟩ : ∃ e, e = Sort.swp d0 i j := ⟨_, rfl⟩
            rw [← hd1] at hcut HP2
            have HR1 := Lib.hid hcut
            have HD1 := Lib.hid (show d1.size = n by rw [hd1, swp_sz]; exact HDKK.out)
            clear hcut hd1
            obtain ⟨j1, hj1⟩ : ∃ j1, j1 = j - 1 := ⟨_, rfl⟩
            have hj1i : (j : Int) - 1 = (j1 : Int) := by omega
            rw [← hj1] at HP2
            go_wp2_with fail
            go_loopw [10, 11] (fun x y wr => ∃ (i2 j2 : Nat) (dk : Array Nat), x = .int .i64 i2 ∧ y = .int .i64 j2 ∧ a < i2 ∧ i2 ≤ j2 + 1 ∧ j2 < b ∧ a ≤ j2 ∧ dk.size = n ∧ RowW w g n cap dk wr ∧ Sort.partLoop ltN a i2 j2 dk = Sort.partLoop ltN a (i + 1) j1 d1) (fun x y _ => (intOf y + 1 - intOf x).toNat)
            case atStart => exact ⟨i + 1, j1, d1, by first | rfl | simp, by first | rfl | rw [hj1], by omega, by omega, by omega, by omega, HD1.out, HR1.out, rfl⟩
            case round =>
              obtain ⟨i2, j2, dk, rfl, rfl, hai2, hij2, hjb2, haj2, hdk, hrw, heq⟩ := hrel
              have HRW := Lib.hid hrw
              have HEQ := Lib.hid heq
              have HDK := Lib.hid hdk
              have hcw := hrw.row.cells
              have hfw := hrw.row.frozen
              rw [hdk] at hcw
              clear hrw heq hdk HR1
              have hj2n : j2 < n := by omega
              go_upto_block 6 with (fail)
              go_cut [10] (fun s wc => ∃ i3 : Nat, s = .int .i64 i3 ∧ i2 ≤ i3 ∧ i3 ≤ j2 + 1 ∧ Sort.scanUp (upP dk a) dk j2 i2 = i3 ∧ (i3 ≤ j2 → ltN dk[i3]! dk[a]! = false) ∧ RowW w g n cap dk wc)
              case first =>
                go_wp2_with fail
                go_loopw [10] (fun x wr2 => ∃ i : Nat, x = .int .i64 i ∧ i2 ≤ i ∧ i ≤ j2 + 1 ∧ RowW w g n cap dk wr2 ∧ Sort.scanUp (upP dk a) dk j2 i2 = Sort.scanUp (upP dk a) dk j2 i) (fun x _ => j2 + 1 - (intOf x).toNat)
                case atStart => exact ⟨i2, rfl, Nat.le_refl _, by omega, HRW.out, rfl⟩
                case round =>
                  clear hcw hfw
                  obtain ⟨i, rfl, hi0, hiJ, hrw, heq⟩ := hrel
                  have HRJ := Lib.hid hrw
                  have HEJ := Lib.hid heq
                  have hcw := hrw.row.cells
                  have hfw := hrw.row.frozen
                  rw [HDK.out] at hcw
                  clear hrw heq
                  by_cases hlt : i ≤ j2
                  · have hlti : (i : Int) ≤ (j2 : Int) := by omega
                    have hin : i < n := by omega
                    go_wp2_with fail
                    go_big_quiet (first | (go_at_call 198; refine Calls.quiet_of_same (less_any _ _ _)))
                    go_wp2_with fail
                    · have hl : ltN dk[i]! dk[a]! = true := by
                        assumption
                      go_roundw
                      case rel => exact ⟨i + 1, by first | rfl | simp, by omega, by omega, HRJ.out.drew _, by rw [HEJ.out, scanUp_go (upP dk a) dk j2 i hlt hl]⟩
                      case measure => simp only [intOf]; omega
                    · have hl : ltN dk[i]! dk[a]! = false := by
                        assumption
                      go_meet
                      exact ⟨i, rfl, hi0, hiJ, by rw [HEJ.out, scanUp_stop (upP dk a) dk j2 i hl], fun _ => hl, HRJ.out.drew _⟩
                  · have hlti : ¬ (i : Int) ≤ (j2 : Int) := by omega
                    go_wp2_with fail
                    go_big_quiet (fail)
                    go_wp2_with fail
                    go_meet
                    exact ⟨i, rfl, hi0, hiJ, by rw [HEJ.out, scanUp_end _ dk j2 i hlt], fun h => absurd h hlt, HRJ.out.drew _⟩

              case rest =>
                clear hcw hfw HRW
                obtain ⟨i3, rfl, hi23, hi3, hsu, hil, hrw⟩ := hcut
                have HRW := Lib.hid hrw
                have HSU := Lib.hid hsu
                have HIL := Lib.hid hil
                have hcw := hrw.row.cells
                have hfw := hrw.row.frozen
                rw [HDK.out] at hcw
                clear hrw hsu hil
                go_upto_block 8 with (fail)
                go_cut [11] (fun s wc => ∃ j3 : Nat, s = .int .i64 j3 ∧ j3 ≤ j2 ∧ i3 ≤ j3 + 1 ∧ Sort.scanDown (dnP dk a) dk i3 j2 = j3 ∧ (i3 ≤ j3 → ltN dk[j3]! dk[a]! = true) ∧ RowW w g n cap dk wc)
                case first =>
                  go_wp2_with fail
                  go_loopw [11] (fun x wr2 => ∃ j : Nat, x = .int .i64 j ∧ j ≤ j2 ∧ i3 ≤ j + 1 ∧ RowW w g n cap dk wr2 ∧ Sort.scanDown (dnP dk a) dk i3 j2 = Sort.scanDown (dnP dk a) dk i3 j) (fun x _ => (intOf x).toNat)
                  case atStart => exact ⟨j2, rfl, Nat.le_refl _, by omega, HRW.out, rfl⟩
                  case round =>
                    clear hcw hfw
                    obtain ⟨j, rfl, hj0, hjI, hrw, heq⟩ := hrel
                    have HRJ := Lib.hid hrw
                    have HEJ := Lib.hid heq
                    have hcw := hrw.row.cells
                    have hfw := hrw.row.frozen
                    rw [HDK.out] at hcw
                    clear hrw heq
                    by_cases hlt : i3 ≤ j
                    · have hlti : (i3 : Int) ≤ (j : Int) := by omega
                      have hjn : j < n := by omega
                      obtain ⟨r, hr⟩ : ∃ r, j = r + 1 := ⟨j - 1, by omega⟩
                      have hri : (j : Int) - 1 = (r : Int) := by omega
                      have HR := Lib.hid hr
                      clear hr
                      go_wp2_with fail
                      go_big_quiet (first | (go_at_call 198; refine Calls.quiet_of_same (less_any _ _ _)))
                      go_wp2_with fail
                      · have hl : ltN dk[j]! dk[a]! = false := by
                          have : (!ltN dk[j]! dk[a]!) = true := by assumption
                          simpa using this
                        go_roundw
                        case rel => exact ⟨r, rfl, by have := HR.out; omega, by have := HR.out; omega, HRJ.out.drew _, by
                          have h2 := HR.out
                          subst h2
                          rw [HEJ.out, scanDown_go (dnP dk a) dk i3 r hlt (by show (!ltN _ _) = true; rw [hl]; rfl)]⟩
                        case measure => have := HR.out; simp only [intOf]; omega
                      · have hl : ltN dk[j]! dk[a]! = true := by
                          have : (!ltN dk[j]! dk[a]!) = false := by assumption
                          simpa using this
                        go_meet
                        exact ⟨j, rfl, hj0, hjI, by
                          have h2 := HR.out
                          subst h2
                          rw [HEJ.out, scanDown_stop (dnP dk a) dk i3 r (by show (!ltN _ _) = false; rw [hl]; rfl)], fun _ => hl, HRJ.out.drew _⟩
                    · have hlti : ¬ (i3 : Int) ≤ (j : Int) := by omega
                      go_wp2_with fail
                      go_big_quiet (fail)
                      go_wp2_with fail
                      go_meet
                      exact ⟨j, rfl, hj0, hjI, by rw [HEJ.out, scanDown_end _ dk i3 j hlt], fun h => absurd h hlt, HRJ.out.drew _⟩

                case rest =>
                  clear hcw hfw HRW
                  obtain ⟨j3, rfl, hj32, hij3, hsd, hjl, hrw⟩ := hcut
                  have HRW := Lib.hid hrw
                  have HSD := Lib.hid hsd
                  have hcw := hrw.row.cells
                  have hfw := hrw.row.frozen
                  rw [HDK.out] at hcw
                  clear hrw hsd
                  have haj3 : a ≤ j3 := by omega
                  have hj3n : j3 < n := by omega
                  by_cases hgt : j3 < i3
                  · have hgti : (j3 : Int) < (i3 : Int) := by omega
                    have HBR := Lib.hid (part_break a i2 j2 i3 j3 dk HSU.out HSD.out hgt)
                    rw [HEQ.out] at HBR
                    rw [HBR.out] at HP2
                    go_upto_region 21 with (fail)
                    go_cut [] (fun wc => RowW w g n cap (Sort.swp dk j3 a) wc)
                    case first =>
                      have HRS := Lib.hid (RowW.swp HRW.out j3 a (by rw [HDK.out]; exact hj3n) (by rw [HDK.out]; exact han)).drew1
                      by_cases hxy : j3 = a
                      · subst hxy
                        go_region
                        go_wp2_with fail
                        go_meet
                        exact HRS.out
                      · have hxi : a < j3 := by omega
                        go_region
                        go_wp2_with fail
                        go_meet
                        exact HRS.out
                    case rest =>
                      have HRT := Lib.hid hcut
                      clear hcut hcw hfw HRW
                      go_wp2_with fail
                      go_ret2
                      rw [HP2.out]
                      exact HRT.out.done _

                  · have hgti : ¬ (j3 : Int) < (i3 : Int) := by omega
                    have hijn : i3 ≠ j3 := by
                      rintro rfl
                      have h1 := HIL.out (by omega)
                      have h2 := hjl (Nat.le_refl _)
                      rw [h1] at h2; cases h2
                    have hijl : i3 < j3 := by omega
                    have hi3n : i3 < n := by omega
                    have HGO := Lib.hid (part_go a i2 j2 i3 j3 dk HSU.out HSD.out hgt)
                    rw [HEQ.out] at HGO
                    clear hjl hijn
                    obtain ⟨j4, hj4⟩ : ∃ j4, j4 = j3 - 1 := ⟨_, rfl⟩
                    have hj4i : (j3 : Int) - 1 = (j4 : Int) := by omega
                    rw [← hj4] at HGO
                    go_upto_region 18 with (fail)
                    go_cut [] (fun wc => RowW w g n cap (Sort.swp dk i3 j3) wc)
                    case first =>
                      have HRS := Lib.hid (RowW.swp HRW.out i3 j3 (by rw [HDK.out]; exact hi3n) (by rw [HDK.out]; exact hj3n)).drew1
                      have hxi : i3 < j3 := by omega
                      go_region
                      go_wp2_with fail
                      go_meet
                      exact HRS.out

                    case rest =>
                      have HRT := Lib.hid hcut
                      clear hcut hcw hfw HRW
                      go_wp2_with fail
                      go_roundw
                      case rel => exact ⟨i3 + 1, j4, Sort.swp dk i3 j3, by first | rfl | simp, by first | rfl | rw [hj4], by omega, by omega, by omega, by omega, by rw [swp_sz]; exact HDK.out, HRT.out, HGO.out.symm⟩
                      case measure => simp only [intOf]; omega

end Go.Proofs.YtjcmphjjkeigjaaGreat

namespace Go.Proofs.YtjcmphjjkeigjaaGreat
open Go.RowKit
set_option linter.unusedVariables false
set_option linter.unusedSimpArgs false

def upE (d : Array Nat) (a : Nat) (x : Nat) : Bool := !ltN d[a]! x
def dnE (d : Array Nat) (a : Nat) (x : Nat) : Bool := ltN d[a]! x
theorem parteq_break (a i j i2 j2 : Nat) (d : Array Nat) (hi : Sort.scanUp (upE d a) d j i = i2) (hj : Sort.scanDown (dnE d a) d i2 j = j2) (h : i2 > j2) : Sort.partEqLoop ltN a i j d = (i2, d) := by
  rw [Sort.partEqLoop_eq]
  have e1 : Sort.scanUp (fun x => !ltN d[a]! x) d j i = i2 := hi
  have e2 : Sort.scanDown (fun x => ltN d[a]! x) d i2 j = j2 := hj
  simp only [e1, e2]
  rw [if_pos h]
theorem parteq_go (a i j i2 j2 : Nat) (d : Array Nat) (hi : Sort.scanUp (upE d a) d j i = i2) (hj : Sort.scanDown (dnE d a) d i2 j = j2) (h : ¬ i2 > j2) : Sort.partEqLoop ltN a i j d = Sort.partEqLoop ltN a (i2 + 1) (j2 - 1) (Sort.swp d i2 j2) := by
  rw [Sort.partEqLoop_eq]
  have e1 : Sort.scanUp (fun x => !ltN d[a]! x) d j i = i2 := hi
  have e2 : Sort.scanDown (fun x => ltN d[a]! x) d i2 j = j2 := hj
  simp only [e1, e2]
  rw [if_neg h]

set_option maxHeartbeats 8000000 in
set_option maxRecDepth 100000 in
theorem parteq_any (g n cap : Nat) (d : Array Nat) (a b p : Nat) (w : World) (h : RowU w (.slice (some ⟨g, 0, none⟩) n cap) d) (hap : a ≤ p) (hpb : p < b) (hb : b ≤ n) (hn : n ≤ 1073741824) :
    Calls Tryz.prog 199 #[.slice (some ⟨g, 0, none⟩) n cap, .int .i64 a, .int .i64 b, .int .i64 p] w (SortTo (.slice (some ⟨g, 0, none⟩) n cap) g (.int .i64 ((Sort.partitionEqual ltN d a b p).1 : Nat)) (Sort.partitionEqual ltN d a b p).2 w) := by
  obtain ⟨hsz, hnc, hcm⟩ := h.len
  unfold maxLen at hcm
  have HS := Lib.hid (RowW.start h)
  have HSZ := Lib.hid hsz
  have hcw := h.cells
  have hfw := h.frozen
  rw [hsz] at hcw
  have han : a < n := by omega
  have hpn : p < n := by omega
  clear h hsz
  obtain ⟨R, hR⟩ : ∃ R, R = Sort.partitionEqual ltN d a b p := ⟨_, rfl⟩
  have HRR := Lib.hid hR
  rw [← hR]
  clear hR
  go_enter Tryz.func199, Tryz.ntmps199
  go_upto_region 1 with (fail)
  go_cut [] (fun wc => RowW w g n cap (Sort.swp d a p) wc)
  case first =>
    have HRS := Lib.hid (RowW.swp HS.out a p (by rw [HSZ.out]; exact han) (by rw [HSZ.out]; exact hpn)).drew1
    by_cases hxy : a = p
    · subst hxy
      go_region
      go_wp2_with fail
      go_meet
      exact HRS.out
    · have hxi : a < p := by omega
      go_region
      go_wp2_with fail
      go_meet
      exact HRS.out
  case rest =>
    clear hcw hfw
    obtain ⟨d1, hd1⟩ : ∃ e, e = Sort.swp d a p := ⟨_, rfl⟩
    rw [← hd1] at hcut
    have HR1 := Lib.hid hcut
    have HD1 := Lib.hid (show d1.size = n by rw [hd1, swp_sz]; exact HSZ.out)
    obtain ⟨j1, hj1⟩ : ∃ j1, j1 = b - 1 := ⟨_, rfl⟩
    have hj1i : (b : Int) - 1 = (j1 : Int) := by omega
    have HP2 := Lib.hid (show R = Sort.partEqLoop ltN a (a + 1) j1 d1 by rw [HRR.out, hd1, hj1]; rfl)
    clear hcut hd1 HS
    go_wp2_with fail
    go_loopw [9, 10] (fun x y wr => ∃ (i2 j2 : Nat) (dk : Array Nat), x = .int .i64 i2 ∧ y = .int .i64 j2 ∧ a < i2 ∧ i2 ≤ j2 + 1 ∧ j2 < b ∧ a ≤ j2 ∧ dk.size = n ∧ RowW w g n cap dk wr ∧ Sort.partEqLoop ltN a i2 j2 dk = Sort.partEqLoop ltN a (a + 1) j1 d1) (fun x y _ => (intOf y + 1 - intOf x).toNat)
    case atStart => exact ⟨a + 1, j1, d1, by first | rfl | simp, by first | rfl | rw [hj1], by omega, by omega, by omega, by omega, HD1.out, HR1.out, rfl⟩
    case round =>
      obtain ⟨i2, j2, dk, rfl, rfl, hai2, hij2, hjb2, haj2, hdk, hrw, heq⟩ := hrel
      have HRW := Lib.hid hrw
      have HEQ := Lib.hid heq
      have HDK := Lib.hid hdk
      have hcw := hrw.row.cells
      have hfw := hrw.row.frozen
      rw [hdk] at hcw
      clear hrw heq hdk HR1
      have hj2n : j2 < n := by omega
      go_upto_block 2 with (fail)
      go_cut [9] (fun s wc => ∃ i3 : Nat, s = .int .i64 i3 ∧ i2 ≤ i3 ∧ i3 ≤ j2 + 1 ∧ Sort.scanUp (upE dk a) dk j2 i2 = i3 ∧ (i3 ≤ j2 → ltN dk[a]! dk[i3]! = true) ∧ RowW w g n cap dk wc)
      case first =>
        go_wp2_with fail
        go_loopw [9] (fun x wr2 => ∃ i : Nat, x = .int .i64 i ∧ i2 ≤ i ∧ i ≤ j2 + 1 ∧ RowW w g n cap dk wr2 ∧ Sort.scanUp (upE dk a) dk j2 i2 = Sort.scanUp (upE dk a) dk j2 i) (fun x _ => j2 + 1 - (intOf x).toNat)
        case atStart => exact ⟨i2, rfl, Nat.le_refl _, by omega, HRW.out, rfl⟩
        case round =>
          clear hcw hfw
          obtain ⟨i, rfl, hi0, hiJ, hrw, heq⟩ := hrel
          have HRJ := Lib.hid hrw
          have HEJ := Lib.hid heq
          have hcw := hrw.row.cells
          have hfw := hrw.row.frozen
          rw [HDK.out] at hcw
          clear hrw heq
          by_cases hlt : i ≤ j2
          · have hlti : (i : Int) ≤ (j2 : Int) := by omega
            have hin : i < n := by omega
            go_wp2_with fail
            go_big_quiet (first | (go_at_call 198; refine Calls.quiet_of_same (less_any _ _ _)))
            go_wp2_with fail
            · have hl : ltN dk[a]! dk[i]! = false := by
                have : (!ltN dk[a]! dk[i]!) = true := by assumption
                simpa using this
              go_roundw
              case rel => exact ⟨i + 1, by first | rfl | simp, by omega, by omega, HRJ.out.drew _, by rw [HEJ.out, scanUp_go (upE dk a) dk j2 i hlt (by show (!ltN _ _) = true; rw [hl]; rfl)]⟩
              case measure => simp only [intOf]; omega
            · have hl : ltN dk[a]! dk[i]! = true := by
                have : (!ltN dk[a]! dk[i]!) = false := by assumption
                simpa using this
              go_meet
              exact ⟨i, rfl, hi0, hiJ, by rw [HEJ.out, scanUp_stop (upE dk a) dk j2 i (by show (!ltN _ _) = false; rw [hl]; rfl)], fun _ => hl, HRJ.out.drew _⟩
          · have hlti : ¬ (i : Int) ≤ (j2 : Int) := by omega
            go_wp2_with fail
            go_big_quiet (fail)
            go_wp2_with fail
            go_meet
            exact ⟨i, rfl, hi0, hiJ, by rw [HEJ.out, scanUp_end _ dk j2 i hlt], fun h => absurd h hlt, HRJ.out.drew _⟩

      case rest =>
        clear hcw hfw HRW
        obtain ⟨i3, rfl, hi23, hi3, hsu, hil, hrw⟩ := hcut
        have HRW := Lib.hid hrw
        have HSU := Lib.hid hsu
        have HIL := Lib.hid hil
        have hcw := hrw.row.cells
        have hfw := hrw.row.frozen
        rw [HDK.out] at hcw
        clear hrw hsu hil
        go_upto_block 4 with (fail)
        go_cut [10] (fun s wc => ∃ j3 : Nat, s = .int .i64 j3 ∧ j3 ≤ j2 ∧ i3 ≤ j3 + 1 ∧ Sort.scanDown (dnE dk a) dk i3 j2 = j3 ∧ (i3 ≤ j3 → ltN dk[a]! dk[j3]! = false) ∧ RowW w g n cap dk wc)
        case first =>
          go_wp2_with fail
          go_loopw [10] (fun x wr2 => ∃ j : Nat, x = .int .i64 j ∧ j ≤ j2 ∧ i3 ≤ j + 1 ∧ RowW w g n cap dk wr2 ∧ Sort.scanDown (dnE dk a) dk i3 j2 = Sort.scanDown (dnE dk a) dk i3 j) (fun x _ => (intOf x).toNat)
          case atStart => exact ⟨j2, rfl, Nat.le_refl _, by omega, HRW.out, rfl⟩
          case round =>
            clear hcw hfw
            obtain ⟨j, rfl, hj0, hjI, hrw, heq⟩ := hrel
            have HRJ := Lib.hid hrw
            have HEJ := Lib.hid heq
            have hcw := hrw.row.cells
            have hfw := hrw.row.frozen
            rw [HDK.out] at hcw
            clear hrw heq
            by_cases hlt : i3 ≤ j
            · have hlti : (i3 : Int) ≤ (j : Int) := by omega
              have hjn : j < n := by omega
              obtain ⟨r, hr⟩ : ∃ r, j = r + 1 := ⟨j - 1, by omega⟩
              have hri : (j : Int) - 1 = (r : Int) := by omega
              have HR := Lib.hid hr
              clear hr
              go_wp2_with fail
              go_big_quiet (first | (go_at_call 198; refine Calls.quiet_of_same (less_any _ _ _)))
              go_wp2_with fail
              · have hl : ltN dk[a]! dk[j]! = true := by
                  assumption
                go_roundw
                case rel => exact ⟨r, rfl, by have := HR.out; omega, by have := HR.out; omega, HRJ.out.drew _, by
                  have h2 := HR.out
                  subst h2
                  rw [HEJ.out, scanDown_go (dnE dk a) dk i3 r hlt hl]⟩
                case measure => have := HR.out; simp only [intOf]; omega
              · have hl : ltN dk[a]! dk[j]! = false := by
                  assumption
                go_meet
                exact ⟨j, rfl, hj0, hjI, by
                  have h2 := HR.out
                  subst h2
                  rw [HEJ.out, scanDown_stop (dnE dk a) dk i3 r hl], fun _ => hl, HRJ.out.drew _⟩
            · have hlti : ¬ (i3 : Int) ≤ (j : Int) := by omega
              go_wp2_with fail
              go_big_quiet (fail)
              go_wp2_with fail
              go_meet
              exact ⟨j, rfl, hj0, hjI, by rw [HEJ.out, scanDown_end _ dk i3 j hlt], fun h => absurd h hlt, HRJ.out.drew _⟩

        case rest =>
          clear hcw hfw HRW
          obtain ⟨j3, rfl, hj32, hij3, hsd, hjl, hrw⟩ := hcut
          have HRW := Lib.hid hrw
          have HSD := Lib.hid hsd
          have hcw := hrw.row.cells
          have hfw := hrw.row.frozen
          rw [HDK.out] at hcw
          clear hrw hsd
          have haj3 : a ≤ j3 := by omega
          have hj3n : j3 < n := by omega
          by_cases hgt : j3 < i3
          · have hgti : (j3 : Int) < (i3 : Int) := by omega
            have HBR := Lib.hid (parteq_break a i2 j2 i3 j3 dk HSU.out HSD.out hgt)
            rw [HEQ.out] at HBR
            rw [HBR.out] at HP2
            clear hcw hfw
            go_wp2_with fail
            go_ret
            rw [HP2.out]
            exact HRW.out.done _

          · have hgti : ¬ (j3 : Int) < (i3 : Int) := by omega
            have hijn : i3 ≠ j3 := by
              rintro rfl
              have h1 := HIL.out (by omega)
              have h2 := hjl (Nat.le_refl _)
              rw [h1] at h2; cases h2
            have hijl : i3 < j3 := by omega
            have hi3n : i3 < n := by omega
            have HGO := Lib.hid (parteq_go a i2 j2 i3 j3 dk HSU.out HSD.out hgt)
            rw [HEQ.out] at HGO
            clear hjl hijn
            obtain ⟨j4, hj4⟩ : ∃ j4, j4 = j3 - 1 := ⟨_, rfl⟩
            have hj4i : (j3 : Int) - 1 = (j4 : Int) := by omega
            rw [← hj4] at HGO
            go_upto_region 8 with (fail)
            go_cut [] (fun wc => RowW w g n cap (Sort.swp dk i3 j3) wc)
            case first =>
              have HRS := Lib.hid (RowW.swp HRW.out i3 j3 (by rw [HDK.out]; exact hi3n) (by rw [HDK.out]; exact hj3n)).drew1
              have hxi : i3 < j3 := by omega
              go_region
              go_wp2_with fail
              go_meet
              exact HRS.out

            case rest =>
              have HRT := Lib.hid hcut
              clear hcut hcw hfw HRW
              go_wp2_with fail
              go_roundw
              case rel => exact ⟨i3 + 1, j4, Sort.swp dk i3 j3, by first | rfl | simp, by first | rfl | rw [hj4], by omega, by omega, by omega, by omega, by rw [swp_sz]; exact HDK.out, HRT.out, HGO.out.symm⟩
              case measure => simp only [intOf]; omega

end Go.Proofs.YtjcmphjjkeigjaaGreat

namespace Go.Proofs.YtjcmphjjkeigjaaGreat
open Go.RowKit
set_option linter.unusedVariables false
set_option linter.unusedSimpArgs false

theorem bitLen_two : ∀ (f x : Nat), 0 < x → 2 ^ Lib.bitLenAux f x ≤ 2 * x
  | 0, x, h => by simp [Lib.bitLenAux]; omega
  | f + 1, x, h => by
    unfold Lib.bitLenAux
    rw [if_neg (by omega)]
    by_cases h2 : 0 < x / 2
    · have := bitLen_two f (x / 2) h2
      rw [Nat.pow_add]; omega
    · have h1 : x / 2 = 0 := by omega
      have : Lib.bitLenAux f (x / 2) = 0 := by rw [h1]; cases f <;> simp [Lib.bitLenAux]
      rw [this]; omega
theorem bitLen_16 (x : Nat) (h : x < 65536) : Lib.bitLen x ≤ 16 := by
  by_cases h0 : 0 < x
  · have := bitLen_two 64 x h0
    refine Nat.le_of_not_lt fun hc => ?_
    have h17 : 2 ^ 17 ≤ 2 ^ Lib.bitLen x := Nat.pow_le_pow_right (by omega) (by omega)
    unfold Lib.bitLen at h17
    omega
  · have : x = 0 := by omega
    subst this; decide

set_option maxRecDepth 100000 in
theorem tab_size : (Lib.len8tab.size : Int) = 256 := by
  have : Lib.len8tab.size = 256 := by decide
  omega
theorem tab_get (y : Int) (h : y.toNat < Lib.len8tab.size) : ((Lib.len8tab[y.toNat]'h).toNat : Int) = Lib.len8 y := by
  unfold Lib.len8
  rw [getElem?_pos Lib.len8tab y.toNat h]
  rfl
theorem add_8 (b c : Nat) (hb : b ≤ 8) (hc : c = 8 + b) : RowKit.wrap64 (8 + RowKit.wrap64 (b : Int)) = (c : Int) := by unfold RowKit.wrap64; omega
theorem add_0 (b : Nat) (hb : b ≤ 8) : RowKit.wrap64 (RowKit.wrap64 (b : Int)) = (b : Int) := by unfold RowKit.wrap64; omega
set_option maxHeartbeats 4000000 in
set_option maxRecDepth 100000 in
theorem len64_any (x : Int) (w : World) (h0 : 0 ≤ x) (h1 : x ≤ 65535) : Calls Tryz.prog 202 #[.int .u64 x] w fun e w' => e = .returned (.int .i64 (Lib.bitLen x.toNat)) ∧ w' = w := by
  go_enter Tryz.func202, Tryz.ntmps202
  go_wp2
  all_goals first
    | (go_ret; refine ⟨congrArg Ending.returned (congrArg (Value.int IntKind.i64) ?_), rfl⟩; rw [tab_get (x / 256) _, Lib.len8_of (x / 256) (by omega) (by omega)]
       have e : (x / 256).toNat = x.toNat / 256 := by omega
       have l := Lib.bitLen_le8' (x / 256) (by omega) (by omega)
       have s := Lib.bitLen_shift8 x.toNat (by omega) (by omega)
       rw [e] at l ⊢
       exact add_8 _ _ l s)
    | (go_ret; refine ⟨congrArg Ending.returned (congrArg (Value.int IntKind.i64) ?_), rfl⟩; rw [tab_get x _, Lib.len8_of x (by omega) (by omega)]
       exact add_0 _ (Lib.bitLen_le8' x (by omega) (by omega)))
    | (exfalso; have := tab_size; omega)
theorem len_any (x : Int) (w : World) (h0 : 0 ≤ x) (h1 : x ≤ 65535) : Calls Tryz.prog 183 #[.int .u64 x] w fun e w' => e = .returned (.int .i64 (Lib.bitLen x.toNat)) ∧ w' = w := by
  go_enter Tryz.func183, Tryz.ntmps183
  go_wp2_with (go_at_call 202; refine (len64_any _ _ h0 h1).mono ?_; rintro e w1 ⟨rfl, rfl⟩)
  go_ret
  exact ⟨rfl, rfl⟩

theorem wrap_two (k : Nat) (hk : k ≤ 16) : IntKind.u64.wrap ((2 : Int) ^ k) = ((2 ^ k : Nat) : Int) := by
  have h : (2 : Nat) ^ k ≤ 2 ^ 16 := Nat.pow_le_pow_right (by decide) hk
  rw [IntKind.wrap_u64, show ((2 : Int) ^ k) = ((2 ^ k : Nat) : Int) by push_cast; rfl]
  generalize (2 : Nat) ^ k = p at h
  omega
/-- some power of two, no more than twice what is asked -/
theorem pow_any (n : Nat) (hn : 0 < n) (hm : n ≤ 65535) (w : World) : ∃ M : Nat, 1 ≤ M ∧ M ≤ 2 * n ∧ ∀ w : World, Calls Tryz.prog 207 #[.int .i64 n] w fun e w' => e = .returned (.int .u64 (M : Nat)) ∧ w' = w := by
  have h16 := bitLen_16 n (by omega)
  have h2 := bitLen_two 64 n hn
  obtain ⟨k, hk⟩ : ∃ k, k = Lib.bitLen n := ⟨_, rfl⟩
  have hk2 : 2 ^ k ≤ 2 * n := by rw [hk]; exact h2
  rw [← hk] at h16
  refine ⟨2 ^ k, Nat.two_pow_pos _, hk2, fun w => ?_⟩
  have hLen : ∀ w, Calls Tryz.prog 183 #[.int .u64 (n : Int)] w fun e w' => e = .returned (.int .i64 (k : Nat)) ∧ w' = w := fun w => by
    have h := len_any (n : Int) w (by omega) (by omega)
    rwa [Int.toNat_natCast, ← hk] at h
  have hp := wrap_two k h16
  clear hk h2 hk2
  go_enter Tryz.func207, Tryz.ntmps207
  go_wp2_with (first | (go_at_call 183; refine (hLen _).mono ?_; rintro e w' ⟨rfl, rfl⟩))
  go_ret
  exact ⟨rfl, rfl⟩

theorem box_set {w : World} {g : Nat} {v : Value} {t : TypeId} (h : w.heap[g]? = some (.cells #[v] t (0, 0))) (v' : Value) : ((w.setCell ⟨g, 0, none⟩ v').drew).heap[g]? = some (.cells #[v'] t (0, 0)) ∧ Only (fun k => k = g) w (w.setCell ⟨g, 0, none⟩ v').drew := by
  refine ⟨?_, (Only.setCell (S := fun k => k = g) _ _ _ rfl).trans (Only.drew _) fun _ _ e => e⟩
  show (w.setCell ⟨g, 0, none⟩ v').heap[g]? = _
  rw [heap_setCell_same w g 0 _ _ _ h]; rfl
/-- a number is drawn: whatever it is -/
theorem next_any (g X : Nat) (hX : X < 18446744073709551616) (w : World) (hc : w.heap[g]? = some (.cells #[.int .u64 X] 283 (0, 0))) :
    Calls Tryz.prog 208 #[.pointer (some ⟨g, 0, none⟩)] w fun e w' => ∃ Y : Nat, Y < 18446744073709551616 ∧ e = .returned (.int .u64 (Y : Nat)) ∧ w'.heap[g]? = some (.cells #[.int .u64 Y] 283 (0, 0)) ∧ Only (fun k => k = g) w w' := by
  obtain ⟨A, hA⟩ : ∃ A : Nat, A = X ^^^ (X * 8192 % 18446744073709551616) := ⟨_, rfl⟩
  obtain ⟨B, hB⟩ : ∃ B : Nat, B = A ^^^ (A / 128) := ⟨_, rfl⟩
  obtain ⟨C, hC⟩ : ∃ C : Nat, C = B ^^^ (B * 131072 % 18446744073709551616) := ⟨_, rfl⟩
  have lA : A < 18446744073709551616 := by rw [hA]; exact Nat.xor_lt_two_pow (n := 64) (by omega) (by omega)
  have lB : B < 18446744073709551616 := by rw [hB]; exact Nat.xor_lt_two_pow (n := 64) (by omega) (by omega)
  have lC : C < 18446744073709551616 := by rw [hC]; exact Nat.xor_lt_two_pow (n := 64) (by omega) (by omega)
  have e1 : bits .xor .u64 (X : Int) (IntKind.u64.wrap ((X : Int) * 8192)) = (A : Int) := by
    rw [IntKind.wrap_u64, show ((X : Int) * 8192 % 18446744073709551616) = ((X * 8192 % 18446744073709551616 : Nat) : Int) by omega, bits_xor_u64_nat _ _ hX (by omega), hA]
  have e2 : bits .xor .u64 (A : Int) ((A : Int) / 128) = (B : Int) := by
    rw [show ((A : Int) / 128) = ((A / 128 : Nat) : Int) by omega, bits_xor_u64_nat _ _ lA (by omega), hB]
  have e3 : bits .xor .u64 (B : Int) (IntKind.u64.wrap ((B : Int) * 131072)) = (C : Int) := by
    rw [IntKind.wrap_u64, show ((B : Int) * 131072 % 18446744073709551616) = ((B * 131072 % 18446744073709551616 : Nat) : Int) by omega, bits_xor_u64_nat _ _ lB (by omega), hC]
  have hcell : w.cell? ⟨g, 0, none⟩ = some (.int .u64 X) := by rw [cell_of_row w g 0 _ _ _ hc]; rfl
  have hfro : w.frozen? ⟨g, 0, none⟩ = false := frozen_of_row w g 0 _ _ hc
  obtain ⟨q1, q2⟩ := box_set hc (.int .u64 (A : Nat))
  have Q1 := Lib.hid q1
  have Q2 := Lib.hid q2
  have HL := Lib.hid lC
  clear hA hB hC hc q1 q2
  go_enter Tryz.func208, Tryz.ntmps208
  go_wp2_with fail
  go_region
  clear hcell hfro
  generalize World.drew _ = w1 at *
  have hcell : w1.cell? ⟨g, 0, none⟩ = some (.int .u64 A) := by rw [cell_of_row w1 g 0 _ _ _ Q1.out]; rfl
  have hfro : w1.frozen? ⟨g, 0, none⟩ = false := frozen_of_row w1 g 0 _ _ Q1.out
  obtain ⟨q1, q2⟩ := box_set Q1.out (.int .u64 (B : Nat))
  have R1 := Lib.hid q1
  have R2 := Lib.hid (Q2.out.trans q2 fun _ _ e => e)
  clear q1 q2 Q1 Q2
  go_wp2_with fail
  go_region
  clear hcell hfro
  generalize World.drew _ = w2 at *
  have hcell : w2.cell? ⟨g, 0, none⟩ = some (.int .u64 B) := by rw [cell_of_row w2 g 0 _ _ _ R1.out]; rfl
  have hfro : w2.frozen? ⟨g, 0, none⟩ = false := frozen_of_row w2 g 0 _ _ R1.out
  obtain ⟨q1, q2⟩ := box_set R1.out (.int .u64 (C : Nat))
  have Q1 := Lib.hid q1
  have Q2 := Lib.hid (R2.out.trans q2 fun _ _ e => e)
  clear q1 q2 R1 R2
  go_wp2_with fail
  go_region
  clear hcell hfro
  generalize World.drew _ = w3 at *
  have hcell : w3.cell? ⟨g, 0, none⟩ = some (.int .u64 C) := by rw [cell_of_row w3 g 0 _ _ _ Q1.out]; rfl
  go_wp2
  go_ret
  exact ⟨C, HL.out, rfl, Q1.out, Q2.out⟩

/-- a range turned round -/
theorem rev_go (i j : Nat) (d : Array Nat) (h : i < j) : Sort.reverseLoop i j d = Sort.reverseLoop (i + 1) (j - 1) (Sort.swp d i j) := by rw [Sort.reverseLoop, if_pos h]
theorem rev_end (i j : Nat) (d : Array Nat) (h : ¬ i < j) : Sort.reverseLoop i j d = d := by rw [Sort.reverseLoop, if_neg h]
set_option maxHeartbeats 4000000 in
set_option maxRecDepth 100000 in
theorem revrange_any (g n cap : Nat) (d : Array Nat) (a b : Nat) (w : World) (h : RowU w (.slice (some ⟨g, 0, none⟩) n cap) d) (hab : a < b) (hb : b ≤ n) (hn : n ≤ 1073741824) :
    Calls Tryz.prog 196 #[.slice (some ⟨g, 0, none⟩) n cap, .int .i64 a, .int .i64 b] w (SortTo (.slice (some ⟨g, 0, none⟩) n cap) g (.tuple #[]) (Sort.reverseRange d a b) w) := by
  obtain ⟨hsz, hnc, hcm⟩ := h.len
  unfold maxLen at hcm
  have HS := Lib.hid (RowW.start h)
  have HSZ := Lib.hid hsz
  clear h hsz
  obtain ⟨b1, hb1⟩ : ∃ b1, b1 = b - 1 := ⟨_, rfl⟩
  have hb1i : (b : Int) - 1 = (b1 : Int) := by omega
  have HB1 := Lib.hid hb1
  go_enter Tryz.func196, Tryz.ntmps196
  go_wp2
  go_loopw [6, 7] (fun x y wr => ∃ (i j : Nat) (dk : Array Nat), x = .int .i64 i ∧ y = .int .i64 j ∧ i ≤ b ∧ j < b ∧ dk.size = n ∧ RowW w g n cap dk wr ∧ Sort.reverseLoop i j dk = Sort.reverseRange d a b) (fun x y _ => (intOf y - intOf x).toNat)
  case atStart => exact ⟨a, b1, d, rfl, by first | rfl | rw [hb1], by omega, by omega, HSZ.out, HS.out, by rw [HB1.out]; rfl⟩
  case round =>
    obtain ⟨i, j, dk, rfl, rfl, hi, hj, hdk, hrw, heq⟩ := hrel
    have HRW := Lib.hid hrw
    have HEQ := Lib.hid heq
    have HDK := Lib.hid hdk
    have hcw := hrw.row.cells
    have hfw := hrw.row.frozen
    rw [hdk] at hcw
    clear hrw heq hdk HS
    by_cases hlt : i < j
    · have hlti : (i : Int) < (j : Int) := by omega
      have hin : i < n := by omega
      have hjn : j < n := by omega
      obtain ⟨j1, hj1⟩ : ∃ j1, j1 = j - 1 := ⟨_, rfl⟩
      have hj1i : (j : Int) - 1 = (j1 : Int) := by omega
      have HRS := Lib.hid (HRW.out.swp i j (by rw [HDK.out]; exact hin) (by rw [HDK.out]; exact hjn)).drew1
      have HES := Lib.hid ((rev_go i j dk hlt).symm.trans HEQ.out)
      rw [← hj1] at HES
      go_wp2_with fail
      go_region
      go_wp2_with fail
      go_roundw
      case rel => exact ⟨i + 1, j1, Sort.swp dk i j, by first | rfl | simp, by first | rfl | rw [hj1], by omega, by omega, by rw [swp_sz]; exact HDK.out, HRS.out, HES.out⟩
      case measure => simp only [intOf]; omega
    · have hlti : ¬ (i : Int) < (j : Int) := by omega
      go_wp2
      go_end0
      have := HEQ.out
      rw [rev_end i j dk hlt] at this
      rw [← this]
      exact HRW.out.done _

end Go.Proofs.YtjcmphjjkeigjaaGreat

namespace Go.Proofs.YtjcmphjjkeigjaaGreat
open Go.RowKit
set_option linter.unusedVariables false
set_option linter.unusedSimpArgs false

/-- a row and a counter beside it: between two steps -/
structure PivW (w : World) (g n cap : Nat) (d : Array Nat) (B : Nat) (k : Nat) (W : World) : Prop where
  row : RowU W (.slice (some ⟨g, 0, none⟩) n cap) d
  box : W.heap[B]? = some (.cells #[.int .i64 k] 3 (0, 0))
  only : Only (fun q => q = B) w W
theorem PivW.cells {w W : World} {g n cap B k : Nat} {d : Array Nat} (h : PivW w g n cap d B k W) : W.cell? ⟨B, 0, none⟩ = some (.int .i64 k) ∧ W.frozen? ⟨B, 0, none⟩ = false :=
  ⟨by rw [cell_of_row W B 0 _ _ _ h.box]; rfl, frozen_of_row W B 0 _ _ h.box⟩
theorem PivW.ne {w W : World} {g n cap B k : Nat} {d : Array Nat} (h : PivW w g n cap d B k W) : ∀ q, (Value.slice (some ⟨g, 0, none⟩) n cap).ownBlock = some q → ¬ q = B := Recs.ne_of h.row h.box (by decide)
theorem PivW.trans {w W W' : World} {g n cap B k k' : Nat} {d : Array Nat} (h : PivW w g n cap d B k W) (h' : PivW W g n cap d B k' W') : PivW w g n cap d B k' W' := ⟨h'.row, h'.box, h.only.trans h'.only fun _ _ e => e⟩
theorem PivW.self {w W : World} {g n cap B k : Nat} {d : Array Nat} (h : PivW w g n cap d B k W) : PivW W g n cap d B k W := ⟨h.row, h.box, Only.refl _ _⟩
theorem PivW.drew {w W : World} {g n cap B k : Nat} {d : Array Nat} (h : PivW w g n cap d B k W) (m : Nat) : PivW w g n cap d B k (W.drewN m) := ⟨Recs.keep h.row fun _ _ => rfl, h.box, h.only.trans (Only.drewN _ m) fun _ _ e => e⟩
theorem PivW.count {w W : World} {g n cap B k : Nat} {d : Array Nat} (h : PivW w g n cap d B k W) (k' : Nat) : PivW w g n cap d B k' (W.setCell ⟨B, 0, none⟩ (.int .i64 k')) :=
  ⟨Recs.only (S := fun q => q = B) h.row (Only.setCell _ _ _ rfl) h.ne, by rw [heap_setCell_same W B 0 _ _ _ h.box]; rfl, h.only.trans (Only.setCell (S := fun q => q = B) _ _ _ rfl) fun _ _ e => e⟩

set_option maxHeartbeats 4000000 in
set_option maxRecDepth 100000 in
theorem order2_any (g n cap : Nat) (d : Array Nat) (B k : Nat) (a b : Nat) (w : World) (h : PivW w g n cap d B k w) (ha : a < n) (hb : b < n) (hk : k ≤ 1000) (hn : n ≤ 1073741824) :
    Calls Tryz.prog 212 #[.slice (some ⟨g, 0, none⟩) n cap, .int .i64 a, .int .i64 b, .pointer (some ⟨B, 0, none⟩)] w fun e w' => ∃ x y k' : Nat, ((x = a ∧ y = b) ∨ (x = b ∧ y = a)) ∧ k' ≤ k + 1 ∧ e = .returned (.tuple #[.int .i64 x, .int .i64 y]) ∧ PivW w g n cap d B k' w' := by
  obtain ⟨hsz, hnc, hcm⟩ := h.row.len
  unfold maxLen at hcm
  have hcw := h.row.cells
  have hfw := h.row.frozen
  rw [hsz] at hcw
  have HS := Lib.hid h
  clear h hsz
  go_enter Tryz.func212, Tryz.ntmps212
  go_wp2_with fail
  go_big_quiet (first | (go_at_call 198; refine Calls.quiet_of_same (less_any _ _ _)))
  have HS2 := Lib.hid (HS.out.drew nq)
  obtain ⟨c1, c2⟩ := HS2.out.cells
  clear hcw hfw
  generalize w.drewN nq = w1 at *
  go_wp2_with fail
  · have HC := Lib.hid (HS2.out.count (k + 1))
    go_wp2
    go_ret2
    exact ⟨b, a, k + 1, .inr ⟨rfl, rfl⟩, by omega, rfl, HC.out⟩
  · go_wp2
    go_ret2
    exact ⟨a, b, k, .inl ⟨rfl, rfl⟩, by omega, rfl, HS2.out⟩

set_option maxHeartbeats 4000000 in
set_option maxRecDepth 100000 in
theorem median_any (g n cap : Nat) (d : Array Nat) (B k : Nat) (a b c : Nat) (w : World) (h : PivW w g n cap d B k w) (ha : a < n) (hb : b < n) (hc : c < n) (hk : k ≤ 900) (hn : n ≤ 1073741824) :
    Calls Tryz.prog 210 #[.slice (some ⟨g, 0, none⟩) n cap, .int .i64 a, .int .i64 b, .int .i64 c, .pointer (some ⟨B, 0, none⟩)] w fun e w' => ∃ x k' : Nat, (x = a ∨ x = b ∨ x = c) ∧ k' ≤ k + 3 ∧ e = .returned (.int .i64 x) ∧ PivW w g n cap d B k' w' := by
  have HS := Lib.hid h
  clear h
  have C1 := order2_any g n cap d B k a b w HS.out ha hb (by omega) hn
  go_enter Tryz.func210, Tryz.ntmps210
  go_wp2_with fail
  refine C1.mono ?_
  rintro e w1 ⟨x1, y1, k1, hx1, hk1, rfl, hs1⟩
  have hy1 : y1 < n := by omega
  have hx1n : x1 < n := by omega
  have C2 := order2_any g n cap d B k1 y1 c w1 hs1.self hy1 hc (by omega) hn
  have HS1 := Lib.hid hs1
  clear hs1 C1
  go_wp2_with fail
  refine C2.mono ?_
  rintro e w2 ⟨x2, y2, k2, hx2, hk2, rfl, hs2⟩
  have hx2n : x2 < n := by omega
  have C3 := order2_any g n cap d B k2 x1 x2 w2 hs2.self hx1n hx2n (by omega) hn
  have HS2 := Lib.hid (HS1.out.trans hs2)
  clear hs2 C2 HS1
  go_wp2_with fail
  refine C3.mono ?_
  rintro e w3 ⟨x3, y3, k3, hx3, hk3, rfl, hs3⟩
  go_wp2
  go_ret
  exact ⟨y3, k3, by omega, by omega, rfl, HS2.out.trans hs3⟩

set_option maxHeartbeats 4000000 in
set_option maxRecDepth 100000 in
theorem adjacent_any (g n cap : Nat) (d : Array Nat) (B k : Nat) (a : Nat) (w : World) (h : PivW w g n cap d B k w) (ha : 0 < a) (hb : a + 1 < n) (hk : k ≤ 900) (hn : n ≤ 1073741824) :
    Calls Tryz.prog 209 #[.slice (some ⟨g, 0, none⟩) n cap, .int .i64 a, .pointer (some ⟨B, 0, none⟩)] w fun e w' => ∃ x k' : Nat, (a ≤ x + 1 ∧ x ≤ a + 1) ∧ k' ≤ k + 3 ∧ e = .returned (.int .i64 x) ∧ PivW w g n cap d B k' w' := by
  obtain ⟨a0, ha0⟩ : ∃ a0, a0 = a - 1 := ⟨_, rfl⟩
  obtain ⟨a2, ha2⟩ : ∃ a2, a2 = a + 1 := ⟨_, rfl⟩
  have h1 : (a : Int) - 1 = (a0 : Int) := by omega
  have h2 : (a : Int) + 1 = (a2 : Int) := by omega
  have C1 := Lib.hid (median_any g n cap d B k a0 a a2 w h (by omega) (by omega) (by omega) hk hn)
  have HA0 := Lib.hid ha0
  have HA2 := Lib.hid ha2
  clear ha0 ha2 h
  go_enter Tryz.func209, Tryz.ntmps209
  go_wp2_with fail
  refine C1.out.mono ?_
  rintro e w1 ⟨x1, k1, hx1, hk1, rfl, hs1⟩
  go_wp2
  go_ret
  exact ⟨x1, k1, by have := HA0.out; have := HA2.out; omega, hk1, rfl, hs1⟩

/-- the pivot: some place, some hint -/
def PivTo (a b g n cap : Nat) (d : Array Nat) (w : World) (e : Ending) (w' : World) : Prop := ∃ p h : Nat, a ≤ p ∧ p < b ∧ h ≤ 2 ∧ e = .returned (.tuple #[.int .i64 p, .int .i64 h]) ∧ Below w.heap.size w w'

set_option maxHeartbeats 4000000 in
set_option maxRecDepth 100000 in
theorem pivot_any (g n cap : Nat) (d : Array Nat) (a b : Nat) (w : World) (h : RowU w (.slice (some ⟨g, 0, none⟩) n cap) d) (hab : a < b) (hb : b ≤ n) (hn : n ≤ 1073741824) :
    Calls Tryz.prog 195 #[.slice (some ⟨g, 0, none⟩) n cap, .int .i64 a, .int .i64 b] w (PivTo a b g n cap d w) := by
  obtain ⟨L, hL⟩ : ∃ L, L = b - a := ⟨_, rfl⟩
  have hLi : (b : Int) - (a : Int) = (L : Int) := by omega
  obtain ⟨q, hq⟩ : ∃ q, q = L / 4 := ⟨_, rfl⟩
  have hqi : Int.tdiv (L : Int) 4 = (q : Int) := by rw [Int.tdiv_eq_ediv_of_nonneg (by omega)]; omega
  obtain ⟨i, hi⟩ : ∃ i, i = a + q := ⟨_, rfl⟩
  obtain ⟨j, hj⟩ : ∃ j, j = a + q * 2 := ⟨_, rfl⟩
  obtain ⟨k, hk⟩ : ∃ k, k = a + q * 3 := ⟨_, rfl⟩
  have hii : (a : Int) + (q : Int) = (i : Int) := by omega
  have hji : (a : Int) + (q : Int) * 2 = (j : Int) := by omega
  have hki : (a : Int) + (q : Int) * 3 = (k : Int) := by omega
  have HS := Lib.hid (show PivW (w.alloc (.cells #[.int .i64 0] 3)) g n cap d w.heap.size 0 (w.alloc (.cells #[.int .i64 0] 3)) from ⟨Recs.below h ((Below.refl _ _).alloc (Nat.le_refl _) _), heap_alloc_new w _, Only.refl _ _⟩)
  have HL := Lib.hid hL
  have HQ := Lib.hid hq
  have HI := Lib.hid hi
  have HJ := Lib.hid hj
  have HK := Lib.hid hk
  have hjb : a ≤ j ∧ j < b := by omega
  clear h hL hq hi hj hk
  go_enter Tryz.func195, Tryz.ntmps195
  go_upto_if 32 with (fail)
  have HB0 := Lib.hid ((Below.refl w.heap.size w).alloc (Nat.le_refl _) (.cells #[.int .i64 0] 3))
  obtain ⟨B, hB⟩ : ∃ B, B = w.heap.size := ⟨_, rfl⟩
  rw [← hB] at HS ⊢
  have HBB := Lib.hid hB
  clear hB
  generalize World.alloc w _ = w0 at *
  go_cut [11] (fun s wc => ∃ p t : Nat, s = .int .i64 p ∧ a ≤ p ∧ p < b ∧ t ≤ 12 ∧ PivW w0 g n cap d B t wc)
  case first =>
    by_cases h8 : 8 ≤ L
    · have h8i : ¬ (L : Int) < 8 := by omega
      have hq2 : 2 ≤ q := by have := HQ.out; omega
      have hsum : a + q * 4 ≤ b := by have := HQ.out; have := HL.out; omega
      have hijk : a + 2 ≤ i ∧ i + 2 ≤ j ∧ j + 2 ≤ k ∧ k + 2 ≤ b := by have := HI.out; have := HJ.out; have := HK.out; omega
      by_cases h50 : 50 ≤ L
      · have h50i : ¬ (L : Int) < 50 := by omega
        have C1 := Lib.hid (adjacent_any g n cap d B 0 i w0 HS.out (by omega) (by omega) (by omega) hn)
        go_wp2_with fail
        refine C1.out.mono ?_
        rintro e w1 ⟨x1, k1, hx1, hk1, rfl, hs1⟩
        have C2 := Lib.hid (adjacent_any g n cap d B k1 j w1 hs1.self (by omega) (by omega) (by omega) hn)
        have HS1 := Lib.hid hs1
        clear hs1 C1
        go_wp2_with fail
        refine C2.out.mono ?_
        rintro e w2 ⟨x2, k2, hx2, hk2, rfl, hs2⟩
        have C3 := Lib.hid (adjacent_any g n cap d B k2 k w2 hs2.self (by omega) (by omega) (by omega) hn)
        have HS2 := Lib.hid (HS1.out.trans hs2)
        clear hs2 C2 HS1
        go_wp2_with fail
        refine C3.out.mono ?_
        rintro e w3 ⟨x3, k3, hx3, hk3, rfl, hs3⟩
        have C4 := Lib.hid (median_any g n cap d B k3 x1 x2 x3 w3 hs3.self (by omega) (by omega) (by omega) (by omega) hn)
        have HS3 := Lib.hid (HS2.out.trans hs3)
        clear hs3 C3 HS2
        go_wp2_with fail
        refine C4.out.mono ?_
        rintro e w4 ⟨x4, k4, hx4, hk4, rfl, hs4⟩
        go_wp2_with fail
        go_meet
        exact ⟨x4, k4, rfl, by omega, by omega, by omega, HS3.out.trans hs4⟩
      · have h50i : (L : Int) < 50 := by omega
        have C4 := Lib.hid (median_any g n cap d B 0 i j k w0 HS.out (by omega) (by omega) (by omega) (by omega) hn)
        go_wp2_with fail
        refine C4.out.mono ?_
        rintro e w4 ⟨x4, k4, hx4, hk4, rfl, hs4⟩
        go_wp2_with fail
        go_meet
        exact ⟨x4, k4, rfl, by omega, by omega, by omega, hs4⟩
    · have h8i : (L : Int) < 8 := by omega
      go_wp2_with fail
      go_meet
      exact ⟨j, 0, rfl, hjb.1, hjb.2, by omega, HS.out⟩
  case rest =>
    obtain ⟨p, t, rfl, hap, hpb, ht, hs⟩ := hcut
    obtain ⟨c1, c2⟩ := hs.cells
    have HBW := Lib.hid (show Below w.heap.size w wc from HB0.out.trans (hs.only.below (HB0.out.size) fun i hi e => by have := HBB.out; omega))
    clear hs HS HB0
    by_cases h0 : (t : Int) = 0
    · go_wp2
      go_ret2
      exact ⟨p, 1, hap, hpb, by omega, rfl, HBW.out⟩
    · by_cases h12 : (t : Int) = 12
      · go_wp2
        go_ret2
        exact ⟨p, 2, hap, hpb, by omega, rfl, HBW.out⟩
      · go_wp2
        go_ret2
        exact ⟨p, 0, hap, hpb, by omega, rfl, HBW.out⟩

end Go.Proofs.YtjcmphjjkeigjaaGreat

namespace Go.Proofs.YtjcmphjjkeigjaaGreat
open Go.RowKit
set_option linter.unusedVariables false
set_option linter.unusedSimpArgs false

/-- the row becomes some other one, its part from a to b permuted -/
def MixTo (v : Value) (g a b : Nat) (d : Array Nat) (w : World) (e : Ending) (w' : World) : Prop := ∃ d' : Array Nat, Sort.PermIn a b d d' ∧ SortTo v g (.tuple #[]) d' w e w'

structure BrkW (w : World) (g n cap : Nat) (d : Array Nat) (B : Nat) (W : World) : Prop where
  row : RowU W (.slice (some ⟨g, 0, none⟩) n cap) d
  box : ∃ X : Nat, X < 18446744073709551616 ∧ W.heap[B]? = some (.cells #[.int .u64 X] 283 (0, 0))
  only : Only (fun q => q = g ∨ q = B) w W
theorem BrkW.ne {w W : World} {g n cap B : Nat} {d : Array Nat} (h : BrkW w g n cap d B W) (hn : g ≠ B) : ∀ q, (Value.slice (some ⟨g, 0, none⟩) n cap).ownBlock = some q → ¬ q = B := fun q e => by
  simp [Value.ownBlock] at e; omega
theorem BrkW.swp {w W : World} {g n cap B : Nat} {d : Array Nat} (h : BrkW w g n cap d B W) (hn : g ≠ B) (i j : Nat) (hi : i < d.size) (hj : j < d.size) :
    BrkW w g n cap (Sort.swp d i j) B ((W.setCell ⟨g, i, none⟩ (.int .u64 (d[j]! : Nat))).setCell ⟨g, j, none⟩ (.int .u64 (d[i]! : Nat))).drew := by
  obtain ⟨X, hX, hb⟩ := h.box
  refine ⟨Recs.keep (h.row.swp i j hi hj) fun _ _ => rfl, ⟨X, hX, ?_⟩, ((h.only.trans (Only.setCell (S := fun q => q = g ∨ q = B) _ _ _ (.inl rfl)) fun _ _ e => e).trans (Only.setCell (S := fun q => q = g ∨ q = B) _ _ _ (.inl rfl)) fun _ _ e => e).trans (Only.drew _) fun _ _ e => e⟩
  show ((W.setCell ⟨g, i, none⟩ _).setCell ⟨g, j, none⟩ _).heap[B]? = _
  rw [Below.heap_setCell _ _ _ _ (by show B ≠ g; omega), Below.heap_setCell _ _ _ _ (by show B ≠ g; omega)]
  exact hb
theorem swp_mix (d : Array Nat) (a b i j : Nat) (h1 : a ≤ i) (h2 : i < b) (h3 : a ≤ j) (h4 : j < b) (hb : b ≤ d.size) : Sort.PermIn a b d (Sort.swp d i j) := Sort.swp_permIn d a b i j h1 h2 h3 h4 hb

set_option maxHeartbeats 4000000 in
set_option maxRecDepth 100000 in
theorem break_any (g n cap : Nat) (d : Array Nat) (a b : Nat) (w : World) (h : RowU w (.slice (some ⟨g, 0, none⟩) n cap) d) (hab : a + 8 ≤ b) (hb : b ≤ n) (hn : n ≤ 65535) :
    Calls Tryz.prog 194 #[.slice (some ⟨g, 0, none⟩) n cap, .int .i64 a, .int .i64 b] w (MixTo (.slice (some ⟨g, 0, none⟩) n cap) g a b d w) := by
  obtain ⟨hsz, hnc, hcm⟩ := h.len
  unfold maxLen at hcm
  have HSZ := Lib.hid hsz
  obtain ⟨L, hL⟩ : ∃ L, L = b - a := ⟨_, rfl⟩
  have hLi : (b : Int) - (a : Int) = (L : Int) := by omega
  have hL8 : ¬ (L : Int) < 8 := by omega
  obtain ⟨q, hq⟩ : ∃ q, q = L / 4 * 2 := ⟨_, rfl⟩
  have hqi : Int.tdiv (L : Int) 4 * 2 = (q : Int) := by rw [Int.tdiv_eq_ediv_of_nonneg (by omega)]; omega
  obtain ⟨i, hi⟩ : ∃ i, i = a + q := ⟨_, rfl⟩
  have hii : (a : Int) + (q : Int) = (i : Int) := by omega
  obtain ⟨i0, hi0⟩ : ∃ i0, i0 + 1 = i := ⟨a + q - 1, by omega⟩
  have hi0i : (i : Int) - 1 = (i0 : Int) := by omega
  obtain ⟨M, hM1, hM2, hNP⟩ := pow_any L (by omega) (by omega) w
  have hgl : g < w.heap.size := by have := Recs.lt h g (by simp [Value.ownBlock]); exact this
  have hinb : a ≤ i0 ∧ i0 + 2 < b := by omega
  have hLu : IntKind.u64.wrap (L : Int) = (L : Int) := by rw [IntKind.wrap_u64]; omega
  have HS := Lib.hid (show BrkW (w.alloc (.cells #[.int .u64 L] 283)) g n cap d w.heap.size (w.alloc (.cells #[.int .u64 L] 283)) from ⟨Recs.below h ((Below.refl _ _).alloc (Nat.le_refl _) _), ⟨L, by omega, heap_alloc_new w _⟩, Only.refl _ _⟩)
  have HL := Lib.hid hL
  have HI := Lib.hid (And.intro hi (And.intro hq hi0))
  have HNP := Lib.hid hNP
  have hLab : a + L = b := by omega
  clear h hL hq hi hi0 hNP hsz
  go_enter Tryz.func194, Tryz.ntmps194
  go_wp2_with fail
  refine (HNP.out _).mono ?_
  rintro e w1 ⟨rfl, rfl⟩
  have HB0 := Lib.hid ((Below.refl w.heap.size w).alloc (Nat.le_refl _) (.cells #[.int .u64 L] 283))
  obtain ⟨B, hB⟩ : ∃ B, B = w.heap.size := ⟨_, rfl⟩
  rw [← hB] at HS ⊢
  have HBB := Lib.hid hB
  have hgb : g ≠ B := by omega
  clear hB HNP
  generalize World.alloc w _ = w0 at *
  go_wp2_with fail
  go_loopw [9] (fun x wr => ∃ (t : Nat) (dk : Array Nat), x = .int .i64 ((i0 + t : Nat) : Int) ∧ t ≤ 3 ∧ dk.size = n ∧ Sort.PermIn a b d dk ∧ BrkW w0 g n cap dk B wr) (fun x _ => i0 + 4 - (intOf x).toNat)
  case atStart => exact ⟨0, d, by first | rfl | (congr 1; have h1 := HI.out.1; have h2 := HI.out.2.1; have h3 := HI.out.2.2; omega), by omega, HSZ.out, Sort.permIn_refl d a b, HS.out⟩
  case round =>
    clear HS
    obtain ⟨t, dk, rfl, ht, hdk, hpr, hs⟩ := hrel
    have HDK := Lib.hid hdk
    have HPR := Lib.hid hpr
    have HSK := Lib.hid hs
    obtain ⟨z, hz⟩ : ∃ z, i0 + t = z := ⟨_, rfl⟩
    rw [hz]
    have hi1 : (i : Int) + 1 = ((i0 + 2 : Nat) : Int) := by have := HI.out.2.2; omega
    clear hdk hpr
    by_cases ht3 : t < 3
    · have hzi : (z : Int) ≤ (a : Int) + (L : Int) / 4 * 2 + 1 := by have h1 := HI.out.1; have h2 := HI.out.2.1; have h3 := HI.out.2.2; omega
      have hzn : z < n := by omega
      have hzab : a ≤ z ∧ z < b := by omega
      obtain ⟨X, hX, hbx⟩ := hs.box
      have CN := Lib.hid (next_any B X hX wr hbx)
      clear hs hbx
      go_wp2_with fail
      refine CN.out.mono ?_
      rintro e w1 ⟨Y, hY, rfl, hbx, ho⟩
      have hs1 : BrkW w0 g n cap dk B w1 := ⟨Recs.only HSK.out.row ho (HSK.out.ne hgb), ⟨Y, hY, hbx⟩, HSK.out.only.trans ho fun _ _ e => .inr e⟩
      have hs1b := hs1
      have hcw := hs1.row.cells
      have hfw := hs1.row.frozen
      rw [HDK.out] at hcw
      clear hbx ho HSK CN
      obtain ⟨O, hO⟩ : ∃ O : Nat, O = Y &&& (M - 1) := ⟨_, rfl⟩
      have lO : O ≤ M - 1 := by rw [hO]; exact Nat.and_le_right
      have eAnd : bits .and .u64 (Y : Int) ((M : Int) - 1) = (O : Int) := by
        rw [show ((M : Int) - 1) = ((M - 1 : Nat) : Int) by omega, bits_and_u64_nat _ _ hY (by omega), hO]
      clear hO
      have HS1 := Lib.hid hs1
      have HZ := Lib.hid hz
      by_cases hLO : L ≤ O
      · have hLOi : (L : Int) ≤ (O : Int) := by omega
        obtain ⟨O2, hO2⟩ : ∃ O2, O2 = O - L := ⟨_, rfl⟩
        have hO2i : (O : Int) - (L : Int) = (O2 : Int) := by omega
        have hO2M : O2 < L := by omega
        clear hz hO2
        obtain ⟨y, hy⟩ : ∃ y, y = a + O2 := ⟨_, rfl⟩
        have hyi : (a : Int) + (O2 : Int) = (y : Int) := by omega
        have hyb : a ≤ y ∧ y < b := by omega
        have hyn : y < n := by omega
        have HMX := Lib.hid (Sort.permIn_trans d dk (Sort.swp dk z y) a b HPR.out (swp_mix dk a b z y (by omega) (by omega) hyb.1 hyb.2 (by rw [HDK.out]; exact hb)))
        have HRS := Lib.hid (hs1.swp hgb z y (by rw [HDK.out]; exact hzn) (by rw [HDK.out]; exact hyn))
        clear hy hs1 hs1b
        by_cases hzy : z = y
        · subst hzy
          go_wp2_with fail
          go_region
          go_wp2_with fail
          go_roundw
          case rel => exact ⟨t + 1, Sort.swp dk z z, by first | rfl | (congr 1; have := HZ.out; omega), by omega, by rw [swp_sz]; exact HDK.out, HMX.out, HRS.out⟩
          case measure => have := HZ.out; simp only [intOf]; omega
        · have hzy2 : z < y ∨ y < z := by omega
          rcases hzy2 with hzy2 | hzy2
          · go_wp2_with fail
            go_region
            go_wp2_with fail
            go_roundw
            case rel => exact ⟨t + 1, Sort.swp dk z y, by first | rfl | (congr 1; have := HZ.out; omega), by omega, by rw [swp_sz]; exact HDK.out, HMX.out, HRS.out⟩
            case measure => have := HZ.out; simp only [intOf]; omega
          · go_wp2_with fail
            go_region
            go_wp2_with fail
            go_roundw
            case rel => exact ⟨t + 1, Sort.swp dk z y, by first | rfl | (congr 1; have := HZ.out; omega), by omega, by rw [swp_sz]; exact HDK.out, HMX.out, HRS.out⟩
            case measure => have := HZ.out; simp only [intOf]; omega
      · have hLOi : (O : Int) < (L : Int) := by omega
        clear hz
        obtain ⟨y, hy⟩ : ∃ y, y = a + O := ⟨_, rfl⟩
        have hyi : (a : Int) + (O : Int) = (y : Int) := by omega
        have hyb : a ≤ y ∧ y < b := by omega
        have hyn : y < n := by omega
        have HMX := Lib.hid (Sort.permIn_trans d dk (Sort.swp dk z y) a b HPR.out (swp_mix dk a b z y (by omega) (by omega) hyb.1 hyb.2 (by rw [HDK.out]; exact hb)))
        have HRS := Lib.hid (hs1.swp hgb z y (by rw [HDK.out]; exact hzn) (by rw [HDK.out]; exact hyn))
        clear hy hs1 hs1b
        by_cases hzy : z = y
        · subst hzy
          go_wp2_with fail
          go_region
          go_wp2_with fail
          go_roundw
          case rel => exact ⟨t + 1, Sort.swp dk z z, by first | rfl | (congr 1; have := HZ.out; omega), by omega, by rw [swp_sz]; exact HDK.out, HMX.out, HRS.out⟩
          case measure => have := HZ.out; simp only [intOf]; omega
        · have hzy2 : z < y ∨ y < z := by omega
          rcases hzy2 with hzy2 | hzy2
          · go_wp2_with fail
            go_region
            go_wp2_with fail
            go_roundw
            case rel => exact ⟨t + 1, Sort.swp dk z y, by first | rfl | (congr 1; have := HZ.out; omega), by omega, by rw [swp_sz]; exact HDK.out, HMX.out, HRS.out⟩
            case measure => have := HZ.out; simp only [intOf]; omega
          · go_wp2_with fail
            go_region
            go_wp2_with fail
            go_roundw
            case rel => exact ⟨t + 1, Sort.swp dk z y, by first | rfl | (congr 1; have := HZ.out; omega), by omega, by rw [swp_sz]; exact HDK.out, HMX.out, HRS.out⟩
            case measure => have := HZ.out; simp only [intOf]; omega
    · have hzi : ¬ (z : Int) ≤ (a : Int) + (L : Int) / 4 * 2 + 1 := by have h1 := HI.out.1; have h2 := HI.out.2.1; have h3 := HI.out.2.2; omega
      go_wp2
      go_end0
      exact ⟨dk, HPR.out, rfl, HSK.out.row, by
        have h1 := HSK.out.only
        have h2 := HB0.out
        refine ⟨h1.os.trans h2.os, h1.tape.trans h2.tape, h1.output.trans h2.output, Nat.le_trans h2.size h1.size, fun k hk hne => ?_⟩
        rw [h1.block k (Nat.lt_of_lt_of_le hk h2.size) (by have := HBB.out; intro e; rcases e with e | e; exact hne e; omega), h2.block k hk]⟩

end Go.Proofs.YtjcmphjjkeigjaaGreat
