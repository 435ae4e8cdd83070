/-
  A piece of the proof, laid together by program: SrtE SrtF SrtG SrtH SrtI SrtJ SrtK MapU KeyA JnRep CrcA.
-/
import Derived.Test.YtjcmphjjkeigjaaGreatPaA
import Derived.Test.YtjcmphjjkeigjaaGreatPaB
import Derived.Lib.Strings
import Derived.Lib.Slices
import Derived.Lib.Small
import Derived.Lib.Walk
import Derived.Lib.BitFns
import Derived.Sort.LotD1
import Derived.Laws.Bits64
import Derived.Laws.Bits64b
import Derived.Deep.DeepCutAuto
import Derived.Maps.OwnSet
import Derived.Maps.Range
import Derived.Sort.MapsRangeIn
import Derived.RangeFuncNested
import Derived.RangeFuncBound
import Derived.RangeFuncCalls
import Derived.RangeFuncLeaves
import Derived.RangeFuncBox
import Derived.Maps.AppendAt
import Derived.Shelf.Abstract
import Derived.Shelf.RegionOpen
import Derived.OwnWalkIn
import Derived.TacticsInMore
import Derived.LoopNIn
import Derived.LoopIn
import Derived.Deep.WholeRow
import Derived.Deep.LoopGhost

namespace Go.Proofs.YtjcmphjjkeigjaaGreat
open Go.RowKit
set_option linter.unusedVariables false
set_option linter.unusedSimpArgs false

theorem scanUp_go (p : Nat → Bool) (d : Array Nat) (j i : Nat) (h : i ≤ j) (hl : p d[i]! = true) : Sort.scanUp p d j i = Sort.scanUp p d j (i + 1) := by rw [Sort.scanUp, if_pos (by simp [h, hl])]
theorem scanUp_stop (p : Nat → Bool) (d : Array Nat) (j i : Nat) (hl : p d[i]! = false) : Sort.scanUp p d j i = i := by rw [Sort.scanUp, if_neg (by simp [hl])]
theorem scanUp_end (p : Nat → Bool) (d : Array Nat) (j i : Nat) (h : ¬ i ≤ j) : Sort.scanUp p d j i = i := by rw [Sort.scanUp, if_neg (by simp [h])]
theorem scanDown_go (p : Nat → Bool) (d : Array Nat) (i j : Nat) (h : i ≤ j + 1) (hl : p d[j + 1]! = true) : Sort.scanDown p d i (j + 1) = Sort.scanDown p d i j := by rw [Sort.scanDown, if_pos (by simp [h, hl])]
theorem scanDown_stop (p : Nat → Bool) (d : Array Nat) (i j : Nat) (hl : p d[j + 1]! = false) : Sort.scanDown p d i (j + 1) = j + 1 := by rw [Sort.scanDown, if_neg (by simp [hl])]
theorem scanDown_end (p : Nat → Bool) (d : Array Nat) (i j : Nat) (h : ¬ i ≤ j) : Sort.scanDown p d i j = j := by
  cases j with
  | zero => rfl
  | succ j => rw [Sort.scanDown, if_neg (by simp; omega)]

def upP (d : Array Nat) (a : Nat) (x : Nat) : Bool := ltN x d[a]!
def dnP (d : Array Nat) (a : Nat) (x : Nat) : Bool := !ltN x d[a]!
/-- the loop of a partition, laid open -/
theorem part_break (a i j i2 j2 : Nat) (d : Array Nat) (hi : Sort.scanUp (upP d a) d j i = i2) (hj : Sort.scanDown (dnP d a) d i2 j = j2) (h : i2 > j2) : Sort.partLoop ltN a i j d = (j2, d) := by
  rw [Sort.partLoop_eq]
  have e1 : Sort.scanUp (fun x => ltN x d[a]!) d j i = i2 := hi
  have e2 : Sort.scanDown (fun x => !ltN x d[a]!) d i2 j = j2 := hj
  simp only [e1, e2]
  rw [if_pos h]
theorem part_go (a i j i2 j2 : Nat) (d : Array Nat) (hi : Sort.scanUp (upP d a) d j i = i2) (hj : Sort.scanDown (dnP d a) d i2 j = j2) (h : ¬ i2 > j2) : Sort.partLoop ltN a i j d = Sort.partLoop ltN a (i2 + 1) (j2 - 1) (Sort.swp d i2 j2) := by
  rw [Sort.partLoop_eq]
  have e1 : Sort.scanUp (fun x => ltN x d[a]!) d j i = i2 := hi
  have e2 : Sort.scanDown (fun x => !ltN x d[a]!) d i2 j = j2 := hj
  simp only [e1, e2]
  rw [if_neg h]
theorem part_one (a b p i j : Nat) (d : Array Nat) (hi : Sort.scanUp (upP (Sort.swp d a p) a) (Sort.swp d a p) (b - 1) (a + 1) = i) (hj : Sort.scanDown (dnP (Sort.swp d a p) a) (Sort.swp d a p) i (b - 1) = j) (h : i > j) :
    Sort.partition ltN d a b p = (j, true, Sort.swp (Sort.swp d a p) j a) := by
  unfold Sort.partition
  have e1 : Sort.scanUp (fun x => ltN x (Sort.swp d a p)[a]!) (Sort.swp d a p) (b - 1) (a + 1) = i := hi
  have e2 : Sort.scanDown (fun x => !ltN x (Sort.swp d a p)[a]!) (Sort.swp d a p) i (b - 1) = j := hj
  simp only [e1, e2]
  rw [if_pos h]
theorem part_two (a b p i j : Nat) (d : Array Nat) (hi : Sort.scanUp (upP (Sort.swp d a p) a) (Sort.swp d a p) (b - 1) (a + 1) = i) (hj : Sort.scanDown (dnP (Sort.swp d a p) a) (Sort.swp d a p) i (b - 1) = j) (h : ¬ i > j) :
    Sort.partition ltN d a b p = ((Sort.partLoop ltN a (i + 1) (j - 1) (Sort.swp (Sort.swp d a p) i j)).1, false, Sort.swp (Sort.partLoop ltN a (i + 1) (j - 1) (Sort.swp (Sort.swp d a p) i j)).2 (Sort.partLoop ltN a (i + 1) (j - 1) (Sort.swp (Sort.swp d a p) i j)).1 a) := by
  unfold Sort.partition
  have e1 : Sort.scanUp (fun x => ltN x (Sort.swp d a p)[a]!) (Sort.swp d a p) (b - 1) (a + 1) = i := hi
  have e2 : Sort.scanDown (fun x => !ltN x (Sort.swp d a p)[a]!) (Sort.swp d a p) i (b - 1) = j := hj
  simp only [e1, e2]
  rw [if_neg h]

set_option maxHeartbeats 8000000 in
set_option maxRecDepth 100000 in
theorem partition_any (g n cap : Nat) (d : Array Nat) (a b p : Nat) (w : World) (h : RowU w (.slice (some ⟨g, 0, none⟩) n cap) d) (hap : a ≤ p) (hpb : p < b) (hb : b ≤ n) (hn : n ≤ 1073741824) :
    Calls Tryz.prog 200 #[.slice (some ⟨g, 0, none⟩) n cap, .int .i64 a, .int .i64 b, .int .i64 p] w (SortTo (.slice (some ⟨g, 0, none⟩) n cap) g (.tuple #[.int .i64 ((Sort.partition ltN d a b p).1 : Nat), .bool (Sort.partition ltN d a b p).2.1]) (Sort.partition ltN d a b p).2.2 w) := by
  obtain ⟨hsz, hnc, hcm⟩ := h.len
  unfold maxLen at hcm
  have HS := Lib.hid (RowW.start h)
  have HSZ := Lib.hid hsz
  have hcw := h.cells
  have hfw := h.frozen
  rw [hsz] at hcw
  have han : a < n := by omega
  have hpn : p < n := by omega
  clear h hsz
  obtain ⟨R, hR⟩ : ∃ R, R = Sort.partition ltN d a b p := ⟨_, rfl⟩
  have HRR := Lib.hid hR
  rw [← hR]
  clear hR
  go_enter Tryz.func200, Tryz.ntmps200
  go_upto_region 1 with (fail)
  go_cut [] (fun wc => RowW w g n cap (Sort.swp d a p) wc)
  case first =>
    have HRS := Lib.hid (RowW.swp HS.out a p (by rw [HSZ.out]; exact han) (by rw [HSZ.out]; exact hpn)).drew1
    by_cases hxy : a = p
    · subst hxy
      go_region
      go_wp2_with fail
      go_meet
      exact HRS.out
    · have hxi : a < p := by omega
      go_region
      go_wp2_with fail
      go_meet
      exact HRS.out
  case rest =>
    clear hcw hfw
    obtain ⟨d0, hd0⟩ : ∃ e, e = Sort.swp d a p := ⟨_, rfl⟩
    rw [← hd0] at hcut
    have HRW := Lib.hid hcut
    have HDK := Lib.hid (show d0.size = n by rw [hd0, swp_sz]; exact HSZ.out)
    have HD0 := Lib.hid hd0
    have hcw := HRW.out.row.cells
    have hfw := HRW.out.row.frozen
    rw [HDK.out] at hcw
    clear hcut hd0 HS
    obtain ⟨b1, hb1⟩ : ∃ b1, b1 = b - 1 := ⟨_, rfl⟩
    have hb1i : (b : Int) - 1 = (b1 : Int) := by omega
    obtain ⟨a1, ha1⟩ : ∃ a1, a1 = a + 1 := ⟨_, rfl⟩
    have ha1i : (a : Int) + 1 = (a1 : Int) := by omega
    have HA1 := Lib.hid ha1
    have HB1 := Lib.hid hb1
    have hb1n : b1 < n := by omega
    have hab1 : a1 ≤ b1 + 1 := by omega
    have haa1 : a < a1 := by omega
    clear ha1 hb1
    go_upto_block 0 with (fail)
    go_cut [10] (fun s wc => ∃ i : Nat, s = .int .i64 i ∧ a1 ≤ i ∧ i ≤ b1 + 1 ∧ Sort.scanUp (upP d0 a) d0 b1 a1 = i ∧ (i ≤ b1 → ltN d0[i]! d0[a]! = false) ∧ RowW w g n cap d0 wc)
    case first =>
      go_wp2_with fail
      go_loopw [10] (fun x wr2 => ∃ i : Nat, x = .int .i64 i ∧ a1 ≤ i ∧ i ≤ b1 + 1 ∧ RowW w g n cap d0 wr2 ∧ Sort.scanUp (upP d0 a) d0 b1 a1 = Sort.scanUp (upP d0 a) d0 b1 i) (fun x _ => b1 + 1 - (intOf x).toNat)
      case atStart => exact ⟨a1, rfl, Nat.le_refl _, by omega, HRW.out, rfl⟩
      case round =>
        clear hcw hfw
        obtain ⟨i, rfl, hi0, hiJ, hrw, heq⟩ := hrel
        have HRJ := Lib.hid hrw
        have HEJ := Lib.hid heq
        have hcw := hrw.row.cells
        have hfw := hrw.row.frozen
        rw [HDK.out] at hcw
        clear hrw heq
        by_cases hlt : i ≤ b1
        · have hlti : (i : Int) ≤ (b1 : Int) := by omega
          have hin : i < n := by omega
          go_wp2_with fail
          go_big_quiet (first | (go_at_call 198; refine Calls.quiet_of_same (less_any _ _ _)))
          go_wp2_with fail
          · have hl : ltN d0[i]! d0[a]! = true := by
              assumption
            go_roundw
            case rel => exact ⟨i + 1, by first | rfl | simp, by omega, by omega, HRJ.out.drew _, by rw [HEJ.out, scanUp_go (upP d0 a) d0 b1 i hlt hl]⟩
            case measure => simp only [intOf]; omega
          · have hl : ltN d0[i]! d0[a]! = false := by
              assumption
            go_meet
            exact ⟨i, rfl, hi0, hiJ, by rw [HEJ.out, scanUp_stop (upP d0 a) d0 b1 i hl], fun _ => hl, HRJ.out.drew _⟩
        · have hlti : ¬ (i : Int) ≤ (b1 : Int) := by omega
          go_wp2_with fail
          go_big_quiet (fail)
          go_wp2_with fail
          go_meet
          exact ⟨i, rfl, hi0, hiJ, by rw [HEJ.out, scanUp_end _ d0 b1 i hlt], fun h => absurd h hlt, HRJ.out.drew _⟩

    case rest =>
      clear hcw hfw HRW
      obtain ⟨i, rfl, hai, hib, hsu, hil, hrw⟩ := hcut
      have HRW := Lib.hid hrw
      have HSU := Lib.hid hsu
      have HIL := Lib.hid hil
      have hcw := hrw.row.cells
      have hfw := hrw.row.frozen
      rw [HDK.out] at hcw
      clear hrw hsu hil
      go_upto_block 2 with (fail)
      go_cut [11] (fun s wc => ∃ j : Nat, s = .int .i64 j ∧ j ≤ b1 ∧ i ≤ j + 1 ∧ Sort.scanDown (dnP d0 a) d0 i b1 = j ∧ (i ≤ j → ltN d0[j]! d0[a]! = true) ∧ RowW w g n cap d0 wc)
      case first =>
        go_wp2_with fail
        go_loopw [11] (fun x wr2 => ∃ j : Nat, x = .int .i64 j ∧ j ≤ b1 ∧ i ≤ j + 1 ∧ RowW w g n cap d0 wr2 ∧ Sort.scanDown (dnP d0 a) d0 i b1 = Sort.scanDown (dnP d0 a) d0 i j) (fun x _ => (intOf x).toNat)
        case atStart => exact ⟨b1, rfl, Nat.le_refl _, by omega, HRW.out, rfl⟩
        case round =>
          clear hcw hfw
          obtain ⟨j, rfl, hj0, hjI, hrw, heq⟩ := hrel
          have HRJ := Lib.hid hrw
          have HEJ := Lib.hid heq
          have hcw := hrw.row.cells
          have hfw := hrw.row.frozen
          rw [HDK.out] at hcw
          clear hrw heq
          by_cases hlt : i ≤ j
          · have hlti : (i : Int) ≤ (j : Int) := by omega
            have hjn : j < n := by omega
            obtain ⟨r, hr⟩ : ∃ r, j = r + 1 := ⟨j - 1, by omega⟩
            have hri : (j : Int) - 1 = (r : Int) := by omega
            have HR := Lib.hid hr
            clear hr
            go_wp2_with fail
            go_big_quiet (first | (go_at_call 198; refine Calls.quiet_of_same (less_any _ _ _)))
            go_wp2_with fail
            · have hl : ltN d0[j]! d0[a]! = false := by
                have : (!ltN d0[j]! d0[a]!) = true := by assumption
                simpa using this
              go_roundw
              case rel => exact ⟨r, rfl, by have := HR.out; omega, by have := HR.out; omega, HRJ.out.drew _, by
                have h2 := HR.out
                subst h2
                rw [HEJ.out, scanDown_go (dnP d0 a) d0 i r hlt (by show (!ltN _ _) = true; rw [hl]; rfl)]⟩
              case measure => have := HR.out; simp only [intOf]; omega
            · have hl : ltN d0[j]! d0[a]! = true := by
                have : (!ltN d0[j]! d0[a]!) = false := by assumption
                simpa using this
              go_meet
              exact ⟨j, rfl, hj0, hjI, by
                have h2 := HR.out
                subst h2
                rw [HEJ.out, scanDown_stop (dnP d0 a) d0 i r (by show (!ltN _ _) = false; rw [hl]; rfl)], fun _ => hl, HRJ.out.drew _⟩
          · have hlti : ¬ (i : Int) ≤ (j : Int) := by omega
            go_wp2_with fail
            go_big_quiet (fail)
            go_wp2_with fail
            go_meet
            exact ⟨j, rfl, hj0, hjI, by rw [HEJ.out, scanDown_end _ d0 i j hlt], fun h => absurd h hlt, HRJ.out.drew _⟩

      case rest =>
        clear hcw hfw HRW
        obtain ⟨j, rfl, hjb, hij, hsd, hjl, hrw⟩ := hcut
        have HRW := Lib.hid hrw
        have HSD := Lib.hid hsd
        have hcw := hrw.row.cells
        have hfw := hrw.row.frozen
        rw [HDK.out] at hcw
        clear hrw hsd
        by_cases hgt : j < i
        · have hgti : (j : Int) < (i : Int) := by omega
          have haj : a ≤ j := by omega
          have hjn : j < n := by omega
          go_upto_region 8 with (fail)
          go_cut [] (fun wc => RowW w g n cap (Sort.swp d0 j a) wc)
          case first =>
            have HRS := Lib.hid (RowW.swp HRW.out j a (by rw [HDK.out]; exact hjn) (by rw [HDK.out]; exact han)).drew1
            by_cases hxy : j = a
            · subst hxy
              go_region
              go_wp2_with fail
              go_meet
              exact HRS.out
            · have hxi : a < j := by omega
              go_region
              go_wp2_with fail
              go_meet
              exact HRS.out

          case rest =>
            have HRT := Lib.hid hcut
            have h1 := part_one a b p i j d (by rw [← HD0.out, ← HB1.out, ← HA1.out]; exact HSU.out) (by rw [← HD0.out, ← HB1.out]; exact HSD.out) hgt
            rw [← HRR.out, ← HD0.out] at h1
            clear hcut
            go_wp2_with fail
            go_ret2
            rw [h1]
            exact HRT.out.done _
        · have hgti : ¬ (j : Int) < (i : Int) := by omega
          have hijn : i ≠ j := by
            rintro rfl
            have h1 := HIL.out hjb
            have h2 := hjl (Nat.le_refl _)
            rw [h1] at h2; cases h2
          have hijl : i < j := by omega
          have hin : i < n := by omega
          have hjn : j < n := by omega
          have HP2 := Lib.hid (part_two a b p i j d (by rw [← HD0.out, ← HB1.out, ← HA1.out]; exact HSU.out) (by rw [← HD0.out, ← HB1.out]; exact HSD.out) hgt)
          rw [← HRR.out, ← HD0.out] at HP2
          clear hjl hijn
          go_upto_region 10 with (fail)
          go_cut [] (fun wc => RowW w g n cap (Sort.swp d0 i j) wc)
          case first =>
            have HRS := Lib.hid (RowW.swp HRW.out i j (by rw [HDK.out]; exact hin) (by rw [HDK.out]; exact hjn)).drew1
            have hxi : i < j := by omega
            go_region
            go_wp2_with fail
            go_meet
            exact HRS.out

          case rest =>
            have HDKK := HDK
            clear hcw hfw HRW HSU HSD HIL HDK HD0
            obtain ⟨d1, hd1⟩ : ∃ e, e = Sort.swp d0 i j := ⟨_, rfl⟩
            rw [← hd1] at hcut HP2
            have HR1 := Lib.hid hcut
            have HD1 := Lib.hid (show d1.size = n by rw [hd1, swp_sz]; exact HDKK.out)
            clear hcut hd1
            obtain ⟨j1, hj1⟩ : ∃ j1, j1 = j - 1 := ⟨_, rfl⟩
            have hj1i : (j : Int) - 1 = (j1 : Int) := by omega
            rw [← hj1] at HP2
            go_wp2_with fail
            go_loopw [10, 11] (fun x y wr => ∃ (i2 j2 : Nat) (dk : Array Nat), x = .int .i64 i2 ∧ y = .int .i64 j2 ∧ a < i2 ∧ i2 ≤ j2 + 1 ∧ j2 < b ∧ a ≤ j2 ∧ dk.size = n ∧ RowW w g n cap dk wr ∧ Sort.partLoop ltN a i2 j2 dk = Sort.partLoop ltN a (i + 1) j1 d1) (fun x y _ => (intOf y + 1 - intOf x).toNat)
            case atStart => exact ⟨i + 1, j1, d1, by first | rfl | simp, by first | rfl | rw [hj1], by omega, by omega, by omega, by omega, HD1.out, HR1.out, rfl⟩
            case round =>
              obtain ⟨i2, j2, dk, rfl, rfl, hai2, hij2, hjb2, haj2, hdk, hrw, heq⟩ := hrel
              have HRW := Lib.hid hrw
              have HEQ := Lib.hid heq
              have HDK := Lib.hid hdk
              have hcw := hrw.row.cells
              have hfw := hrw.row.frozen
              rw [hdk] at hcw
              clear hrw heq hdk HR1
              have hj2n : j2 < n := by omega
              go_upto_block 6 with (fail)
              go_cut [10] (fun s wc => ∃ i3 : Nat, s = .int .i64 i3 ∧ i2 ≤ i3 ∧ i3 ≤ j2 + 1 ∧ Sort.scanUp (upP dk a) dk j2 i2 = i3 ∧ (i3 ≤ j2 → ltN dk[i3]! dk[a]! = false) ∧ RowW w g n cap dk wc)
              case first =>
                go_wp2_with fail
                go_loopw [10] (fun x wr2 => ∃ i : Nat, x = .int .i64 i ∧ i2 ≤ i ∧ i ≤ j2 + 1 ∧ RowW w g n cap dk wr2 ∧ Sort.scanUp (upP dk a) dk j2 i2 = Sort.scanUp (upP dk a) dk j2 i) (fun x _ => j2 + 1 - (intOf x).toNat)
                case atStart => exact ⟨i2, rfl, Nat.le_refl _, by omega, HRW.out, rfl⟩
                case round =>
                  clear hcw hfw
                  obtain ⟨i, rfl, hi0, hiJ, hrw, heq⟩ := hrel
                  have HRJ := Lib.hid hrw
                  have HEJ := Lib.hid heq
                  have hcw := hrw.row.cells
                  have hfw := hrw.row.frozen
                  rw [HDK.out] at hcw
                  clear hrw heq
                  by_cases hlt : i ≤ j2
                  · have hlti : (i : Int) ≤ (j2 : Int) := by omega
                    have hin : i < n := by omega
                    go_wp2_with fail
                    go_big_quiet (first | (go_at_call 198; refine Calls.quiet_of_same (less_any _ _ _)))
                    go_wp2_with fail
                    · have hl : ltN dk[i]! dk[a]! = true := by
                        assumption
                      go_roundw
                      case rel => exact ⟨i + 1, by first | rfl | simp, by omega, by omega, HRJ.out.drew _, by rw [HEJ.out, scanUp_go (upP dk a) dk j2 i hlt hl]⟩
                      case measure => simp only [intOf]; omega
                    · have hl : ltN dk[i]! dk[a]! = false := by
                        assumption
                      go_meet
                      exact ⟨i, rfl, hi0, hiJ, by rw [HEJ.out, scanUp_stop (upP dk a) dk j2 i hl], fun _ => hl, HRJ.out.drew _⟩
                  · have hlti : ¬ (i : Int) ≤ (j2 : Int) := by omega
                    go_wp2_with fail
                    go_big_quiet (fail)
                    go_wp2_with fail
                    go_meet
                    exact ⟨i, rfl, hi0, hiJ, by rw [HEJ.out, scanUp_end _ dk j2 i hlt], fun h => absurd h hlt, HRJ.out.drew _⟩

              case rest =>
                clear hcw hfw HRW
                obtain ⟨i3, rfl, hi23, hi3, hsu, hil, hrw⟩ := hcut
                have HRW := Lib.hid hrw
                have HSU := Lib.hid hsu
                have HIL := Lib.hid hil
                have hcw := hrw.row.cells
                have hfw := hrw.row.frozen
                rw [HDK.out] at hcw
                clear hrw hsu hil
                go_upto_block 8 with (fail)
                go_cut [11] (fun s wc => ∃ j3 : Nat, s = .int .i64 j3 ∧ j3 ≤ j2 ∧ i3 ≤ j3 + 1 ∧ Sort.scanDown (dnP dk a) dk i3 j2 = j3 ∧ (i3 ≤ j3 → ltN dk[j3]! dk[a]! = true) ∧ RowW w g n cap dk wc)
                case first =>
                  go_wp2_with fail
                  go_loopw [11] (fun x wr2 => ∃ j : Nat, x = .int .i64 j ∧ j ≤ j2 ∧ i3 ≤ j + 1 ∧ RowW w g n cap dk wr2 ∧ Sort.scanDown (dnP dk a) dk i3 j2 = Sort.scanDown (dnP dk a) dk i3 j) (fun x _ => (intOf x).toNat)
                  case atStart => exact ⟨j2, rfl, Nat.le_refl _, by omega, HRW.out, rfl⟩
                  case round =>
                    clear hcw hfw
                    obtain ⟨j, rfl, hj0, hjI, hrw, heq⟩ := hrel
                    have HRJ := Lib.hid hrw
                    have HEJ := Lib.hid heq
                    have hcw := hrw.row.cells
                    have hfw := hrw.row.frozen
                    rw [HDK.out] at hcw
                    clear hrw heq
                    by_cases hlt : i3 ≤ j
                    · have hlti : (i3 : Int) ≤ (j : Int) := by omega
                      have hjn : j < n := by omega
                      obtain ⟨r, hr⟩ : ∃ r, j = r + 1 := ⟨j - 1, by omega⟩
                      have hri : (j : Int) - 1 = (r : Int) := by omega
                      have HR := Lib.hid hr
                      clear hr
                      go_wp2_with fail
                      go_big_quiet (first | (go_at_call 198; refine Calls.quiet_of_same (less_any _ _ _)))
                      go_wp2_with fail
                      · have hl : ltN dk[j]! dk[a]! = false := by
                          have : (!ltN dk[j]! dk[a]!) = true := by assumption
                          simpa using this
                        go_roundw
                        case rel => exact ⟨r, rfl, by have := HR.out; omega, by have := HR.out; omega, HRJ.out.drew _, by
                          have h2 := HR.out
                          subst h2
                          rw [HEJ.out, scanDown_go (dnP dk a) dk i3 r hlt (by show (!ltN _ _) = true; rw [hl]; rfl)]⟩
                        case measure => have := HR.out; simp only [intOf]; omega
                      · have hl : ltN dk[j]! dk[a]! = true := by
                          have : (!ltN dk[j]! dk[a]!) = false := by assumption
                          simpa using this
                        go_meet
                        exact ⟨j, rfl, hj0, hjI, by
                          have h2 := HR.out
                          subst h2
                          rw [HEJ.out, scanDown_stop (dnP dk a) dk i3 r (by show (!ltN _ _) = false; rw [hl]; rfl)], fun _ => hl, HRJ.out.drew _⟩
                    · have hlti : ¬ (i3 : Int) ≤ (j : Int) := by omega
                      go_wp2_with fail
                      go_big_quiet (fail)
                      go_wp2_with fail
                      go_meet
                      exact ⟨j, rfl, hj0, hjI, by rw [HEJ.out, scanDown_end _ dk i3 j hlt], fun h => absurd h hlt, HRJ.out.drew _⟩

                case rest =>
                  clear hcw hfw HRW
                  obtain ⟨j3, rfl, hj32, hij3, hsd, hjl, hrw⟩ := hcut
                  have HRW := Lib.hid hrw
                  have HSD := Lib.hid hsd
                  have hcw := hrw.row.cells
                  have hfw := hrw.row.frozen
                  rw [HDK.out] at hcw
                  clear hrw hsd
                  have haj3 : a ≤ j3 := by omega
                  have hj3n : j3 < n := by omega
                  by_cases hgt : j3 < i3
                  · have hgti : (j3 : Int) < (i3 : Int) := by omega
                    have HBR := Lib.hid (part_break a i2 j2 i3 j3 dk HSU.out HSD.out hgt)
                    rw [HEQ.out] at HBR
                    rw [HBR.out] at HP2
                    go_upto_region 21 with (fail)
                    go_cut [] (fun wc => RowW w g n cap (Sort.swp dk j3 a) wc)
                    case first =>
                      have HRS := Lib.hid (RowW.swp HRW.out j3 a (by rw [HDK.out]; exact hj3n) (by rw [HDK.out]; exact han)).drew1
                      by_cases hxy : j3 = a
                      · subst hxy
                        go_region
                        go_wp2_with fail
                        go_meet
                        exact HRS.out
                      · have hxi : a < j3 := by omega
                        go_region
                        go_wp2_with fail
                        go_meet
                        exact HRS.out
                    case rest =>
                      have HRT := Lib.hid hcut
                      clear hcut hcw hfw HRW
                      go_wp2_with fail
                      go_ret2
                      rw [HP2.out]
                      exact HRT.out.done _

                  · have hgti : ¬ (j3 : Int) < (i3 : Int) := by omega
                    have hijn : i3 ≠ j3 := by
                      rintro rfl
                      have h1 := HIL.out (by omega)
                      have h2 := hjl (Nat.le_refl _)
                      rw [h1] at h2; cases h2
                    have hijl : i3 < j3 := by omega
                    have hi3n : i3 < n := by omega
                    have HGO := Lib.hid (part_go a i2 j2 i3 j3 dk HSU.out HSD.out hgt)
                    rw [HEQ.out] at HGO
                    clear hjl hijn
                    obtain ⟨j4, hj4⟩ : ∃ j4, j4 = j3 - 1 := ⟨_, rfl⟩
                    have hj4i : (j3 : Int) - 1 = (j4 : Int) := by omega
                    rw [← hj4] at HGO
                    go_upto_region 18 with (fail)
                    go_cut [] (fun wc => RowW w g n cap (Sort.swp dk i3 j3) wc)
                    case first =>
                      have HRS := Lib.hid (RowW.swp HRW.out i3 j3 (by rw [HDK.out]; exact hi3n) (by rw [HDK.out]; exact hj3n)).drew1
                      have hxi : i3 < j3 := by omega
                      go_region
                      go_wp2_with fail
                      go_meet
                      exact HRS.out

                    case rest =>
                      have HRT := Lib.hid hcut
                      clear hcut hcw hfw HRW
                      go_wp2_with fail
                      go_roundw
                      case rel => exact ⟨i3 + 1, j4, Sort.swp dk i3 j3, by first | rfl | simp, by first | rfl | rw [hj4], by omega, by omega, by omega, by omega, by rw [swp_sz]; exact HDK.out, HRT.out, HGO.out.symm⟩
                      case measure => simp only [intOf]; omega

end Go.Proofs.YtjcmphjjkeigjaaGreat

namespace Go.Proofs.YtjcmphjjkeigjaaGreat
open Go.RowKit
set_option linter.unusedVariables false
set_option linter.unusedSimpArgs false

def upE (d : Array Nat) (a : Nat) (x : Nat) : Bool := !ltN d[a]! x
def dnE (d : Array Nat) (a : Nat) (x : Nat) : Bool := ltN d[a]! x
theorem parteq_break (a i j i2 j2 : Nat) (d : Array Nat) (hi : Sort.scanUp (upE d a) d j i = i2) (hj : Sort.scanDown (dnE d a) d i2 j = j2) (h : i2 > j2) : Sort.partEqLoop ltN a i j d = (i2, d) := by
  rw [Sort.partEqLoop_eq]
  have e1 : Sort.scanUp (fun x => !ltN d[a]! x) d j i = i2 := hi
  have e2 : Sort.scanDown (fun x => ltN d[a]! x) d i2 j = j2 := hj
  simp only [e1, e2]
  rw [if_pos h]
theorem parteq_go (a i j i2 j2 : Nat) (d : Array Nat) (hi : Sort.scanUp (upE d a) d j i = i2) (hj : Sort.scanDown (dnE d a) d i2 j = j2) (h : ¬ i2 > j2) : Sort.partEqLoop ltN a i j d = Sort.partEqLoop ltN a (i2 + 1) (j2 - 1) (Sort.swp d i2 j2) := by
  rw [Sort.partEqLoop_eq]
  have e1 : Sort.scanUp (fun x => !ltN d[a]! x) d j i = i2 := hi
  have e2 : Sort.scanDown (fun x => ltN d[a]! x) d i2 j = j2 := hj
  simp only [e1, e2]
  rw [if_neg h]

set_option maxHeartbeats 8000000 in
set_option maxRecDepth 100000 in
theorem parteq_any (g n cap : Nat) (d : Array Nat) (a b p : Nat) (w : World) (h : RowU w (.slice (some ⟨g, 0, none⟩) n cap) d) (hap : a ≤ p) (hpb : p < b) (hb : b ≤ n) (hn : n ≤ 1073741824) :
    Calls Tryz.prog 199 #[.slice (some ⟨g, 0, none⟩) n cap, .int .i64 a, .int .i64 b, .int .i64 p] w (SortTo (.slice (some ⟨g, 0, none⟩) n cap) g (.int .i64 ((Sort.partitionEqual ltN d a b p).1 : Nat)) (Sort.partitionEqual ltN d a b p).2 w) := by
  obtain ⟨hsz, hnc, hcm⟩ := h.len
  unfold maxLen at hcm
  have HS := Lib.hid (RowW.start h)
  have HSZ := Lib.hid hsz
  have hcw := h.cells
  have hfw := h.frozen
  rw [hsz] at hcw
  have han : a < n := by omega
  have hpn : p < n := by omega
  clear h hsz
  obtain ⟨R, hR⟩ : ∃ R, R = Sort.partitionEqual ltN d a b p := ⟨_, rfl⟩
  have HRR := Lib.hid hR
  rw [← hR]
  clear hR
  go_enter Tryz.func199, Tryz.ntmps199
  go_upto_region 1 with (fail)
  go_cut [] (fun wc => RowW w g n cap (Sort.swp d a p) wc)
  case first =>
    have HRS := Lib.hid (RowW.swp HS.out a p (by rw [HSZ.out]; exact han) (by rw [HSZ.out]; exact hpn)).drew1
    by_cases hxy : a = p
    · subst hxy
      go_region
      go_wp2_with fail
      go_meet
      exact HRS.out
    · have hxi : a < p := by omega
      go_region
      go_wp2_with fail
      go_meet
      exact HRS.out
  case rest =>
    clear hcw hfw
    obtain ⟨d1, hd1⟩ : ∃ e, e = Sort.swp d a p := ⟨_, rfl⟩
    rw [← hd1] at hcut
    have HR1 := Lib.hid hcut
    have HD1 := Lib.hid (show d1.size = n by rw [hd1, swp_sz]; exact HSZ.out)
    obtain ⟨j1, hj1⟩ : ∃ j1, j1 = b - 1 := ⟨_, rfl⟩
    have hj1i : (b : Int) - 1 = (j1 : Int) := by omega
    have HP2 := Lib.hid (show R = Sort.partEqLoop ltN a (a + 1) j1 d1 by rw [HRR.out, hd1, hj1]; rfl)
    clear hcut hd1 HS
    go_wp2_with fail
    go_loopw [9, 10] (fun x y wr => ∃ (i2 j2 : Nat) (dk : Array Nat), x = .int .i64 i2 ∧ y = .int .i64 j2 ∧ a < i2 ∧ i2 ≤ j2 + 1 ∧ j2 < b ∧ a ≤ j2 ∧ dk.size = n ∧ RowW w g n cap dk wr ∧ Sort.partEqLoop ltN a i2 j2 dk = Sort.partEqLoop ltN a (a + 1) j1 d1) (fun x y _ => (intOf y + 1 - intOf x).toNat)
    case atStart => exact ⟨a + 1, j1, d1, by first | rfl | simp, by first | rfl | rw [hj1], by omega, by omega, by omega, by omega, HD1.out, HR1.out, rfl⟩
    case round =>
      obtain ⟨i2, j2, dk, rfl, rfl, hai2, hij2, hjb2, haj2, hdk, hrw, heq⟩ := hrel
      have HRW := Lib.hid hrw
      have HEQ := Lib.hid heq
      have HDK := Lib.hid hdk
      have hcw := hrw.row.cells
      have hfw := hrw.row.frozen
      rw [hdk] at hcw
      clear hrw heq hdk HR1
      have hj2n : j2 < n := by omega
      go_upto_block 2 with (fail)
      go_cut [9] (fun s wc => ∃ i3 : Nat, s = .int .i64 i3 ∧ i2 ≤ i3 ∧ i3 ≤ j2 + 1 ∧ Sort.scanUp (upE dk a) dk j2 i2 = i3 ∧ (i3 ≤ j2 → ltN dk[a]! dk[i3]! = true) ∧ RowW w g n cap dk wc)
      case first =>
        go_wp2_with fail
        go_loopw [9] (fun x wr2 => ∃ i : Nat, x = .int .i64 i ∧ i2 ≤ i ∧ i ≤ j2 + 1 ∧ RowW w g n cap dk wr2 ∧ Sort.scanUp (upE dk a) dk j2 i2 = Sort.scanUp (upE dk a) dk j2 i) (fun x _ => j2 + 1 - (intOf x).toNat)
        case atStart => exact ⟨i2, rfl, Nat.le_refl _, by omega, HRW.out, rfl⟩
        case round =>
          clear hcw hfw
          obtain ⟨i, rfl, hi0, hiJ, hrw, heq⟩ := hrel
          have HRJ := Lib.hid hrw
          have HEJ := Lib.hid heq
          have hcw := hrw.row.cells
          have hfw := hrw.row.frozen
          rw [HDK.out] at hcw
          clear hrw heq
          by_cases hlt : i ≤ j2
          · have hlti : (i : Int) ≤ (j2 : Int) := by omega
            have hin : i < n := by omega
            go_wp2_with fail
            go_big_quiet (first | (go_at_call 198; refine Calls.quiet_of_same (less_any _ _ _)))
            go_wp2_with fail
            · have hl : ltN dk[a]! dk[i]! = false := by
                have : (!ltN dk[a]! dk[i]!) = true := by assumption
                simpa using this
              go_roundw
              case rel => exact ⟨i + 1, by first | rfl | simp, by omega, by omega, HRJ.out.drew _, by rw [HEJ.out, scanUp_go (upE dk a) dk j2 i hlt (by show (!ltN _ _) = true; rw [hl]; rfl)]⟩
              case measure => simp only [intOf]; omega
            · have hl : ltN dk[a]! dk[i]! = true := by
                have : (!ltN dk[a]! dk[i]!) = false := by assumption
                simpa using this
              go_meet
              exact ⟨i, rfl, hi0, hiJ, by rw [HEJ.out, scanUp_stop (upE dk a) dk j2 i (by show (!ltN _ _) = false; rw [hl]; rfl)], fun _ => hl, HRJ.out.drew _⟩
          · have hlti : ¬ (i : Int) ≤ (j2 : Int) := by omega
            go_wp2_with fail
            go_big_quiet (fail)
            go_wp2_with fail
            go_meet
            exact ⟨i, rfl, hi0, hiJ, by rw [HEJ.out, scanUp_end _ dk j2 i hlt], fun h => absurd h hlt, HRJ.out.drew _⟩

      case rest =>
        clear hcw hfw HRW
        obtain ⟨i3, rfl, hi23, hi3, hsu, hil, hrw⟩ := hcut
        have HRW := Lib.hid hrw
        have HSU := Lib.hid hsu
        have HIL := Lib.hid hil
        have hcw := hrw.row.cells
        have hfw := hrw.row.frozen
        rw [HDK.out] at hcw
        clear hrw hsu hil
        go_upto_block 4 with (fail)
        go_cut [10] (fun s wc => ∃ j3 : Nat, s = .int .i64 j3 ∧ j3 ≤ j2 ∧ i3 ≤ j3 + 1 ∧ Sort.scanDown (dnE dk a) dk i3 j2 = j3 ∧ (i3 ≤ j3 → ltN dk[a]! dk[j3]! = false) ∧ RowW w g n cap dk wc)
        case first =>
          go_wp2_with fail
          go_loopw [10] (fun x wr2 => ∃ j : Nat, x = .int .i64 j ∧ j ≤ j2 ∧ i3 ≤ j + 1 ∧ RowW w g n cap dk wr2 ∧ Sort.scanDown (dnE dk a) dk i3 j2 = Sort.scanDown (dnE dk a) dk i3 j) (fun x _ => (intOf x).toNat)
          case atStart => exact ⟨j2, rfl, Nat.le_refl _, by omega, HRW.out, rfl⟩
          case round =>
            clear hcw hfw
            obtain ⟨j, rfl, hj0, hjI, hrw, heq⟩ := hrel
            have HRJ := Lib.hid hrw
            have HEJ := Lib.hid heq
            have hcw := hrw.row.cells
            have hfw := hrw.row.frozen
            rw [HDK.out] at hcw
            clear hrw heq
            by_cases hlt : i3 ≤ j
            · have hlti : (i3 : Int) ≤ (j : Int) := by omega
              have hjn : j < n := by omega
              obtain ⟨r, hr⟩ : ∃ r, j = r + 1 := ⟨j - 1, by omega⟩
              have hri : (j : Int) - 1 = (r : Int) := by omega
              have HR := Lib.hid hr
              clear hr
              go_wp2_with fail
              go_big_quiet (first | (go_at_call 198; refine Calls.quiet_of_same (less_any _ _ _)))
              go_wp2_with fail
              · have hl : ltN dk[a]! dk[j]! = true := by
                  assumption
                go_roundw
                case rel => exact ⟨r, rfl, by have := HR.out; omega, by have := HR.out; omega, HRJ.out.drew _, by
                  have h2 := HR.out
                  subst h2
                  rw [HEJ.out, scanDown_go (dnE dk a) dk i3 r hlt hl]⟩
                case measure => have := HR.out; simp only [intOf]; omega
              · have hl : ltN dk[a]! dk[j]! = false := by
                  assumption
                go_meet
                exact ⟨j, rfl, hj0, hjI, by
                  have h2 := HR.out
                  subst h2
                  rw [HEJ.out, scanDown_stop (dnE dk a) dk i3 r hl], fun _ => hl, HRJ.out.drew _⟩
            · have hlti : ¬ (i3 : Int) ≤ (j : Int) := by omega
              go_wp2_with fail
              go_big_quiet (fail)
              go_wp2_with fail
              go_meet
              exact ⟨j, rfl, hj0, hjI, by rw [HEJ.out, scanDown_end _ dk i3 j hlt], fun h => absurd h hlt, HRJ.out.drew _⟩

        case rest =>
          clear hcw hfw HRW
          obtain ⟨j3, rfl, hj32, hij3, hsd, hjl, hrw⟩ := hcut
          have HRW := Lib.hid hrw
          have HSD := Lib.hid hsd
          have hcw := hrw.row.cells
          have hfw := hrw.row.frozen
          rw [HDK.out] at hcw
          clear hrw hsd
          have haj3 : a ≤ j3 := by omega
          have hj3n : j3 < n := by omega
          by_cases hgt : j3 < i3
          · have hgti : (j3 : Int) < (i3 : Int) := by omega
            have HBR := Lib.hid (parteq_break a i2 j2 i3 j3 dk HSU.out HSD.out hgt)
            rw [HEQ.out] at HBR
            rw [HBR.out] at HP2
            clear hcw hfw
            go_wp2_with fail
            go_ret
            rw [HP2.out]
            exact HRW.out.done _

          · have hgti : ¬ (j3 : Int) < (i3 : Int) := by omega
            have hijn : i3 ≠ j3 := by
              rintro rfl
              have h1 := HIL.out (by omega)
              have h2 := hjl (Nat.le_refl _)
              rw [h1] at h2; cases h2
            have hijl : i3 < j3 := by omega
            have hi3n : i3 < n := by omega
            have HGO := Lib.hid (parteq_go a i2 j2 i3 j3 dk HSU.out HSD.out hgt)
            rw [HEQ.out] at HGO
            clear hjl hijn
            obtain ⟨j4, hj4⟩ : ∃ j4, j4 = j3 - 1 := ⟨_, rfl⟩
            have hj4i : (j3 : Int) - 1 = (j4 : Int) := by omega
            rw [← hj4] at HGO
            go_upto_region 8 with (fail)
            go_cut [] (fun wc => RowW w g n cap (Sort.swp dk i3 j3) wc)
            case first =>
              have HRS := Lib.hid (RowW.swp HRW.out i3 j3 (by rw [HDK.out]; exact hi3n) (by rw [HDK.out]; exact hj3n)).drew1
              have hxi : i3 < j3 := by omega
              go_region
              go_wp2_with fail
              go_meet
              exact HRS.out

            case rest =>
              have HRT := Lib.hid hcut
              clear hcut hcw hfw HRW
              go_wp2_with fail
              go_roundw
              case rel => exact ⟨i3 + 1, j4, Sort.swp dk i3 j3, by first | rfl | simp, by first | rfl | rw [hj4], by omega, by omega, by omega, by omega, by rw [swp_sz]; exact HDK.out, HRT.out, HGO.out.symm⟩
              case measure => simp only [intOf]; omega

end Go.Proofs.YtjcmphjjkeigjaaGreat

namespace Go.Proofs.YtjcmphjjkeigjaaGreat
open Go.RowKit
set_option linter.unusedVariables false
set_option linter.unusedSimpArgs false

theorem bitLen_two : ∀ (f x : Nat), 0 < x → 2 ^ Lib.bitLenAux f x ≤ 2 * x
  | 0, x, h => by simp [Lib.bitLenAux]; omega
  | f + 1, x, h => by
    unfold Lib.bitLenAux
    rw [if_neg (by omega)]
    by_cases h2 : 0 < x / 2
    · have := bitLen_two f (x / 2) h2
      rw [Nat.pow_add]; omega
    · have h1 : x / 2 = 0 := by omega
      have : Lib.bitLenAux f (x / 2) = 0 := by rw [h1]; cases f <;> simp [Lib.bitLenAux]
      rw [this]; omega
theorem bitLen_16 (x : Nat) (h : x < 65536) : Lib.bitLen x ≤ 16 := by
  by_cases h0 : 0 < x
  · have := bitLen_two 64 x h0
    refine Nat.le_of_not_lt fun hc => ?_
    have h17 : 2 ^ 17 ≤ 2 ^ Lib.bitLen x := Nat.pow_le_pow_right (by omega) (by omega)
    unfold Lib.bitLen at h17
    omega
  · have : x = 0 := by omega
    subst this; decide

set_option maxRecDepth 100000 in
theorem tab_size : (Lib.len8tab.size : Int) = 256 := by
  have : Lib.len8tab.size = 256 := by decide
  omega
theorem tab_get (y : Int) (h : y.toNat < Lib.len8tab.size) : ((Lib.len8tab[y.toNat]'h).toNat : Int) = Lib.len8 y := by
  unfold Lib.len8
  rw [getElem?_pos Lib.len8tab y.toNat h]
  rfl
theorem add_8 (b c : Nat) (hb : b ≤ 8) (hc : c = 8 + b) : RowKit.wrap64 (8 + RowKit.wrap64 (b : Int)) = (c : Int) := by unfold RowKit.wrap64; omega
theorem add_0 (b : Nat) (hb : b ≤ 8) : RowKit.wrap64 (RowKit.wrap64 (b : Int)) = (b : Int) := by unfold RowKit.wrap64; omega
set_option maxHeartbeats 4000000 in
set_option maxRecDepth 100000 in
theorem len64_any (x : Int) (w : World) (h0 : 0 ≤ x) (h1 : x ≤ 65535) : Calls Tryz.prog 202 #[.int .u64 x] w fun e w' => e = .returned (.int .i64 (Lib.bitLen x.toNat)) ∧ w' = w := by
  go_enter Tryz.func202, Tryz.ntmps202
  go_wp2
  all_goals first
    | (go_ret; refine ⟨congrArg Ending.returned (congrArg (Value.int IntKind.i64) ?_), rfl⟩; rw [tab_get (x / 256) _, Lib.len8_of (x / 256) (by omega) (by omega)]
       have e : (x / 256).toNat = x.toNat / 256 := by omega
       have l := Lib.bitLen_le8' (x / 256) (by omega) (by omega)
       have s := Lib.bitLen_shift8 x.toNat (by omega) (by omega)
       rw [e] at l ⊢
       exact add_8 _ _ l s)
    | (go_ret; refine ⟨congrArg Ending.returned (congrArg (Value.int IntKind.i64) ?_), rfl⟩; rw [tab_get x _, Lib.len8_of x (by omega) (by omega)]
       exact add_0 _ (Lib.bitLen_le8' x (by omega) (by omega)))
    | (exfalso; have := tab_size; omega)
theorem len_any (x : Int) (w : World) (h0 : 0 ≤ x) (h1 : x ≤ 65535) : Calls Tryz.prog 183 #[.int .u64 x] w fun e w' => e = .returned (.int .i64 (Lib.bitLen x.toNat)) ∧ w' = w := by
  go_enter Tryz.func183, Tryz.ntmps183
  go_wp2_with (go_at_call 202; refine (len64_any _ _ h0 h1).mono ?_; rintro e w1 ⟨rfl, rfl⟩)
  go_ret
  exact ⟨rfl, rfl⟩

theorem wrap_two (k : Nat) (hk : k ≤ 16) : IntKind.u64.wrap ((2 : Int) ^ k) = ((2 ^ k : Nat) : Int) := by
  have h : (2 : Nat) ^ k ≤ 2 ^ 16 := Nat.pow_le_pow_right (by decide) hk
  rw [IntKind.wrap_u64, show ((2 : Int) ^ k) = ((2 ^ k : Nat) : Int) by push_cast; rfl]
  generalize (2 : Nat) ^ k = p at h
  omega
/-- some power of two, no more than twice what is asked -/
theorem pow_any (n : Nat) (hn : 0 < n) (hm : n ≤ 65535) (w : World) : ∃ M : Nat, 1 ≤ M ∧ M ≤ 2 * n ∧ ∀ w : World, Calls Tryz.prog 207 #[.int .i64 n] w fun e w' => e = .returned (.int .u64 (M : Nat)) ∧ w' = w := by
  have h16 := bitLen_16 n (by omega)
  have h2 := bitLen_two 64 n hn
  obtain ⟨k, hk⟩ : ∃ k, k = Lib.bitLen n := ⟨_, rfl⟩
  have hk2 : 2 ^ k ≤ 2 * n := by rw [hk]; exact h2
  rw [← hk] at h16
  refine ⟨2 ^ k, Nat.two_pow_pos _, hk2, fun w => ?_⟩
  have hLen : ∀ w, Calls Tryz.prog 183 #[.int .u64 (n : Int)] w fun e w' => e = .returned (.int .i64 (k : Nat)) ∧ w' = w := fun w => by
    have h := len_any (n : Int) w (by omega) (by omega)
    rwa [Int.toNat_natCast, ← hk] at h
  have hp := wrap_two k h16
  clear hk h2 hk2
  go_enter Tryz.func207, Tryz.ntmps207
  go_wp2_with (first | (go_at_call 183; refine (hLen _).mono ?_; rintro e w' ⟨rfl, rfl⟩))
  go_ret
  exact ⟨rfl, rfl⟩

theorem box_set {w : World} {g : Nat} {v : Value} {t : TypeId} (h : w.heap[g]? = some (.cells #[v] t (0, 0))) (v' : Value) : ((w.setCell ⟨g, 0, none⟩ v').drew).heap[g]? = some (.cells #[v'] t (0, 0)) ∧ Only (fun k => k = g) w (w.setCell ⟨g, 0, none⟩ v').drew := by
  refine ⟨?_, (Only.setCell (S := fun k => k = g) _ _ _ rfl).trans (Only.drew _) fun _ _ e => e⟩
  show (w.setCell ⟨g, 0, none⟩ v').heap[g]? = _
  rw [heap_setCell_same w g 0 _ _ _ h]; rfl
/-- a number is drawn: whatever it is -/
theorem next_any (g X : Nat) (hX : X < 18446744073709551616) (w : World) (hc : w.heap[g]? = some (.cells #[.int .u64 X] 283 (0, 0))) :
    Calls Tryz.prog 208 #[.pointer (some ⟨g, 0, none⟩)] w fun e w' => ∃ Y : Nat, Y < 18446744073709551616 ∧ e = .returned (.int .u64 (Y : Nat)) ∧ w'.heap[g]? = some (.cells #[.int .u64 Y] 283 (0, 0)) ∧ Only (fun k => k = g) w w' := by
  obtain ⟨A, hA⟩ : ∃ A : Nat, A = X ^^^ (X * 8192 % 18446744073709551616) := ⟨_, rfl⟩
  obtain ⟨B, hB⟩ : ∃ B : Nat, B = A ^^^ (A / 128) := ⟨_, rfl⟩
  obtain ⟨C, hC⟩ : ∃ C : Nat, C = B ^^^ (B * 131072 % 18446744073709551616) := ⟨_, rfl⟩
  have lA : A < 18446744073709551616 := by rw [hA]; exact Nat.xor_lt_two_pow (n := 64) (by omega) (by omega)
  have lB : B < 18446744073709551616 := by rw [hB]; exact Nat.xor_lt_two_pow (n := 64) (by omega) (by omega)
  have lC : C < 18446744073709551616 := by rw [hC]; exact Nat.xor_lt_two_pow (n := 64) (by omega) (by omega)
  have e1 : bits .xor .u64 (X : Int) (IntKind.u64.wrap ((X : Int) * 8192)) = (A : Int) := by
    rw [IntKind.wrap_u64, show ((X : Int) * 8192 % 18446744073709551616) = ((X * 8192 % 18446744073709551616 : Nat) : Int) by omega, bits_xor_u64_nat _ _ hX (by omega), hA]
  have e2 : bits .xor .u64 (A : Int) ((A : Int) / 128) = (B : Int) := by
    rw [show ((A : Int) / 128) = ((A / 128 : Nat) : Int) by omega, bits_xor_u64_nat _ _ lA (by omega), hB]
  have e3 : bits .xor .u64 (B : Int) (IntKind.u64.wrap ((B : Int) * 131072)) = (C : Int) := by
    rw [IntKind.wrap_u64, show ((B : Int) * 131072 % 18446744073709551616) = ((B * 131072 % 18446744073709551616 : Nat) : Int) by omega, bits_xor_u64_nat _ _ lB (by omega), hC]
  have hcell : w.cell? ⟨g, 0, none⟩ = some (.int .u64 X) := by rw [cell_of_row w g 0 _ _ _ hc]; rfl
  have hfro : w.frozen? ⟨g, 0, none⟩ = false := frozen_of_row w g 0 _ _ hc
  obtain ⟨q1, q2⟩ := box_set hc (.int .u64 (A : Nat))
  have Q1 := Lib.hid q1
  have Q2 := Lib.hid q2
  have HL := Lib.hid lC
  clear hA hB hC hc q1 q2
  go_enter Tryz.func208, Tryz.ntmps208
  go_wp2_with fail
  go_region
  clear hcell hfro
  generalize World.drew _ = w1 at *
  have hcell : w1.cell? ⟨g, 0, none⟩ = some (.int .u64 A) := by rw [cell_of_row w1 g 0 _ _ _ Q1.out]; rfl
  have hfro : w1.frozen? ⟨g, 0, none⟩ = false := frozen_of_row w1 g 0 _ _ Q1.out
  obtain ⟨q1, q2⟩ := box_set Q1.out (.int .u64 (B : Nat))
  have R1 := Lib.hid q1
  have R2 := Lib.hid (Q2.out.trans q2 fun _ _ e => e)
  clear q1 q2 Q1 Q2
  go_wp2_with fail
  go_region
  clear hcell hfro
  generalize World.drew _ = w2 at *
  have hcell : w2.cell? ⟨g, 0, none⟩ = some (.int .u64 B) := by rw [cell_of_row w2 g 0 _ _ _ R1.out]; rfl
  have hfro : w2.frozen? ⟨g, 0, none⟩ = false := frozen_of_row w2 g 0 _ _ R1.out
  obtain ⟨q1, q2⟩ := box_set R1.out (.int .u64 (C : Nat))
  have Q1 := Lib.hid q1
  have Q2 := Lib.hid (R2.out.trans q2 fun _ _ e => e)
  clear q1 q2 R1 R2
  go_wp2_with fail
  go_region
  clear hcell hfro
  generalize World.drew _ = w3 at *
  have hcell : w3.cell? ⟨g, 0, none⟩ = some (.int .u64 C) := by rw [cell_of_row w3 g 0 _ _ _ Q1.out]; rfl
  go_wp2
  go_ret
  exact ⟨C, HL.out, rfl, Q1.out, Q2.out⟩

/-- a range turned round -/
theorem rev_go (i j : Nat) (d : Array Nat) (h : i < j) : Sort.reverseLoop i j d = Sort.reverseLoop (i + 1) (j - 1) (Sort.swp d i j) := by rw [Sort.reverseLoop, if_pos h]
theorem rev_end (i j : Nat) (d : Array Nat) (h : ¬ i < j) : Sort.reverseLoop i j d = d := by rw [Sort.reverseLoop, if_neg h]
set_option maxHeartbeats 4000000 in
set_option maxRecDepth 100000 in
theorem revrange_any (g n cap : Nat) (d : Array Nat) (a b : Nat) (w : World) (h : RowU w (.slice (some ⟨g, 0, none⟩) n cap) d) (hab : a < b) (hb : b ≤ n) (hn : n ≤ 1073741824) :
    Calls Tryz.prog 196 #[.slice (some ⟨g, 0, none⟩) n cap, .int .i64 a, .int .i64 b] w (SortTo (.slice (some ⟨g, 0, none⟩) n cap) g (.tuple #[]) (Sort.reverseRange d a b) w) := by
  obtain ⟨hsz, hnc, hcm⟩ := h.len
  unfold maxLen at hcm
  have HS := Lib.hid (RowW.start h)
  have HSZ := Lib.hid hsz
  clear h hsz
  obtain ⟨b1, hb1⟩ : ∃ b1, b1 = b - 1 := ⟨_, rfl⟩
  have hb1i : (b : Int) - 1 = (b1 : Int) := by omega
  have HB1 := Lib.hid hb1
  go_enter Tryz.func196, Tryz.ntmps196
  go_wp2
  go_loopw [6, 7] (fun x y wr => ∃ (i j : Nat) (dk : Array Nat), x = .int .i64 i ∧ y = .int .i64 j ∧ i ≤ b ∧ j < b ∧ dk.size = n ∧ RowW w g n cap dk wr ∧ Sort.reverseLoop i j dk = Sort.reverseRange d a b) (fun x y _ => (intOf y - intOf x).toNat)
  case atStart => exact ⟨a, b1, d, rfl, by first | rfl | rw [hb1], by omega, by omega, HSZ.out, HS.out, by rw [HB1.out]; rfl⟩
  case round =>
    obtain ⟨i, j, dk, rfl, rfl, hi, hj, hdk, hrw, heq⟩ := hrel
    have HRW := Lib.hid hrw
    have HEQ := Lib.hid heq
    have HDK := Lib.hid hdk
    have hcw := hrw.row.cells
    have hfw := hrw.row.frozen
    rw [hdk] at hcw
    clear hrw heq hdk HS
    by_cases hlt : i < j
    · have hlti : (i : Int) < (j : Int) := by omega
      have hin : i < n := by omega
      have hjn : j < n := by omega
      obtain ⟨j1, hj1⟩ : ∃ j1, j1 = j - 1 := ⟨_, rfl⟩
      have hj1i : (j : Int) - 1 = (j1 : Int) := by omega
      have HRS := Lib.hid (HRW.out.swp i j (by rw [HDK.out]; exact hin) (by rw [HDK.out]; exact hjn)).drew1
      have HES := Lib.hid ((rev_go i j dk hlt).symm.trans HEQ.out)
      rw [← hj1] at HES
      go_wp2_with fail
      go_region
      go_wp2_with fail
      go_roundw
      case rel => exact ⟨i + 1, j1, Sort.swp dk i j, by first | rfl | simp, by first | rfl | rw [hj1], by omega, by omega, by rw [swp_sz]; exact HDK.out, HRS.out, HES.out⟩
      case measure => simp only [intOf]; omega
    · have hlti : ¬ (i : Int) < (j : Int) := by omega
      go_wp2
      go_end0
      have := HEQ.out
      rw [rev_end i j dk hlt] at this
      rw [← this]
      exact HRW.out.done _

end Go.Proofs.YtjcmphjjkeigjaaGreat

namespace Go.Proofs.YtjcmphjjkeigjaaGreat
open Go.RowKit
set_option linter.unusedVariables false
set_option linter.unusedSimpArgs false

/-- a row and a counter beside it: between two steps -/
structure PivW (w : World) (g n cap : Nat) (d : Array Nat) (B : Nat) (k : Nat) (W : World) : Prop where
  row : RowU W (.slice (some ⟨g, 0, none⟩) n cap) d
  box : W.heap[B]? = some (.cells #[.int .i64 k] 3 (0, 0))
  only : Only (fun q => q = B) w W
theorem PivW.cells {w W : World} {g n cap B k : Nat} {d : Array Nat} (h : PivW w g n cap d B k W) : W.cell? ⟨B, 0, none⟩ = some (.int .i64 k) ∧ W.frozen? ⟨B, 0, none⟩ = false :=
  ⟨by rw [cell_of_row W B 0 _ _ _ h.box]; rfl, frozen_of_row W B 0 _ _ h.box⟩
theorem PivW.ne {w W : World} {g n cap B k : Nat} {d : Array Nat} (h : PivW w g n cap d B k W) : ∀ q, (Value.slice (some ⟨g, 0, none⟩) n cap).ownBlock = some q → ¬ q = B := Recs.ne_of h.row h.box (by decide)
theorem PivW.trans {w W W' : World} {g n cap B k k' : Nat} {d : Array Nat} (h : PivW w g n cap d B k W) (h' : PivW W g n cap d B k' W') : PivW w g n cap d B k' W' := ⟨h'.row, h'.box, h.only.trans h'.only fun _ _ e => e⟩
theorem PivW.self {w W : World} {g n cap B k : Nat} {d : Array Nat} (h : PivW w g n cap d B k W) : PivW W g n cap d B k W := ⟨h.row, h.box, Only.refl _ _⟩
theorem PivW.drew {w W : World} {g n cap B k : Nat} {d : Array Nat} (h : PivW w g n cap d B k W) (m : Nat) : PivW w g n cap d B k (W.drewN m) := ⟨Recs.keep h.row fun _ _ => rfl, h.box, h.only.trans (Only.drewN _ m) fun _ _ e => e⟩
theorem PivW.count {w W : World} {g n cap B k : Nat} {d : Array Nat} (h : PivW w g n cap d B k W) (k' : Nat) : PivW w g n cap d B k' (W.setCell ⟨B, 0, none⟩ (.int .i64 k')) :=
  ⟨Recs.only (S := fun q => q = B) h.row (Only.setCell _ _ _ rfl) h.ne, by rw [heap_setCell_same W B 0 _ _ _ h.box]; rfl, h.only.trans (Only.setCell (S := fun q => q = B) _ _ _ rfl) fun _ _ e => e⟩

set_option maxHeartbeats 4000000 in
set_option maxRecDepth 100000 in
theorem order2_any (g n cap : Nat) (d : Array Nat) (B k : Nat) (a b : Nat) (w : World) (h : PivW w g n cap d B k w) (ha : a < n) (hb : b < n) (hk : k ≤ 1000) (hn : n ≤ 1073741824) :
    Calls Tryz.prog 212 #[.slice (some ⟨g, 0, none⟩) n cap, .int .i64 a, .int .i64 b, .pointer (some ⟨B, 0, none⟩)] w fun e w' => ∃ x y k' : Nat, ((x = a ∧ y = b) ∨ (x = b ∧ y = a)) ∧ k' ≤ k + 1 ∧ e = .returned (.tuple #[.int .i64 x, .int .i64 y]) ∧ PivW w g n cap d B k' w' := by
  obtain ⟨hsz, hnc, hcm⟩ := h.row.len
  unfold maxLen at hcm
  have hcw := h.row.cells
  have hfw := h.row.frozen
  rw [hsz] at hcw
  have HS := Lib.hid h
  clear h hsz
  go_enter Tryz.func212, Tryz.ntmps212
  go_wp2_with fail
  go_big_quiet (first | (go_at_call 198; refine Calls.quiet_of_same (less_any _ _ _)))
  have HS2 := Lib.hid (HS.out.drew nq)
  obtain ⟨c1, c2⟩ := HS2.out.cells
  clear hcw hfw
  generalize w.drewN nq = w1 at *
  go_wp2_with fail
  · have HC := Lib.hid (HS2.out.count (k + 1))
    go_wp2
    go_ret2
    exact ⟨b, a, k + 1, .inr ⟨rfl, rfl⟩, by omega, rfl, HC.out⟩
  · go_wp2
    go_ret2
    exact ⟨a, b, k, .inl ⟨rfl, rfl⟩, by omega, rfl, HS2.out⟩

set_option maxHeartbeats 4000000 in
set_option maxRecDepth 100000 in
theorem median_any (g n cap : Nat) (d : Array Nat) (B k : Nat) (a b c : Nat) (w : World) (h : PivW w g n cap d B k w) (ha : a < n) (hb : b < n) (hc : c < n) (hk : k ≤ 900) (hn : n ≤ 1073741824) :
    Calls Tryz.prog 210 #[.slice (some ⟨g, 0, none⟩) n cap, .int .i64 a, .int .i64 b, .int .i64 c, .pointer (some ⟨B, 0, none⟩)] w fun e w' => ∃ x k' : Nat, (x = a ∨ x = b ∨ x = c) ∧ k' ≤ k + 3 ∧ e = .returned (.int .i64 x) ∧ PivW w g n cap d B k' w' := by
  have HS := Lib.hid h
  clear h
  have C1 := order2_any g n cap d B k a b w HS.out ha hb (by omega) hn
  go_enter Tryz.func210, Tryz.ntmps210
  go_wp2_with fail
  refine C1.mono ?_
  rintro e w1 ⟨x1, y1, k1, hx1, hk1, rfl, hs1⟩
  have hy1 : y1 < n := by omega
  have hx1n : x1 < n := by omega
  have C2 := order2_any g n cap d B k1 y1 c w1 hs1.self hy1 hc (by omega) hn
  have HS1 := Lib.hid hs1
  clear hs1 C1
  go_wp2_with fail
  refine C2.mono ?_
  rintro e w2 ⟨x2, y2, k2, hx2, hk2, rfl, hs2⟩
  have hx2n : x2 < n := by omega
  have C3 := order2_any g n cap d B k2 x1 x2 w2 hs2.self hx1n hx2n (by omega) hn
  have HS2 := Lib.hid (HS1.out.trans hs2)
  clear hs2 C2 HS1
  go_wp2_with fail
  refine C3.mono ?_
  rintro e w3 ⟨x3, y3, k3, hx3, hk3, rfl, hs3⟩
  go_wp2
  go_ret
  exact ⟨y3, k3, by omega, by omega, rfl, HS2.out.trans hs3⟩

set_option maxHeartbeats 4000000 in
set_option maxRecDepth 100000 in
theorem adjacent_any (g n cap : Nat) (d : Array Nat) (B k : Nat) (a : Nat) (w : World) (h : PivW w g n cap d B k w) (ha : 0 < a) (hb : a + 1 < n) (hk : k ≤ 900) (hn : n ≤ 1073741824) :
    Calls Tryz.prog 209 #[.slice (some ⟨g, 0, none⟩) n cap, .int .i64 a, .pointer (some ⟨B, 0, none⟩)] w fun e w' => ∃ x k' : Nat, (a ≤ x + 1 ∧ x ≤ a + 1) ∧ k' ≤ k + 3 ∧ e = .returned (.int .i64 x) ∧ PivW w g n cap d B k' w' := by
  obtain ⟨a0, ha0⟩ : ∃ a0, a0 = a - 1 := ⟨_, rfl⟩
  obtain ⟨a2, ha2⟩ : ∃ a2, a2 = a + 1 := ⟨_, rfl⟩
  have h1 : (a : Int) - 1 = (a0 : Int) := by omega
  have h2 : (a : Int) + 1 = (a2 : Int) := by omega
  have C1 := Lib.hid (median_any g n cap d B k a0 a a2 w h (by omega) (by omega) (by omega) hk hn)
  have HA0 := Lib.hid ha0
  have HA2 := Lib.hid ha2
  clear ha0 ha2 h
  go_enter Tryz.func209, Tryz.ntmps209
  go_wp2_with fail
  refine C1.out.mono ?_
  rintro e w1 ⟨x1, k1, hx1, hk1, rfl, hs1⟩
  go_wp2
  go_ret
  exact ⟨x1, k1, by have := HA0.out; have := HA2.out; omega, hk1, rfl, hs1⟩

/-- the pivot: some place, some hint -/
def PivTo (a b g n cap : Nat) (d : Array Nat) (w : World) (e : Ending) (w' : World) : Prop := ∃ p h : Nat, a ≤ p ∧ p < b ∧ h ≤ 2 ∧ e = .returned (.tuple #[.int .i64 p, .int .i64 h]) ∧ Below w.heap.size w w'

set_option maxHeartbeats 4000000 in
set_option maxRecDepth 100000 in
theorem pivot_any (g n cap : Nat) (d : Array Nat) (a b : Nat) (w : World) (h : RowU w (.slice (some ⟨g, 0, none⟩) n cap) d) (hab : a < b) (hb : b ≤ n) (hn : n ≤ 1073741824) :
    Calls Tryz.prog 195 #[.slice (some ⟨g, 0, none⟩) n cap, .int .i64 a, .int .i64 b] w (PivTo a b g n cap d w) := by
  obtain ⟨L, hL⟩ : ∃ L, L = b - a := ⟨_, rfl⟩
  have hLi : (b : Int) - (a : Int) = (L : Int) := by omega
  obtain ⟨q, hq⟩ : ∃ q, q = L / 4 := ⟨_, rfl⟩
  have hqi : Int.tdiv (L : Int) 4 = (q : Int) := by rw [Int.tdiv_eq_ediv_of_nonneg (by omega)]; omega
  obtain ⟨i, hi⟩ : ∃ i, i = a + q := ⟨_, rfl⟩
  obtain ⟨j, hj⟩ : ∃ j, j = a + q * 2 := ⟨_, rfl⟩
  obtain ⟨k, hk⟩ : ∃ k, k = a + q * 3 := ⟨_, rfl⟩
  have hii : (a : Int) + (q : Int) = (i : Int) := by omega
  have hji : (a : Int) + (q : Int) * 2 = (j : Int) := by omega
  have hki : (a : Int) + (q : Int) * 3 = (k : Int) := by omega
  have HS := Lib.hid (show PivW (w.alloc (.cells #[.int .i64 0] 3)) g n cap d w.heap.size 0 (w.alloc (.cells #[.int .i64 0] 3)) from ⟨Recs.below h ((Below.refl _ _).alloc (Nat.le_refl _) _), heap_alloc_new w _, Only.refl _ _⟩)
  have HL := Lib.hid hL
  have HQ := Lib.hid hq
  have HI := Lib.hid hi
  have HJ := Lib.hid hj
  have HK := Lib.hid hk
  have hjb : a ≤ j ∧ j < b := by omega
  clear h hL hq hi hj hk
  go_enter Tryz.func195, Tryz.ntmps195
  go_upto_if 32 with (fail)
  have HB0 := Lib.hid ((Below.refl w.heap.size w).alloc (Nat.le_refl _) (.cells #[.int .i64 0] 3))
  obtain ⟨B, hB⟩ : ∃ B, B = w.heap.size := ⟨_, rfl⟩
  rw [← hB] at HS ⊢
  have HBB := Lib.hid hB
  clear hB
  generalize World.alloc w _ = w0 at *
  go_cut [11] (fun s wc => ∃ p t : Nat, s = .int .i64 p ∧ a ≤ p ∧ p < b ∧ t ≤ 12 ∧ PivW w0 g n cap d B t wc)
  case first =>
    by_cases h8 : 8 ≤ L
    · have h8i : ¬ (L : Int) < 8 := by omega
      have hq2 : 2 ≤ q := by have := HQ.out; omega
      have hsum : a + q * 4 ≤ b := by have := HQ.out; have := HL.out; omega
      have hijk : a + 2 ≤ i ∧ i + 2 ≤ j ∧ j + 2 ≤ k ∧ k + 2 ≤ b := by have := HI.out; have := HJ.out; have := HK.out; omega
      by_cases h50 : 50 ≤ L
      · have h50i : ¬ (L : Int) < 50 := by omega
        have C1 := Lib.hid (adjacent_any g n cap d B 0 i w0 HS.out (by omega) (by omega) (by omega) hn)
        go_wp2_with fail
        refine C1.out.mono ?_
        rintro e w1 ⟨x1, k1, hx1, hk1, rfl, hs1⟩
        have C2 := Lib.hid (adjacent_any g n cap d B k1 j w1 hs1.self (by omega) (by omega) (by omega) hn)
        have HS1 := Lib.hid hs1
        clear hs1 C1
        go_wp2_with fail
        refine C2.out.mono ?_
        rintro e w2 ⟨x2, k2, hx2, hk2, rfl, hs2⟩
        have C3 := Lib.hid (adjacent_any g n cap d B k2 k w2 hs2.self (by omega) (by omega) (by omega) hn)
        have HS2 := Lib.hid (HS1.out.trans hs2)
        clear hs2 C2 HS1
        go_wp2_with fail
        refine C3.out.mono ?_
        rintro e w3 ⟨x3, k3, hx3, hk3, rfl, hs3⟩
        have C4 := Lib.hid (median_any g n cap d B k3 x1 x2 x3 w3 hs3.self (by omega) (by omega) (by omega) (by omega) hn)
        have HS3 := Lib.hid (HS2.out.trans hs3)
        clear hs3 C3 HS2
        go_wp2_with fail
        refine C4.out.mono ?_
        rintro e w4 ⟨x4, k4, hx4, hk4, rfl, hs4⟩
        go_wp2_with fail
        go_meet
        exact ⟨x4, k4, rfl, by omega, by omega, by omega, HS3.out.trans hs4⟩
      · have h50i : (L : Int) < 50 := by omega
        have C4 := Lib.hid (median_any g n cap d B 0 i j k w0 HS.out (by omega) (by omega) (by omega) (by omega) hn)
        go_wp2_with fail
        refine C4.out.mono ?_
        rintro e w4 ⟨x4, k4, hx4, hk4, rfl, hs4⟩
        go_wp2_with fail
        go_meet
        exact ⟨x4, k4, rfl, by omega, by omega, by omega, hs4⟩
    · have h8i : (L : Int) < 8 := by omega
      go_wp2_with fail
      go_meet
      exact ⟨j, 0, rfl, hjb.1, hjb.2, by omega, HS.out⟩
  case rest =>
    obtain ⟨p, t, rfl, hap, hpb, ht, hs⟩ := hcut
    obtain ⟨c1, c2⟩ := hs.cells
    have HBW := Lib.hid (show Below w.heap.size w wc from HB0.out.trans (hs.only.below (HB0.out.size) fun i hi e => by have := HBB.out; omega))
    clear hs HS HB0
    by_cases h0 : (t : Int) = 0
    · go_wp2
      go_ret2
      exact ⟨p, 1, hap, hpb, by omega, rfl, HBW.out⟩
    · by_cases h12 : (t : Int) = 12
      · go_wp2
        go_ret2
        exact ⟨p, 2, hap, hpb, by omega, rfl, HBW.out⟩
      · go_wp2
        go_ret2
        exact ⟨p, 0, hap, hpb, by omega, rfl, HBW.out⟩

end Go.Proofs.YtjcmphjjkeigjaaGreat

namespace Go.Proofs.YtjcmphjjkeigjaaGreat
open Go.RowKit
set_option linter.unusedVariables false
set_option linter.unusedSimpArgs false

/-- the row becomes some other one, its part from a to b permuted -/
def MixTo (v : Value) (g a b : Nat) (d : Array Nat) (w : World) (e : Ending) (w' : World) : Prop := ∃ d' : Array Nat, Sort.PermIn a b d d' ∧ SortTo v g (.tuple #[]) d' w e w'

structure BrkW (w : World) (g n cap : Nat) (d : Array Nat) (B : Nat) (W : World) : Prop where
  row : RowU W (.slice (some ⟨g, 0, none⟩) n cap) d
  box : ∃ X : Nat, X < 18446744073709551616 ∧ W.heap[B]? = some (.cells #[.int .u64 X] 283 (0, 0))
  only : Only (fun q => q = g ∨ q = B) w W
theorem BrkW.ne {w W : World} {g n cap B : Nat} {d : Array Nat} (h : BrkW w g n cap d B W) (hn : g ≠ B) : ∀ q, (Value.slice (some ⟨g, 0, none⟩) n cap).ownBlock = some q → ¬ q = B := fun q e => by
  simp [Value.ownBlock] at e; omega
theorem BrkW.swp {w W : World} {g n cap B : Nat} {d : Array Nat} (h : BrkW w g n cap d B W) (hn : g ≠ B) (i j : Nat) (hi : i < d.size) (hj : j < d.size) :
    BrkW w g n cap (Sort.swp d i j) B ((W.setCell ⟨g, i, none⟩ (.int .u64 (d[j]! : Nat))).setCell ⟨g, j, none⟩ (.int .u64 (d[i]! : Nat))).drew := by
  obtain ⟨X, hX, hb⟩ := h.box
  refine ⟨Recs.keep (h.row.swp i j hi hj) fun _ _ => rfl, ⟨X, hX, ?_⟩, ((h.only.trans (Only.setCell (S := fun q => q = g ∨ q = B) _ _ _ (.inl rfl)) fun _ _ e => e).trans (Only.setCell (S := fun q => q = g ∨ q = B) _ _ _ (.inl rfl)) fun _ _ e => e).trans (Only.drew _) fun _ _ e => e⟩
  show ((W.setCell ⟨g, i, none⟩ _).setCell ⟨g, j, none⟩ _).heap[B]? = _
  rw [Below.heap_setCell _ _ _ _ (by show B ≠ g; omega), Below.heap_setCell _ _ _ _ (by show B ≠ g; omega)]
  exact hb
theorem swp_mix (d : Array Nat) (a b i j : Nat) (h1 : a ≤ i) (h2 : i < b) (h3 : a ≤ j) (h4 : j < b) (hb : b ≤ d.size) : Sort.PermIn a b d (Sort.swp d i j) := Sort.swp_permIn d a b i j h1 h2 h3 h4 hb

set_option maxHeartbeats 4000000 in
set_option maxRecDepth 100000 in
theorem break_any (g n cap : Nat) (d : Array Nat) (a b : Nat) (w : World) (h : RowU w (.slice (some ⟨g, 0, none⟩) n cap) d) (hab : a + 8 ≤ b) (hb : b ≤ n) (hn : n ≤ 65535) :
    Calls Tryz.prog 194 #[.slice (some ⟨g, 0, none⟩) n cap, .int .i64 a, .int .i64 b] w (MixTo (.slice (some ⟨g, 0, none⟩) n cap) g a b d w) := by
  obtain ⟨hsz, hnc, hcm⟩ := h.len
  unfold maxLen at hcm
  have HSZ := Lib.hid hsz
  obtain ⟨L, hL⟩ : ∃ L, L = b - a := ⟨_, rfl⟩
  have hLi : (b : Int) - (a : Int) = (L : Int) := by omega
  have hL8 : ¬ (L : Int) < 8 := by omega
  obtain ⟨q, hq⟩ : ∃ q, q = L / 4 * 2 := ⟨_, rfl⟩
  have hqi : Int.tdiv (L : Int) 4 * 2 = (q : Int) := by rw [Int.tdiv_eq_ediv_of_nonneg (by omega)]; omega
  obtain ⟨i, hi⟩ : ∃ i, i = a + q := ⟨_, rfl⟩
  have hii : (a : Int) + (q : Int) = (i : Int) := by omega
  obtain ⟨i0, hi0⟩ : ∃ i0, i0 + 1 = i := ⟨a + q - 1, by omega⟩
  have hi0i : (i : Int) - 1 = (i0 : Int) := by omega
  obtain ⟨M, hM1, hM2, hNP⟩ := pow_any L (by omega) (by omega) w
  have hgl : g < w.heap.size := by have := Recs.lt h g (by simp [Value.ownBlock]); exact this
  have hinb : a ≤ i0 ∧ i0 + 2 < b := by omega
  have hLu : IntKind.u64.wrap (L : Int) = (L : Int) := by rw [IntKind.wrap_u64]; omega
  have HS := Lib.hid (show BrkW (w.alloc (.cells #[.int .u64 L] 283)) g n cap d w.heap.size (w.alloc (.cells #[.int .u64 L] 283)) from ⟨Recs.below h ((Below.refl _ _).alloc (Nat.le_refl _) _), ⟨L, by omega, heap_alloc_new w _⟩, Only.refl _ _⟩)
  have HL := Lib.hid hL
  have HI := Lib.hid (And.intro hi (And.intro hq hi0))
  have HNP := Lib.hid hNP
  have hLab : a + L = b := by omega
  clear h hL hq hi hi0 hNP hsz
  go_enter Tryz.func194, Tryz.ntmps194
  go_wp2_with fail
  refine (HNP.out _).mono ?_
  rintro e w1 ⟨rfl, rfl⟩
  have HB0 := Lib.hid ((Below.refl w.heap.size w).alloc (Nat.le_refl _) (.cells #[.int .u64 L] 283))
  obtain ⟨B, hB⟩ : ∃ B, B = w.heap.size := ⟨_, rfl⟩
  rw [← hB] at HS ⊢
  have HBB := Lib.hid hB
  have hgb : g ≠ B := by omega
  clear hB HNP
  generalize World.alloc w _ = w0 at *
  go_wp2_with fail
  go_loopw [9] (fun x wr => ∃ (t : Nat) (dk : Array Nat), x = .int .i64 ((i0 + t : Nat) : Int) ∧ t ≤ 3 ∧ dk.size = n ∧ Sort.PermIn a b d dk ∧ BrkW w0 g n cap dk B wr) (fun x _ => i0 + 4 - (intOf x).toNat)
  case atStart => exact ⟨0, d, by first | rfl | (congr 1; have h1 := HI.out.1; have h2 := HI.out.2.1; have h3 := HI.out.2.2; omega), by omega, HSZ.out, Sort.permIn_refl d a b, HS.out⟩
  case round =>
    clear HS
    obtain ⟨t, dk, rfl, ht, hdk, hpr, hs⟩ := hrel
    have HDK := Lib.hid hdk
    have HPR := Lib.hid hpr
    have HSK := Lib.hid hs
    obtain ⟨z, hz⟩ : ∃ z, i0 + t = z := ⟨_, rfl⟩
    rw [hz]
    have hi1 : (i : Int) + 1 = ((i0 + 2 : Nat) : Int) := by have := HI.out.2.2; omega
    clear hdk hpr
    by_cases ht3 : t < 3
    · have hzi : (z : Int) ≤ (a : Int) + (L : Int) / 4 * 2 + 1 := by have h1 := HI.out.1; have h2 := HI.out.2.1; have h3 := HI.out.2.2; omega
      have hzn : z < n := by omega
      have hzab : a ≤ z ∧ z < b := by omega
      obtain ⟨X, hX, hbx⟩ := hs.box
      have CN := Lib.hid (next_any B X hX wr hbx)
      clear hs hbx
      go_wp2_with fail
      refine CN.out.mono ?_
      rintro e w1 ⟨Y, hY, rfl, hbx, ho⟩
      have hs1 : BrkW w0 g n cap dk B w1 := ⟨Recs.only HSK.out.row ho (HSK.out.ne hgb), ⟨Y, hY, hbx⟩, HSK.out.only.trans ho fun _ _ e => .inr e⟩
      have hs1b := hs1
      have hcw := hs1.row.cells
      have hfw := hs1.row.frozen
      rw [HDK.out] at hcw
      clear hbx ho HSK CN
      obtain ⟨O, hO⟩ : ∃ O : Nat, O = Y &&& (M - 1) := ⟨_, rfl⟩
      have lO : O ≤ M - 1 := by rw [hO]; exact Nat.and_le_right
      have eAnd : bits .and .u64 (Y : Int) ((M : Int) - 1) = (O : Int) := by
        rw [show ((M : Int) - 1) = ((M - 1 : Nat) : Int) by omega, bits_and_u64_nat _ _ hY (by omega), hO]
      clear hO
      have HS1 := Lib.hid hs1
      have HZ := Lib.hid hz
      by_cases hLO : L ≤ O
      · have hLOi : (L : Int) ≤ (O : Int) := by omega
        obtain ⟨O2, hO2⟩ : ∃ O2, O2 = O - L := ⟨_, rfl⟩
        have hO2i : (O : Int) - (L : Int) = (O2 : Int) := by omega
        have hO2M : O2 < L := by omega
        clear hz hO2
        obtain ⟨y, hy⟩ : ∃ y, y = a + O2 := ⟨_, rfl⟩
        have hyi : (a : Int) + (O2 : Int) = (y : Int) := by omega
        have hyb : a ≤ y ∧ y < b := by omega
        have hyn : y < n := by omega
        have HMX := Lib.hid (Sort.permIn_trans d dk (Sort.swp dk z y) a b HPR.out (swp_mix dk a b z y (by omega) (by omega) hyb.1 hyb.2 (by rw [HDK.out]; exact hb)))
        have HRS := Lib.hid (hs1.swp hgb z y (by rw [HDK.out]; exact hzn) (by rw [HDK.out]; exact hyn))
        clear hy hs1 hs1b
        by_cases hzy : z = y
        · subst hzy
          go_wp2_with fail
          go_region
          go_wp2_with fail
          go_roundw
          case rel => exact ⟨t + 1, Sort.swp dk z z, by first | rfl | (congr 1; have := HZ.out; omega), by omega, by rw [swp_sz]; exact HDK.out, HMX.out, HRS.out⟩
          case measure => have := HZ.out; simp only [intOf]; omega
        · have hzy2 : z < y ∨ y < z := by omega
          rcases hzy2 with hzy2 | hzy2
          · go_wp2_with fail
            go_region
            go_wp2_with fail
            go_roundw
            case rel => exact ⟨t + 1, Sort.swp dk z y, by first | rfl | (congr 1; have := HZ.out; omega), by omega, by rw [swp_sz]; exact HDK.out, HMX.out, HRS.out⟩
            case measure => have := HZ.out; simp only [intOf]; omega
          · go_wp2_with fail
            go_region
            go_wp2_with fail
            go_roundw
            case rel => exact ⟨t + 1, Sort.swp dk z y, by first | rfl | (congr 1; have := HZ.out; omega), by omega, by rw [swp_sz]; exact HDK.out, HMX.out, HRS.out⟩
            case measure => have := HZ.out; simp only [intOf]; omega
      · have hLOi : (O : Int) < (L : Int) := by omega
        clear hz
        obtain ⟨y, hy⟩ : ∃ y, y = a + O := ⟨_, rfl⟩
        have hyi : (a : Int) + (O : Int) = (y : Int) := by omega
        have hyb : a ≤ y ∧ y < b := by omega
        have hyn : y < n := by omega
        have HMX := Lib.hid (Sort.permIn_trans d dk (Sort.swp dk z y) a b HPR.out (swp_mix dk a b z y (by omega) (by omega) hyb.1 hyb.2 (by rw [HDK.out]; exact hb)))
        have HRS := Lib.hid (hs1.swp hgb z y (by rw [HDK.out]; exact hzn) (by rw [HDK.out]; exact hyn))
        clear hy hs1 hs1b
        by_cases hzy : z = y
        · subst hzy
          go_wp2_with fail
          go_region
          go_wp2_with fail
          go_roundw
          case rel => exact ⟨t + 1, Sort.swp dk z z, by first | rfl | (congr 1; have := HZ.out; omega), by omega, by rw [swp_sz]; exact HDK.out, HMX.out, HRS.out⟩
          case measure => have := HZ.out; simp only [intOf]; omega
        · have hzy2 : z < y ∨ y < z := by omega
          rcases hzy2 with hzy2 | hzy2
          · go_wp2_with fail
            go_region
            go_wp2_with fail
            go_roundw
            case rel => exact ⟨t + 1, Sort.swp dk z y, by first | rfl | (congr 1; have := HZ.out; omega), by omega, by rw [swp_sz]; exact HDK.out, HMX.out, HRS.out⟩
            case measure => have := HZ.out; simp only [intOf]; omega
          · go_wp2_with fail
            go_region
            go_wp2_with fail
            go_roundw
            case rel => exact ⟨t + 1, Sort.swp dk z y, by first | rfl | (congr 1; have := HZ.out; omega), by omega, by rw [swp_sz]; exact HDK.out, HMX.out, HRS.out⟩
            case measure => have := HZ.out; simp only [intOf]; omega
    · have hzi : ¬ (z : Int) ≤ (a : Int) + (L : Int) / 4 * 2 + 1 := by have h1 := HI.out.1; have h2 := HI.out.2.1; have h3 := HI.out.2.2; omega
      go_wp2
      go_end0
      exact ⟨dk, HPR.out, rfl, HSK.out.row, by
        have h1 := HSK.out.only
        have h2 := HB0.out
        refine ⟨h1.os.trans h2.os, h1.tape.trans h2.tape, h1.output.trans h2.output, Nat.le_trans h2.size h1.size, fun k hk hne => ?_⟩
        rw [h1.block k (Nat.lt_of_lt_of_le hk h2.size) (by have := HBB.out; intro e; rcases e with e | e; exact hne e; omega), h2.block k hk]⟩

end Go.Proofs.YtjcmphjjkeigjaaGreat

namespace Go.Proofs.YtjcmphjjkeigjaaGreat
open Go.RowKit
set_option linter.unusedVariables false
set_option linter.unusedSimpArgs false

/-- the part from a to b of the row is sorted, and permuted -/
def SrtTo (v : Value) (g a b : Nat) (d : Array Nat) (w : World) (e : Ending) (w' : World) : Prop := ∃ d' : Array Nat, Sort.PermIn a b d d' ∧ Sort.SortedIn ltN a b d' ∧ SortTo v g (.tuple #[]) d' w e w'

structure PdqW (w : World) (g n cap a b : Nat) (d : Array Nat) (a' b' : Nat) (dk : Array Nat) (W : World) : Prop where
  size : dk.size = n
  row : RowW w g n cap dk W
  low : Sort.Below ltN a' b' dk
  rest : ∀ d2, Sort.PermIn a' b' dk d2 → Sort.SortedIn ltN a' b' d2 → Sort.PermIn a b d d2 ∧ Sort.SortedIn ltN a b d2
theorem PdqW.done {w W W' : World} {g n cap a b : Nat} {d : Array Nat} {a' b' : Nat} {dk d2 : Array Nat} {e : Ending} (h : PdqW w g n cap a b d a' b' dk W) (h1 : Sort.PermIn a' b' dk d2) (h2 : Sort.SortedIn ltN a' b' d2) (k : SortTo (.slice (some ⟨g, 0, none⟩) n cap) g (.tuple #[]) d2 W e W') : SrtTo (.slice (some ⟨g, 0, none⟩) n cap) g a b d w (.returned (.tuple #[])) W' :=
  ⟨d2, (h.rest d2 h1 h2).1, (h.rest d2 h1 h2).2, rfl, k.2.1, h.row.only.trans k.2.2 fun _ _ e => e⟩
theorem PdqW.mix {w W W' : World} {g n cap a b : Nat} {d : Array Nat} {a' b' : Nat} {dk d2 : Array Nat} {e : Ending} {r : Value} (h : PdqW w g n cap a b d a' b' dk W) (hb : b' ≤ n) (h1 : Sort.PermIn a' b' dk d2) (k : SortTo (.slice (some ⟨g, 0, none⟩) n cap) g r d2 W e W') : PdqW w g n cap a b d a' b' d2 W' :=
  ⟨h1.1.trans h.size, ⟨k.2.1, h.row.only.trans k.2.2 fun _ _ e => e⟩, h.low.perm (by rw [h.size]; exact hb) h1, fun d3 p q => h.rest d3 (Sort.permIn_trans _ _ _ _ _ h1 p) q⟩
theorem PdqW.quiet {w W W' : World} {g n cap a b : Nat} {d : Array Nat} {a' b' : Nat} {dk : Array Nat} (h : PdqW w g n cap a b d a' b' dk W) (hb : Below W.heap.size W W') : PdqW w g n cap a b d a' b' dk W' :=
  ⟨h.size, ⟨Recs.below h.row.row hb, h.row.only.trans (Only.of_below (S := fun k => k = g) hb) fun _ _ e => e⟩, h.low, h.rest⟩

set_option maxHeartbeats 8000000 in
set_option maxRecDepth 100000 in
theorem pdq_any (g n cap : Nat) (hn : n ≤ 65535) : ∀ (m : Nat) (d : Array Nat) (a b lim : Nat) (w : World), b - a ≤ m → RowU w (.slice (some ⟨g, 0, none⟩) n cap) d → a ≤ b → b ≤ n → lim ≤ 64 → Sort.Below ltN a b d →
    Calls Tryz.prog 182 #[.slice (some ⟨g, 0, none⟩) n cap, .int .i64 a, .int .i64 b, .int .i64 lim] w (SrtTo (.slice (some ⟨g, 0, none⟩) n cap) g a b d w) := by
  intro m
  induction m using Nat.strongRecOn with
  | _ m ih =>
  intro d a b lim w hm h hab hb hlim hlow
  obtain ⟨hsz, hnc, hcm⟩ := h.len
  unfold maxLen at hcm
  have HS := Lib.hid (show PdqW w g n cap a b d a b d w from ⟨hsz, RowW.start h, hlow, fun d2 p q => ⟨p, q⟩⟩)
  have HIH := Lib.hid ih
  clear ih h hsz hlow
  go_enter Tryz.func182, Tryz.ntmps182
  go_wp2
  go_loopw [1, 2, 3, 8, 9] (fun s1 s2 s3 s8 s9 wr => ∃ (a1 b1 l1 : Nat) (wb wp : Bool) (dk : Array Nat), s1 = .int .i64 a1 ∧ s2 = .int .i64 b1 ∧ s3 = .int .i64 l1 ∧ s8 = .bool wb ∧ s9 = .bool wp ∧ a ≤ a1 ∧ a1 ≤ b1 ∧ b1 ≤ b ∧ l1 ≤ 64 ∧ PdqW w g n cap a b d a1 b1 dk wr) (fun s1 s2 _ _ _ _ => (intOf s2 - intOf s1).toNat)
  case atStart => exact ⟨a, b, lim, true, true, d, rfl, rfl, rfl, rfl, rfl, Nat.le_refl _, hab, Nat.le_refl _, hlim, HS.out⟩
  case round =>
    clear HS
    obtain ⟨a1, b1, l1, wb, wp, dk, rfl, rfl, rfl, rfl, rfl, haa, hab1, hbb, hl1, hs⟩ := hrel
    have HS := Lib.hid hs
    clear hs
    obtain ⟨L, hL⟩ : ∃ L, L = b1 - a1 := ⟨_, rfl⟩
    have hLi : (b1 : Int) - (a1 : Int) = (L : Int) := by omega
    have HL := Lib.hid hL
    clear hL
    by_cases h12 : L ≤ 12
    · have h12i : (L : Int) ≤ 12 := by omega
      have C1 := Lib.hid (insertion_any g n cap dk a1 b1 wr HS.out.row.row hab1 (by omega) (by omega))
      go_wp2_with fail
      refine C1.out.mono ?_
      rintro e w1 hs1
      obtain ⟨rfl, _⟩ := id hs1
      go_wp2_with fail
      (try simp only [Exit.inBlock, Exit.then]); refine bodyPost_ret (results_none rfl _ _ _) rfl ?_
      have hi := Sort.insertionSort_holds swo_ltN dk a1 b1 hab1 (by rw [HS.out.size]; omega)
      exact HS.out.done hi.1 hi.2 hs1
    · have h12i : ¬ (L : Int) ≤ 12 := by omega
      have hlt : a1 + 12 < b1 := by have := HL.out; omega
      by_cases h0 : l1 = 0
      · have h0i : (l1 : Int) = 0 := by omega
        have C1 := Lib.hid (heap_any g n cap dk a1 b1 wr HS.out.row.row (by omega) (by omega) (by omega))
        subst h0
        go_wp2_with fail
        refine C1.out.mono ?_
        rintro e w1 hs1
        obtain ⟨rfl, _⟩ := id hs1
        go_wp2_with fail
        (try simp only [Exit.inBlock, Exit.then]); refine bodyPost_ret (results_none rfl _ _ _) rfl ?_
        have hi := Sort.heapSort_holds swo_ltN dk a1 b1 hab1 (by rw [HS.out.size]; omega)
        exact HS.out.done hi.1 hi.2 hs1
      · have h0i : ¬ (l1 : Int) = 0 := by omega
        go_upto_if 35 with (fail)
        go_cut [3] (fun s3 wc => ∃ (l2 : Nat) (d1 : Array Nat), s3 = .int .i64 l2 ∧ l2 ≤ 64 ∧ PdqW w g n cap a b d a1 b1 d1 wc)
        case first =>
          cases wb with
          | false =>
            have C1 := Lib.hid (break_any g n cap dk a1 b1 wr HS.out.row.row (by omega) (by omega) hn)
            obtain ⟨l2, hl2⟩ : ∃ l2, l2 = l1 - 1 := ⟨_, rfl⟩
            have hl2i : (l1 : Int) - 1 = (l2 : Int) := by omega
            have hl2b : l2 ≤ 64 := by omega
            clear hl2
            go_wp2_with fail
            refine C1.out.mono ?_
            rintro e w1 ⟨d1, hp1, hs1⟩
            obtain ⟨rfl, _⟩ := id hs1
            go_wp2_with fail
            go_meet
            exact ⟨l2, d1, rfl, hl2b, HS.out.mix (by omega) hp1 hs1⟩
          | true =>
            go_wp2_with fail
            go_meet
            exact ⟨l1, dk, rfl, hl1, HS.out⟩
        case rest =>
          clear HS
          obtain ⟨l2, d1, rfl, hl2, hs⟩ := hcut
          have HS := Lib.hid hs
          clear hs h0i h0
          have C1 := Lib.hid (pivot_any g n cap d1 a1 b1 wc HS.out.row.row (by omega) (by omega) (by omega))
          go_wp2_with fail
          refine C1.out.mono ?_
          rintro e w1 ⟨p, hh, hap, hpb, hh2, rfl, hbw⟩
          have HS1 := Lib.hid (HS.out.quiet hbw)
          clear HS C1 hbw
          go_upto_if 50 with (fail)
          go_cut [11, 12] (fun s11 s12 wc => ∃ (p2 h2 : Nat) (d2 : Array Nat), s11 = .int .i64 p2 ∧ s12 = .int .i64 h2 ∧ a1 ≤ p2 ∧ p2 < b1 ∧ PdqW w g n cap a b d a1 b1 d2 wc)
          case first =>
            by_cases hh3 : (hh : Int) = 2
            · have C2 := Lib.hid (revrange_any g n cap d1 a1 b1 w1 HS1.out.row.row (by omega) (by omega) (by omega))
              obtain ⟨p2, hp2⟩ : ∃ p2, p2 = (b1 - 1) - (p - a1) := ⟨_, rfl⟩
              have hp2i : (b1 : Int) - 1 - ((p : Int) - (a1 : Int)) = (p2 : Int) := by omega
              have hp2b : a1 ≤ p2 ∧ p2 < b1 := by omega
              clear hp2
              go_wp2_with fail
              refine C2.out.mono ?_
              rintro e w2 hs2
              obtain ⟨rfl, _⟩ := id hs2
              go_wp2_with fail
              go_meet
              exact ⟨p2, 1, _, rfl, rfl, hp2b.1, hp2b.2, HS1.out.mix (by omega) (Sort.reverseRange_holds d1 a1 b1 hab1 (by rw [HS1.out.size]; omega)) hs2⟩
            · go_wp2_with fail
              go_meet
              exact ⟨p, hh, d1, rfl, rfl, hap, hpb, HS1.out⟩
          case rest =>
            clear HS1
            obtain ⟨p2, h2, d2, rfl, rfl, hap2, hpb2, hs⟩ := hcut
            have HS := Lib.hid hs
            clear hs hh2 hap hpb
            have hpt := Sort.partialInsertionSort_holds swo_ltN d2 a1 b1 (by omega) (by rw [HS.out.size]; omega) HS.out.low
            obtain ⟨R, hR⟩ : ∃ R, R = Sort.partialInsertionSort ltN d2 a1 b1 := ⟨_, rfl⟩
            have C1 := Lib.hid (partial_any g n cap d2 a1 b1 wc HS.out.row.row (by omega) (by omega) (by omega))
            rw [← hR] at C1 hpt
            obtain ⟨rarr, rb⟩ := R
            have HPT := Lib.hid hpt
            clear hR hpt
            go_upto_region 15 with (fail)
            go_cut [68] (fun s w' => (∃ c : Bool, s = .bool c) ∧ w' = wc)
            case first =>
              cases wb with
              | false =>
                go_wp2_with fail
                go_meet
                exact ⟨⟨_, rfl⟩, rfl⟩
              | true =>
                cases wp with
                | false =>
                  go_wp2_with fail
                  go_meet
                  exact ⟨⟨_, rfl⟩, rfl⟩
                | true =>
                  go_wp2_with fail
                  go_meet
                  exact ⟨⟨_, rfl⟩, rfl⟩
            obtain ⟨⟨c, rfl⟩, hwc⟩ := hcut
            replace hwc := hwc.symm
            subst hwc
            go_upto_if 68 with (fail)
            go_cut [] (fun wc => ∃ d3 : Array Nat, PdqW w g n cap a b d a1 b1 d3 wc)
            case first =>
              cases c with
              | false =>
                go_wp2_with fail
                go_meet
                exact ⟨d2, HS.out⟩
              | true =>
                go_wp2_with fail
                refine C1.out.mono ?_
                rintro e w2 hs2
                obtain ⟨rfl, _⟩ := id hs2
                cases rb with
                | true =>
                  go_wp2_with fail
                  (try simp only [Exit.inBlock, Exit.then]); refine bodyPost_ret (results_none rfl _ _ _) rfl ?_
                  exact HS.out.done HPT.out.1 (HPT.out.2 (by trivial)) ⟨rfl, hs2.2⟩
                | false =>
                  go_wp2_with fail
                  go_meet
                  exact ⟨rarr, HS.out.mix (by omega) HPT.out.1 hs2⟩
            case rest =>
              clear HS C1 HPT
              obtain ⟨d3, hs⟩ := hcut
              have HS := Lib.hid hs
              have hcw := hs.row.row.cells
              have hfw := hs.row.row.frozen
              rw [hs.size] at hcw
              clear hs
              have hp2n : p2 < n := by omega
              obtain ⟨bb, hbb2⟩ : ∃ bb : Bool, bb = (decide (0 < a1) && !ltN d3[a1 - 1]! d3[p2]!) := ⟨_, rfl⟩
              go_upto_region 17 with (fail)
              go_cut [87] (fun s wc => s = .bool bb ∧ PdqW w g n cap a b d a1 b1 d3 wc)
              case first =>
                by_cases ha0 : 0 < a1
                · have ha0i : (0 : Int) < (a1 : Int) := by omega
                  obtain ⟨q, hq⟩ : ∃ q, q = a1 - 1 := ⟨_, rfl⟩
                  have hqi : (a1 : Int) - 1 = (q : Int) := by omega
                  have hqn : q < n := by omega
                  have HBV := Lib.hid (show bb = !ltN d3[q]! d3[p2]! by rw [hbb2, decide_eq_true ha0, Bool.true_and, hq])
                  clear hq hbb2
                  go_big_quiet (first | (go_at_call 198; refine Calls.quiet_of_same (less_any _ _ _)))
                  go_wp2_with fail
                  go_meet
                  exact ⟨by rw [HBV.out], HS.out.quiet (below_drewN (Below.refl _ _) _)⟩
                · have ha0i : ¬ (0 : Int) < (a1 : Int) := by omega
                  have HBV := Lib.hid (show bb = false by rw [hbb2, decide_eq_false ha0, Bool.false_and])
                  clear hbb2
                  go_big_quiet (fail)
                  go_wp2_with fail
                  go_meet
                  exact ⟨by rw [HBV.out], HS.out.quiet (below_drewN (Below.refl _ _) _)⟩
              case rest =>
                clear HS hcw hfw
                obtain ⟨rfl, hs⟩ := hcut
                have HS := Lib.hid hs
                clear hs
                have HBB := Lib.hid hbb2
                clear hbb2
                cases bb with
                | true =>
                  have hcond := HBB.out.symm
                  simp only [Bool.and_eq_true, decide_eq_true_eq, Bool.not_eq_true'] at hcond
                  obtain ⟨mid, d4, hx⟩ : ∃ mid d4, Sort.partitionEqual ltN d3 a1 b1 p2 = (mid, d4) := ⟨_, _, rfl⟩
                  have hr := Sort.round_eq swo_ltN (Sort.partitionEqual_holds ltN) hcond.1 hap2 hpb2 (by rw [HS.out.size]; omega) HS.out.low hcond.2 hx
                  have C1 := Lib.hid (parteq_any g n cap d3 a1 b1 p2 wc HS.out.row.row hap2 hpb2 (by omega) (by omega))
                  rw [hx] at C1
                  obtain ⟨r1, r2, r3, r4, r5⟩ := hr
                  have HR3 := Lib.hid r3
                  have HR4 := Lib.hid r4
                  have HR5 := Lib.hid r5
                  clear hcond hx r3 r4 r5
                  go_wp2_with fail
                  refine C1.out.mono ?_
                  rintro e w2 hs2
                  obtain ⟨rfl, _⟩ := id hs2
                  go_wp2_with fail
                  go_roundw
                  case rel => exact ⟨mid, b1, l2, wb, wp, d4, rfl, rfl, rfl, rfl, rfl, by omega, r2, hbb, hl2, HR3.out.trans HS.out.size, ⟨hs2.2.1, HS.out.row.only.trans hs2.2.2 fun _ _ e => e⟩, HR4.out, fun dd p q => by
                    obtain ⟨u1, u2⟩ := HR5.out dd p q
                    exact HS.out.rest dd u1 u2⟩
                  case measure => simp only [intOf]; omega
                | false =>
                  obtain ⟨mid, ap, d4, hx⟩ : ∃ mid ap d4, Sort.partition ltN d3 a1 b1 p2 = (mid, ap, d4) := ⟨_, _, _, rfl⟩
                  have hr := Sort.round_part swo_ltN (Sort.partition_holds ltN) hap2 hpb2 (by rw [HS.out.size]; omega) HS.out.low hx
                  have C1 := Lib.hid (partition_any g n cap d3 a1 b1 p2 wc HS.out.row.row hap2 hpb2 (by omega) (by omega))
                  rw [hx] at C1
                  obtain ⟨r1, r2, r3, r4, r5, r6, r7⟩ := hr
                  have HR3 := Lib.hid r3
                  have HR4 := Lib.hid r4
                  have HR5 := Lib.hid r5
                  have HR6 := Lib.hid r6
                  have HR7 := Lib.hid r7
                  obtain ⟨le, hle⟩ : ∃ le, le = mid - a1 := ⟨_, rfl⟩
                  obtain ⟨ri, hri⟩ : ∃ ri, ri = b1 - mid := ⟨_, rfl⟩
                  have hlei : (mid : Int) - (a1 : Int) = (le : Int) := by omega
                  have hrii : (b1 : Int) - (mid : Int) = (ri : Int) := by omega
                  have HLE := Lib.hid hle
                  have HRI := Lib.hid hri
                  obtain ⟨th, hth⟩ : ∃ th, (L : Int) / 8 = th := ⟨_, rfl⟩
                  have HTH := Lib.hid hth
                  clear hx r3 r4 r5 r6 r7 hle hri hth
                  go_wp2_with fail
                  refine C1.out.mono ?_
                  rintro e w2 hs2
                  obtain ⟨rfl, _⟩ := id hs2
                  by_cases hll : le < ri
                  · have hlli : (le : Int) < (ri : Int) := by omega
                    have CI := Lib.hid (HIH.out (le) (by have := HLE.out; omega) d4 a1 mid l2 w2 (by have := HLE.out; omega) hs2.2.1 r1 (by omega) hl2 HR4.out)
                    go_wp2_with fail
                    refine CI.out.mono ?_
                    rintro e w3 ⟨d5, u1, u2, rfl, u3, u4⟩
                    obtain ⟨v1, v2⟩ := HR6.out d5 u1 u2
                    have HV1 := Lib.hid v1
                    have HV2 := Lib.hid v2
                    have HU := Lib.hid (show d5.size = n from u1.1.trans (HR3.out.trans HS.out.size))
                    clear v1 v2 u1 u2
                    go_wp2_with fail
                    go_roundw
                    case rel => exact ⟨mid + 1, b1, l2, _, ap, d5, by first | rfl | simp, rfl, rfl, rfl, rfl, by omega, by omega, hbb, hl2, HU.out, ⟨u3, (HS.out.row.only.trans hs2.2.2 fun _ _ e => e).trans u4 fun _ _ e => e⟩, HV1.out, fun dd p q => by
                      obtain ⟨x1, x2⟩ := HV2.out dd p q
                      exact HS.out.rest dd x1 x2⟩
                    case measure => simp only [intOf]; omega
                  · have hlli : ¬ (le : Int) < (ri : Int) := by omega
                    obtain ⟨m1, hm1⟩ : ∃ m1, m1 = mid + 1 := ⟨_, rfl⟩
                    have hm1i : (mid : Int) + 1 = (m1 : Int) := by omega
                    have CI := Lib.hid (HIH.out (b1 - m1) (by omega) d4 m1 b1 l2 w2 (by omega) hs2.2.1 (by omega) (by omega) hl2 (by rw [hm1]; exact HR5.out))
                    have HM1 := Lib.hid hm1
                    clear hm1
                    go_wp2_with fail
                    refine CI.out.mono ?_
                    rintro e w3 ⟨d5, u1, u2, rfl, u3, u4⟩
                    rw [HM1.out] at u1 u2
                    obtain ⟨v1, v2⟩ := HR7.out d5 u1 u2
                    have HV1 := Lib.hid v1
                    have HV2 := Lib.hid v2
                    have HU := Lib.hid (show d5.size = n from u1.1.trans (HR3.out.trans HS.out.size))
                    clear v1 v2 u1 u2
                    go_wp2_with fail
                    go_roundw
                    case rel => exact ⟨a1, mid, l2, _, ap, d5, rfl, rfl, rfl, rfl, rfl, haa, r1, by omega, hl2, HU.out, ⟨u3, (HS.out.row.only.trans hs2.2.2 fun _ _ e => e).trans u4 fun _ _ e => e⟩, HV1.out, fun dd p q => by
                      obtain ⟨x1, x2⟩ := HV2.out dd p q
                      exact HS.out.rest dd x1 x2⟩
                    case measure => simp only [intOf]; omega

end Go.Proofs.YtjcmphjjkeigjaaGreat

namespace Go.Proofs.YtjcmphjjkeigjaaGreat
open Go.RowKit
set_option linter.unusedVariables false
set_option linter.unusedSimpArgs false

/-- the row is sorted -/
def SortedTo (v : Value) (g : Nat) (l : List Nat) (w : World) (e : Ending) (w' : World) : Prop := ∃ l' : List Nat, l'.Perm l ∧ l'.Pairwise (· ≤ ·) ∧ e = .returned (.tuple #[]) ∧ Recs numC w' 36 1 v l' ∧ Only (fun k => k = g) w w'

theorem perm_whole (d d' : Array Nat) (h : Sort.PermIn 0 d.size d d') : d'.toList.Perm d.toList := by
  have h1 := h.1
  have := h.2.2
  rw [show d'.extract 0 d.size = d' by rw [← h1]; simp, show d.extract 0 d.size = d by simp] at this
  exact this
theorem sorted_whole (d : Array Nat) (n : Nat) (hn : d.size = n) (h : Sort.SortedIn ltN 0 n d) : d.toList.Pairwise (· ≤ ·) := by
  rw [List.pairwise_iff_getElem]
  intro i j hi hj hij
  have := h i j (Nat.zero_le _) hij (by simpa [hn] using hj)
  rw [getElem!_pos d j (by simpa using hj), getElem!_pos d i (by simpa using hi)] at this
  simp only [ltN, decide_eq_false_iff_not, Nat.not_lt] at this
  simpa using this

set_option maxHeartbeats 4000000 in
theorem insertion_nil (w : World) : Calls Tryz.prog 192 #[.slice none 0 0, .int .i64 0, .int .i64 0] w fun e w' => e = .returned (.tuple #[]) ∧ w' = w := by
  go_enter Tryz.func192, Tryz.ntmps192
  go_wp2
  go_loopw [6] (fun x wr => x = .int .i64 1 ∧ wr = w) (fun _ _ => 0)
  case atStart => exact ⟨rfl, rfl⟩
  case round =>
    obtain ⟨rfl, rfl⟩ := hrel
    go_wp2
    go_end0
    exact ⟨rfl, rfl⟩
set_option maxHeartbeats 4000000 in
theorem pdq_nil (w : World) : Calls Tryz.prog 182 #[.slice none 0 0, .int .i64 0, .int .i64 0, .int .i64 0] w fun e w' => e = .returned (.tuple #[]) ∧ w' = w := by
  go_enter Tryz.func182, Tryz.ntmps182
  go_wp2
  go_loopw [1, 2, 3] (fun x y z wr => x = .int .i64 0 ∧ y = .int .i64 0 ∧ z = .int .i64 0 ∧ wr = w) (fun _ _ _ _ => 0)
  case atStart => exact ⟨rfl, rfl, rfl, rfl⟩
  case round =>
    obtain ⟨rfl, rfl, rfl, rfl⟩ := hrel
    go_wp2_with fail
    refine (insertion_nil _).mono ?_
    rintro e w1 ⟨rfl, rfl⟩
    go_wp2_with fail
    (try simp only [Exit.inBlock, Exit.then]); refine bodyPost_ret (results_none rfl _ _ _) rfl ?_
    exact ⟨rfl, rfl⟩
set_option maxHeartbeats 4000000 in
theorem sort_nil (w : World) : Calls Tryz.prog 154 #[.slice none 0 0] w fun e w' => e = .returned (.tuple #[]) ∧ w' = w := by
  have hl := len_any 0 w (by omega) (by omega)
  have h0 : Lib.bitLen (Int.toNat 0) = 0 := by decide
  rw [h0] at hl
  go_enter Tryz.func154, Tryz.ntmps154
  go_wp2_with fail
  refine hl.mono ?_
  rintro e w1 ⟨rfl, rfl⟩
  go_wp2_with fail
  refine (pdq_nil _).mono ?_
  rintro e w2 ⟨rfl, rfl⟩
  go_wp2
  go_end0
  exact ⟨rfl, rfl⟩
set_option maxHeartbeats 4000000 in
theorem sort_any (g n cap : Nat) (l : List Nat) (w : World) (h : Recs numC w 36 1 (.slice (some ⟨g, 0, none⟩) n cap) l) (hn : n ≤ 65535) :
    Calls Tryz.prog 154 #[.slice (some ⟨g, 0, none⟩) n cap] w (SortedTo (.slice (some ⟨g, 0, none⟩) n cap) g l w) := by
  have hr : RowU w (.slice (some ⟨g, 0, none⟩) n cap) l.toArray := by simpa [RowU] using h
  obtain ⟨hsz, hnc, hcm⟩ := hr.len
  have hb16 := bitLen_16 n (by omega)
  have hl := Lib.hid (len_any n w (by omega) (by omega))
  rw [Int.toNat_natCast] at hl
  obtain ⟨k, hk⟩ : ∃ k, k = Lib.bitLen n := ⟨_, rfl⟩
  rw [← hk] at hl hb16
  have CP := Lib.hid (pdq_any g n cap hn n l.toArray 0 n k w (by omega) hr (Nat.zero_le _) (Nat.le_refl _) (by omega) (Or.inl rfl))
  have HSZ := Lib.hid hsz
  have hu : IntKind.u64.wrap (n : Int) = (n : Int) := by rw [IntKind.wrap_u64]; omega
  clear h hr hk hsz
  unfold maxLen at hcm
  go_enter Tryz.func154, Tryz.ntmps154
  go_wp2_with fail
  refine hl.out.mono ?_
  rintro e w1 ⟨rfl, rfl⟩
  go_wp2_with fail
  refine CP.out.mono ?_
  rintro e w2 ⟨d', hp, hs, rfl, hr2, ho⟩
  go_wp2_with fail
  go_end0
  refine ⟨d'.toList, ?_, sorted_whole d' n (hp.1.trans HSZ.out) hs, rfl, hr2, ho⟩
  have h1 := perm_whole l.toArray d' (by rw [HSZ.out]; exact hp)
  simpa using h1

end Go.Proofs.YtjcmphjjkeigjaaGreat

namespace Go.Proofs.YtjcmphjjkeigjaaGreat
open Go.RowKit
set_option linter.unusedVariables false
set_option linter.unusedSimpArgs false

def rawE : Value → Option (DataW Value × List MemPlace) := fun v => some (.held v, [])
def mentL (L : List (Nat × Value)) : List (Lit × DataW Value) := L.map fun p => (Lit.int .u64 (p.1 : Int), DataW.held p.2)
def mentD (L : List (Nat × Value)) : DataW Value := .map (mentL L)
def mfindV (L : List (Nat × Value)) (k : Nat) : Option (Nat × Value) := L.find? fun p => p.1 == k
def mhasV (L : List (Nat × Value)) (k : Nat) : Bool := L.any fun p => p.1 == k
def mputV (L : List (Nat × Value)) (k : Nat) (v : Value) : List (Nat × Value) := L.filter (fun p => decide (p.1 < k)) ++ (k, v) :: L.filter fun p => decide (k < p.1)
def mdelV (L : List (Nat × Value)) (k : Nat) : List (Nat × Value) := L.filter fun p => !(p.1 == k)

theorem same_u64 (a k : Nat) : (Lit.int .u64 (a : Int)).sameKey (Lit.int .u64 (k : Int)) = (a == k) := by
  simp only [Lit.sameKey, true_and, Int.ofNat_inj]
  cases h : a == k <;> simp_all
theorem before_u64 (a k : Nat) : (Lit.int .u64 (a : Int)).before (Lit.int .u64 (k : Int)) = decide (a < k) := by
  simp [Lit.before]
theorem has_ent (L : List (Nat × Value)) (k : Nat) : Maps.has (mentD L) (.int .u64 k) = mhasV L k := by
  rw [mentD, Maps.has_eq, mentL, List.any_map]
  unfold mhasV
  congr 1
  funext p
  exact same_u64 p.1 k
theorem size_ent (L : List (Nat × Value)) : Maps.size (mentD L) = L.length := by simp [mentD, mentL, Maps.size_eq]
theorem at_ent (L : List (Nat × Value)) (k : Nat) (zd : DataW Value) : (mentD L).atKey (.int .u64 k) zd = match mfindV L k with
    | some p => .held p.2
    | none => zd := by
  unfold mentD DataW.atKey mentL mfindV
  dsimp only
  rw [List.find?_map]
  have : ((fun p : Lit × DataW Value => p.1.sameKey (.int .u64 (k : Int))) ∘ fun p : Nat × Value => (Lit.int .u64 (p.1 : Int), DataW.held p.2)) = fun p => p.1 == k := by
    funext p; exact same_u64 p.1 k
  rw [this]
  cases L.find? (fun p => p.1 == k) <;> rfl
theorem del_ent (L : List (Nat × Value)) (k : Nat) : (mentD L).del (.int .u64 k) = mentD (mdelV L k) := by
  unfold mentD DataW.del mentL mdelV
  dsimp only
  rw [List.filter_map]
  congr 3
  funext p
  show (!(Lit.int .u64 (p.1 : Int)).sameKey (.int .u64 (k : Int))) = _
  rw [same_u64]
theorem insert_ent (k : Nat) (v : Value) : ∀ L : List (Nat × Value), L.Pairwise (fun a b => a.1 < b.1) → (∀ p ∈ L, p.1 ≠ k) → DataW.insert (Lit.int .u64 (k : Int), DataW.held v) (mentL L) = mentL (mputV L k v)
  | [], _, _ => rfl
  | q :: L, h, hk => by
    obtain ⟨h1, h2⟩ := List.pairwise_cons.1 h
    have hq := hk q (by simp)
    show (if (Lit.int .u64 (k : Int)).before (Lit.int .u64 (q.1 : Int)) then _ else _) = _
    rw [before_u64]
    by_cases hlt : k < q.1
    · rw [if_pos (by simpa using hlt)]
      have e1 : (q :: L).filter (fun p => decide (p.1 < k)) = [] := by
        rw [List.filter_eq_nil_iff]
        intro p hp
        rcases List.mem_cons.1 hp with rfl | hp
        · simp; omega
        · have := h1 p hp; simp; omega
      have e2 : (q :: L).filter (fun p => decide (k < p.1)) = q :: L := by
        rw [List.filter_eq_self]
        intro p hp
        rcases List.mem_cons.1 hp with rfl | hp
        · simpa using hlt
        · have := h1 p hp; simp; omega
      unfold mputV
      rw [e1, e2]; rfl
    · rw [if_neg (by simpa using hlt)]
      have ih := insert_ent k v L h2 (fun p hp => hk p (by simp [hp]))
      have e1 : mputV (q :: L) k v = q :: mputV L k v := by
        unfold mputV
        rw [List.filter_cons_of_pos (by simp; omega), List.filter_cons_of_neg (by simp; omega)]; rfl
      rw [e1]
      show _ :: DataW.insert _ (mentL L) = _ :: mentL (mputV L k v)
      rw [ih]
theorem mdelV_asc {L : List (Nat × Value)} (h : L.Pairwise fun a b => a.1 < b.1) (k : Nat) : (mdelV L k).Pairwise fun a b => a.1 < b.1 := h.filter _
theorem mputV_del (L : List (Nat × Value)) (k : Nat) (v : Value) : mputV (mdelV L k) k v = mputV L k v := by
  unfold mputV mdelV
  rw [List.filter_filter, List.filter_filter]
  congr 1
  · congr 1; funext p; by_cases h : p.1 = k <;> simp [h]
  · congr 2; funext p; by_cases h : p.1 = k <;> simp [h]
theorem put_ent (L : List (Nat × Value)) (k : Nat) (v : Value) (h : L.Pairwise fun a b => a.1 < b.1) : (mentD L).put (.int .u64 k) (.held v) = mentD (mputV L k v) := by
  have e : ((mentL L).filter fun p => !p.1.sameKey (.int .u64 (k : Int))) = mentL (mdelV L k) := by
    have := del_ent L k
    unfold mentD DataW.del at this
    simpa using this
  unfold mentD DataW.put
  dsimp only
  rw [e, insert_ent k v _ (mdelV_asc h k) (fun p hp => by simp [mdelV] at hp; exact hp.2), mputV_del]
theorem mputV_asc {L : List (Nat × Value)} (h : L.Pairwise fun a b => a.1 < b.1) (k : Nat) (v : Value) : (mputV L k v).Pairwise fun a b => a.1 < b.1 := by
  unfold mputV
  rw [List.pairwise_append]
  refine ⟨h.filter _, List.pairwise_cons.2 ⟨fun p hp => by simp at hp; exact hp.2, h.filter _⟩, fun a ha b hb => ?_⟩
  simp at ha
  rcases List.mem_cons.1 hb with rfl | hb
  · exact ha.2
  · simp at hb; omega

/-- block b is a map that has just these -/
structure MapAt (w : World) (b : Nat) (L : List (Nat × Value)) : Prop where
  own : w.ownsMap Tryz.prog 36 rawE b L.length (mentD L)
  asc : L.Pairwise fun a b => a.1 < b.1
  key : ∀ p ∈ L, p.1 < 18446744073709551616

theorem wf_u64 (k : Nat) (h : k < 18446744073709551616) : (Lit.int .u64 (k : Int)).wf = true := by
  simp [Lit.wf, IntKind.min, IntKind.max, IntKind.signed, IntKind.bits]; omega
theorem keyU (k : Nat) (h : k < 18446744073709551616) : keyOf Tryz.prog 36 (.int .u64 k) = some (.int .u64 k) := Maps.keyOf_int_mk Tryz.underlying36 (wf_u64 k h)
theorem lawU : Maps.Keyed Tryz.prog 36 := Maps.int_keyed Tryz.underlying36

section
variable {w w' : World} {b n : Nat} {L : List (Nat × Value)} {t e : TypeId}
theorem tight (h : w.ownsMap Tryz.prog 36 rawE b n (mentD L)) : w.ownsMap Tryz.prog 36 rawE b L.length (mentD L) := by
  obtain ⟨es, clock, hb, F, hs, hD⟩ := h
  refine ⟨es, clock, hb, F, ?_, hD⟩
  have := congrArg Maps.size hD
  rw [size_ent, Maps.size_eq, length_sorted] at this
  simp at this; omega
theorem MapAt.lt (h : MapAt w b L) : b < w.heap.size := h.own.lt
theorem MapAt.keep (h : MapAt w b L) (hk : w'.heap[b]? = w.heap[b]?) : MapAt w' b L := by
  obtain ⟨es, clock, hb, r⟩ := h.own
  exact ⟨⟨es, clock, hk.trans hb, r⟩, h.asc, h.key⟩
theorem MapAt.below (h : MapAt w b L) (hb : Below w.heap.size w w') : MapAt w' b L := h.keep (hb.block b h.lt)
theorem MapAt.made (w : World) : MapAt (w.alloc (.map #[] 0)) w.heap.size [] := ⟨World.ownsMap_made w _ _ _, List.Pairwise.nil, by simp⟩
theorem MapAt.ne_cells (h : MapAt w b L) {g : Nat} {cs : Array Value} {ty : TypeId} {fr : Nat × Nat} (hg : w.heap[g]? = some (.cells cs ty fr)) : g ≠ b := by
  rintro rfl
  obtain ⟨es, clock, hb, _⟩ := h.own
  rw [hg] at hb; cases hb
theorem MapAt.len_run (h : MapAt w b L) (ht : Tryz.prog.underlying t = some (.map 36 e)) (ty : TypeId) : (Builtin.len_ #[t] ty #[.map (some b)]).run Tryz.prog w = .ok (.int .i64 L.length) w := by
  have := h.own.len ht ty
  rwa [size_ent] at this
/-- 'v, ok := m[k]' -/
theorem MapAt.look_ok (h : MapAt w b L) (ht : Tryz.prog.underlying t = some (.map 36 e)) {z : Value} (hz : (zeroValue e).run Tryz.prog w = .ok z w) (k : Nat) (hk : k < 18446744073709551616) :
    (Instr.lookup t (.map (some b)) (.int .u64 k) true).run Tryz.prog w = .ok (.tuple #[match mfindV L k with
      | some p => p.2
      | none => z, .bool (mhasV L k)]) w := by
  obtain ⟨v, ps, hrun, hv⟩ := h.own.look_ok lawU ht hz (zd := .held z) (zp := []) rfl (keyU k hk)
  rw [has_ent] at hrun
  rw [hrun]
  rw [at_ent] at hv
  have : v = match mfindV L k with
      | some p => p.2
      | none => z := by
    unfold rawE at hv
    simp only [Option.some.injEq, Prod.mk.injEq] at hv
    have h1 := hv.1
    split at h1 <;> rename_i hf <;> cases h1 <;> rfl
  rw [this]
/-- 'm[k]' -/
theorem MapAt.look (h : MapAt w b L) (ht : Tryz.prog.underlying t = some (.map 36 e)) {z : Value} (hz : (zeroValue e).run Tryz.prog w = .ok z w) (k : Nat) (hk : k < 18446744073709551616) :
    (Instr.lookup t (.map (some b)) (.int .u64 k) false).run Tryz.prog w = .ok (match mfindV L k with
      | some p => p.2
      | none => z) w := by
  obtain ⟨v, ps, hrun, hv⟩ := h.own.lookup lawU ht hz (zd := .held z) (zp := []) rfl (keyU k hk)
  rw [hrun]
  rw [at_ent] at hv
  have : v = match mfindV L k with
      | some p => p.2
      | none => z := by
    unfold rawE at hv
    simp only [Option.some.injEq, Prod.mk.injEq] at hv
    have h1 := hv.1
    split at h1 <;> rename_i hf <;> cases h1 <;> rfl
  rw [this]
/-- 'm[k] = v' -/
theorem MapAt.put (h : MapAt w b L) (ht : Tryz.prog.underlying t = some (.map 36 e)) (hn : L.length < 1000000) (k : Nat) (hk : k < 18446744073709551616) (v : Value) :
    ∃ w', (Instr.mapUpdate t (.map (some b)) (.int .u64 k) v).run Tryz.prog w = .ok () w' ∧ MapAt w' b (mputV L k v) ∧ Only (fun q => q = b) w w' := by
  obtain ⟨w', hrun, ho, hg⟩ := h.own.update lawU ht (by unfold maxLen; omega) (keyU k hk) (val := v) (d := .held v) (ps := []) rfl
  rw [put_ent L k v h.asc] at ho
  refine ⟨w', hrun, ⟨tight ho, mputV_asc h.asc k v, fun p hp => ?_⟩, Only.of_grown hg fun q e => by cases e; rfl⟩
  unfold mputV at hp
  rcases List.mem_append.1 hp with hp | hp
  · exact h.key p ((List.mem_filter.1 hp).1)
  · rcases List.mem_cons.1 hp with rfl | hp
    · exact hk
    · exact h.key p ((List.mem_filter.1 hp).1)
/-- 'delete(m, k)' -/
theorem MapAt.drop (h : MapAt w b L) (ht : Tryz.prog.underlying t = some (.map 36 e)) (k : Nat) (hk : k < 18446744073709551616) (ty : TypeId) :
    ∃ w', (Builtin.delete_ #[t, 36] ty #[.map (some b), .int .u64 k]).run Tryz.prog w = .ok (.tuple #[]) w' ∧ MapAt w' b (mdelV L k) ∧ Only (fun q => q = b) w w' := by
  obtain ⟨w', hrun, ho, hg⟩ := h.own.drop lawU ht (keyU k hk) ty
  rw [del_ent] at ho
  exact ⟨w', hrun, ⟨tight ho, mdelV_asc h.asc k, fun p hp => h.key p ((List.mem_filter.1 hp).1)⟩, Only.of_grown hg.grown fun q e => by cases e; rfl⟩
end

end Go.Proofs.YtjcmphjjkeigjaaGreat

namespace Go.Proofs.YtjcmphjjkeigjaaGreat
open Go.RowKit
set_option linter.unusedVariables false
set_option linter.unusedSimpArgs false
set_option maxRecDepth 100000
attribute [local go_sem] Oper.semAt_some

/-- what a round keeps: what lay below n₀, maps and walks -/
def KpM (n₀ : Nat) (W W' : World) : Prop := Below n₀ W W' ∧ KeepsWalks W W'
theorem kpm_t {n₀ : Nat} {A B C : World} (h : KpM n₀ A B) (k : KpM n₀ B C) : KpM n₀ A C := ⟨h.1.trans k.1, h.2.trans k.2⟩
theorem kpm_b {n₀ : Nat} {w : World} (hn : n₀ ≤ w.heap.size) (W : World) (l : Nat) (o o' : Obj) (hl : w.heap.size ≤ l) (h : W.heap[l]? = some o) (h1 : o.isCells = false) (h2 : o.isWalk = false) : KpM n₀ W (W.putObj l o') :=
  ⟨belowK_b (w := w) hn W l o o' hl h h1 h2, walksK_b (w := w) W l o o' hl h h1 h2⟩

/-- the keys that have come, while some are left -/
structure Come (L : List (Nat × Value)) (left : Lit → Bool) (ss : List Nat) : Prop where
  nodup : ss.Nodup
  mem : ∀ x : Nat, x ∈ ss ↔ (mhasV L x = true ∧ left (.int .u64 x) = false)
theorem Come.start (L : List (Nat × Value)) : Come L (Maps.has (mentD L)) [] := ⟨List.nodup_nil, fun x => by rw [has_ent]; cases mhasV L x <;> simp⟩
theorem Come.step {L : List (Nat × Value)} {left : Lit → Bool} {ss : List Nat} (h : Come L left ss) {x : Nat} {y : DataW Value} (hlk : left (.int .u64 x) = true) (hat : ∀ zd, (mentD L).atKey (.int .u64 x) zd = y) : Come L (fun z => left z && !z.sameKey (.int .u64 x)) (ss ++ [x]) := by
  have hhas : mhasV L x = true := by rw [← has_ent]; exact Maps.has_true_of_atKey hat
  have hnew : x ∉ ss := fun hx => by have := ((h.mem x).1 hx).2; rw [hlk] at this; cases this
  refine ⟨List.nodup_append.2 ⟨h.nodup, by simp, fun a ha b hb => by simp at hb; subst hb; exact fun e => hnew (e ▸ ha)⟩, fun y => ?_⟩
  rw [same_u64]
  by_cases hy : y = x
  · subst hy; simp [hhas]
  · simp [h.mem y, hy]
theorem Come.perm {L : List (Nat × Value)} {left : Lit → Bool} {ss : List Nat} (h : Come L left ss) (ha : L.Pairwise fun a b => a.1 < b.1) (hl : ∀ kl, left kl = false) : ss.Perm (L.map (·.1)) := by
  refine (List.perm_ext_iff_of_nodup h.nodup (List.pairwise_map.2 (ha.imp fun hab e => by omega))).2 fun x => ?_
  rw [h.mem x, hl]
  simp only [mhasV, List.any_eq_true, beq_iff_eq, and_true, List.mem_map]
theorem keyU_inv {key : Value} {kl : Lit} (h : keyOf Tryz.prog 36 key = some kl) : ∃ x : Nat, key = .int .u64 x ∧ kl = .int .u64 x := by
  have hk := Tryz.underlying36
  cases key <;> simp [keyOf, hk, mapKey] at h
  rename_i q a
  obtain ⟨⟨rfl, hw⟩, rfl⟩ := h
  simp [Lit.wf, IntKind.min, IntKind.max, IntKind.signed, IntKind.bits] at hw
  exact ⟨a.toNat, by rw [Int.toNat_of_nonneg hw.1], by rw [Int.toNat_of_nonneg hw.1]⟩

set_option maxHeartbeats 2000000 in
/-- the keys, one by one, in some order: for every loop body that keeps what lay below n₀, maps and walks -/
theorem keys1_in (n' : Nat) (hn : 1 ≤ n') (l Bm b n₀ : Nat) (L : List (Nat × Value)) (J Jx : List Nat → World → Prop)
    (hY : ∀ pre (x : Nat) W, J pre W → pre.length < L.length → YieldAt Fence.wide (n' - 1) Tryz.prog l #[.int .u64 (x : Int)] W fun e W' =>
      (e = .returned (.bool true) ∧ J (pre ++ [x]) W' ∧ KpM n₀ W W') ∨ (e = .returned (.bool false) ∧ Jx (pre ++ [x]) W'))
    (W : World) (hJ : AbidesFrom W.heap.size J) (hm : W.cell? ⟨Bm, 0, none⟩ = some (.map (some b))) (hown : MapAt W b L) (h0 : J [] W) :
    CallsIn Fence.wide n' Tryz.prog 155 #[.func (.yield l) #[] #[], .pointer (some ⟨Bm, 0, none⟩)] W fun e W' => (∃ v, e = .returned v) ∧
      ((∃ ys : List Nat, ys.Perm (L.map (·.1)) ∧ J ys W') ∨ (∃ pre : List Nat, True ∧ Jx pre W')) := by
  have HY := Lib.hid hY
  have HJ := Lib.hid hJ
  have HA := Lib.hid hown.asc
  have hown1 := hown.own
  have HS := Lib.hid (size_ent L)
  clear hY hJ hown
  have f34 : Fence.wide.fn 155 := trivial
  refine callsIn_of_wp Tryz.func155 rfl f34 ?_ rfl
  simp only [Tryz.ntmps155, List.size_toArray, List.length_cons, List.length_nil, Nat.reduceAdd, Nat.reduceSub, Array.replicate_succ, Array.replicate_zero, List.push_toArray, List.append_toArray, List.nil_append, List.cons_append]
  gi_wp2_with (first
    | (gi_at_range; refine wpListIn_range_own _ rfl _ 99 rfl 36 126 lawU Tryz.underlying99 _ b L.length _ rfl hown1 ?_; intro w0 hrg0 hg0 hs0)
    | gi_in)
  go_frame
  gi_loopw [3] (fun _ wr => ∃ (left : Lit → Bool) (cnt : Nat) (ss : List Nat), wr.ranges Tryz.prog 36 rawE b W.heap.size L.length (mentD L) left cnt ∧ ss.length + cnt ≤ L.length ∧ Come L left ss ∧ J ss wr)
    (fun _ wr => wr.rangeLeft b W.heap.size)
  case atStart =>
    exact ⟨_, _, [], hrg0, by rw [HS.out]; simp, Come.start L, HJ.out [] W w0 none h0 hg0 (fun r e => by cases e)⟩
  case round =>
    obtain ⟨left, cnt, ss, hrg, hcs, hC, hJs⟩ := hrel
    gi_wp2_with (first
      | (gi_at_next; refine wpListIn_next_ranges _ rfl _ rfl 36 lawU rawE (fun x : Nat => .int .u64 (x : Int)) id (fun key kl hk => by obtain ⟨x, hx, _⟩ := keyU_inv hk; exact ⟨x, hx⟩) (fun v _ _ => ⟨v, rfl⟩) b W.heap.size L.length _ _ _ rfl hrg ?_ ?_)
      | gi_in)
    · intro hc0 hl0
      gi_wp2
      go_end0
      exact ⟨⟨_, rfl⟩, .inl ⟨ss, hC.perm HA.out hl0, hJs⟩⟩
    · intro x c kl yd yp w2 cnt2 hkey hlk hv hat hrg2 hlt hg2 hs2 hen
      obtain ⟨x', ex, rfl⟩ := keyU_inv hkey
      obtain rfl : x = x' := by
        simp only [Value.int.injEq, true_and, Int.ofNat_inj] at ex
        exact ex
      have hJ2 : J ss w2 := HJ.out ss wr w2 (some W.heap.size) hJs hg2 (fun r e => by cases e; exact ⟨Nat.le_refl _, hrg.iter_walk⟩)
      obtain ⟨fn, tmps, assign, body, hy, hR⟩ := HY.out ss x w2 hJ2 (by omega)
      clear hs2
      gi_wp2
      refine hR.mono ?_
      rintro e W3 (⟨rfl, hJ3, hk3⟩ | ⟨rfl, hJx3⟩)
      · gi_wp2
        have hrg3 := hrg2.of_walks hk3.2
        go_roundw
        case rel => exact ⟨_, cnt2, ss ++ [x], hrg3, by simp; omega, hC.step hlk hat, hJ3⟩
        case measure => rw [hrg3.left_eq, hrg.left_eq]; exact hlt
      · gi_wp2
        refine bodyPost_ret (results_none rfl _ _ _) rfl ?_
        exact ⟨⟨_, rfl⟩, .inr ⟨_, trivial, hJx3⟩⟩

theorem keys_in (n' : Nat) (mb : Option Nat) (w : World) :
    CallsIn Fence.wide n' Tryz.prog 114 #[.map mb] w fun e w' => e = .returned (.func (.func 155) #[] #[.pointer (some ⟨w.heap.size, 0, none⟩)]) ∧ w' = w.alloc (.cells #[.map mb] 99) := by
  have f28 : Fence.wide.fn 114 := trivial
  refine callsIn_of_wp Tryz.func114 rfl f28 ?_ rfl
  simp only [Tryz.ntmps114, List.size_toArray, List.length_cons, List.length_nil, Nat.reduceAdd, Nat.reduceSub, Array.replicate_succ, Array.replicate_zero, List.push_toArray, List.append_toArray, List.nil_append, List.cons_append]
  gi_wp2
  go_ret
  exact ⟨rfl, rfl⟩

theorem keys_stops (n' : Nat) (hn : 1 ≤ n') (Bm b n₀ : Nat) (L : List (Nat × Value)) (w : World) (hBm : w.heap[Bm]? = some (.cells #[.map (some b)] 99 (0, 0))) (hm : MapAt w b L) :
    SeqStopsK Fence.wide n' Tryz.prog 155 #[.pointer (some ⟨Bm, 0, none⟩)] (fun x : Nat => #[.int .u64 (x : Int)]) (KpM n₀)
      (fun ys => ys.Perm (L.map (·.1))) (fun _ => True) L.length w := fun l J Jx W hW hJ _ hY h0 =>
  keys1_in n' hn l Bm b n₀ L J Jx hY W hJ (by rw [cell_of_row W Bm 0 _ _ _ ((hW.block Bm (Array.getElem?_eq_some_iff.1 hBm).1).trans hBm)]; rfl) (hm.below hW) h0

theorem infoU64K : (Tryz.prog.info? 36).map (fun i => (i.zero, i.size, i.bytes)) = some (some (.int .u64 0), 1, 8) := by kernel_rfl
def numVs (P : List Nat) : List Value := P.map fun (x : Nat) => .int .u64 (x : Int)
theorem numVs_cells (P : List Nat) : P.flatMap numC = numVs P := by
  induction P with
  | nil => rfl
  | cons x P ih => rw [List.flatMap_cons, ih]; rfl

set_option maxHeartbeats 2000000 in
theorem appendKey_in (n' : Nat) (hn : 3 ≤ n') (Bm b : Nat) (L : List (Nat × Value)) (w : World) (hL : L.length ≤ 60000) (hBm : w.heap[Bm]? = some (.cells #[.map (some b)] 99 (0, 0))) (hm : MapAt w b L) :
    CallsIn Fence.wide n' Tryz.prog 181 #[.slice none 0 0, .func (.func 155) #[] #[.pointer (some ⟨Bm, 0, none⟩)]] w fun e W' =>
      ∃ (v : Value) (ys : List Nat), e = .returned v ∧ ys.Perm (L.map (·.1)) ∧ W'.ownsRow w.heap.size 36 1 v ys.length (numVs ys) ∧ Below w.heap.size w W' := by
  have h1 : 1 ≤ n' := by omega
  have hro : Fence.wide.round = none := rfl
  have f33 : Fence.wide.fn 181 := trivial
  have f34 : Fence.wide.fn 155 := trivial
  obtain ⟨i0, hi, hz0, hz1, hz2⟩ := info_parts infoU64K
  refine callsIn_of_wp_marks Tryz.func181 rfl f33 ?_ hro
  simp only [Tryz.ntmps181, List.size_toArray, List.length_cons, List.length_nil, Nat.reduceAdd, Nat.reduceSub, Array.replicate_succ, Array.replicate_zero, List.push_toArray, List.append_toArray, List.nil_append, List.cons_append]
  gi_wp2
  have bO := Boxed.new w 122 (.slice none 0 0)
  have hB0 : Below w.heap.size w (w.alloc (.cells #[.slice none 0 0] 122)) := (Below.refl _ w).alloc (Nat.le_refl _) _
  have hBl : Bm < w.heap.size := (Array.getElem?_eq_some_iff.1 hBm).1
  have hBm1 := (hB0.block Bm hBl).trans hBm
  refine wpIn_rangeFunc_ownG (encs := fun x : Nat => #[.int .u64 (x : Int)]) hro h1 (gf := 155) (lb := #[.pointer (some ⟨Bm, 0, none⟩)]) rfl f34 (enters_of Tryz.func155 (by kernel_rfl) rfl)
    (keys_stops (n' - 1) (by omega) Bm b w.heap.size L _ hBm1 (hm.below hB0)) kpm_t (kpm_b (by simp)) (Below.refl _ _) (fun _ => rfl)
    (fun (pre : List Nat) W => (∃ v, Boxed W w.heap.size 122 v ∧ W.ownsRow w.heap.size 36 1 v pre.length (numVs pre) ∧ True) ∧ Below w.heap.size w W)
    (fun _ _ _ => False)
    (OwnFrom.and (Own.from (holdsRow_own w.heap.size w.heap.size 122 36 1 (fun (pre : List Nat) => pre.length) (fun (pre : List Nat) => numVs pre) (fun _ _ => True)) _) (ownFrom_below (Nat.le_refl _) (by simp)))
    (fun _ _ _ _ _ hs _ _ => hs)
    ⟨⟨_, bO, World.ownsRow_nil _ _ _ _, trivial⟩, hB0⟩
    (fun x => { tmps := #[.slice none 0 0, .func (.func 155) #[] #[.pointer (some ⟨Bm, 0, none⟩)], .pointer (some ⟨w.heap.size, 0, none⟩), undef, .slice none 0 0, .int .u64 (x : Int), .func (.func 155) #[] #[.pointer (some ⟨Bm, 0, none⟩)], .int .u64 (x : Int), undef, undef, undef, undef, undef], defers := [] }) ?assign ?body ?done ?stop
  case assign =>
    intro l x W K hK
    gi_wp2
    exact hK
  case body =>
    rintro l pre x W ⟨⟨v, hv, hrow, _⟩, hB⟩ hlt2
    have hc := hv.cell
    gi_wp2_with (gi_at_builtin; refine wpListIn_append_own _ rfl _ _ 122 rfl w.heap.size 36 i0 (.int .u64 0) 1 8 Tryz.underlying122 hi hz0 hz1 hz2 rfl (by decide) _ _ _ rfl (hrow.alloc _) ⟨W.heap.size, 0, none⟩ 1 1 [.int .u64 (x : Int)] rfl rfl (cell_one_new _ _ _) (by simp [Value.oneCell']) (by unfold maxLen; omega) (by omega) (by have := hB.size; simp; omega) ?_; intro v' w1 hown' hgrow _; obtain ⟨g', cap', rfl⟩ := ownsRow_succ hown'; obtain ⟨hv1, hv2, hr2, hk2, hb2⟩ := hv.appended (by decide) hrow hB.size (Nat.le_refl _) hown' hgrow; have hc1 := hv1.cell; have hf1 := hv1.frozen)
    exact ⟨hk2.from _, ⟨hb2, hk2.walks⟩, ⟨_, hv2, by simpa [numVs] using hr2, trivial⟩, hB.trans hb2⟩
  case done =>
    rintro D ys W hD hys ⟨⟨v, hv, hrow, _⟩, hB⟩ hK
    have hc := hv.cell
    gi_wp2
    refine ⟨by simp, .inl ⟨_, _, rfl, run_takeDeferred hK, ?_⟩⟩
    exact ⟨_, results_tmp rfl _ _ _, v, ys, rfl, hys, ownsRow_putObj hrow _ hK rfl, hB.trans (belowK_b (w := w) (Nat.le_refl _) W D _ _ (by simp at hD; omega) hK rfl rfl)⟩
  case stop =>
    rintro D c pre W _ _ h _
    exact h.elim

theorem collectKey_in (n' : Nat) (hn : 4 ≤ n') (Bm b : Nat) (L : List (Nat × Value)) (w : World) (hL : L.length ≤ 60000) (hBm : w.heap[Bm]? = some (.cells #[.map (some b)] 99 (0, 0))) (hm : MapAt w b L) :
    CallsIn Fence.wide n' Tryz.prog 153 #[.func (.func 155) #[] #[.pointer (some ⟨Bm, 0, none⟩)]] w fun e W' =>
      ∃ (v : Value) (ys : List Nat), e = .returned v ∧ ys.Perm (L.map (·.1)) ∧ W'.ownsRow w.heap.size 36 1 v ys.length (numVs ys) ∧ Below w.heap.size w W' := by
  have f27 : Fence.wide.fn 153 := trivial
  have CA := Lib.hid (appendKey_in (n' - 1) (by omega) Bm b L w hL hBm hm)
  clear hBm hm
  refine callsIn_of_wp Tryz.func153 rfl f27 ?_ rfl
  simp only [Tryz.ntmps153, List.size_toArray, List.length_cons, List.length_nil, Nat.reduceAdd, Nat.reduceSub, Array.replicate_succ, Array.replicate_zero, List.push_toArray, List.append_toArray, List.nil_append, List.cons_append]
  gi_wp2
  refine ⟨trivial, fun _ => by omega, ?_⟩
  refine (CA.out).mono ?_
  rintro e w1 ⟨v, ys, rfl, hp, hr, hb⟩
  gi_wp2
  go_ret
  exact ⟨v, ys, rfl, hp, hr, hb⟩

theorem keys_any (b : Nat) (w : World) : Calls Tryz.prog 114 #[.map (some b)] w fun e w' => e = .returned (.func (.func 155) #[] #[.pointer (some ⟨w.heap.size, 0, none⟩)]) ∧ w' = w.alloc (.cells #[.map (some b)] 99) := callsIn_wide.1 (keys_in 1 (some b) w)

/-- the keys of a map, sorted, in memory of the call's own -/
def KeysTo (K : List Nat) (w : World) (e : Ending) (w' : World) : Prop := ∃ v, e = .returned v ∧ Recs numC w' 36 1 v K ∧ (∀ q, v.ownBlock = some q → w.heap.size ≤ q) ∧ Below w.heap.size w w'
theorem keys_asc {L : List (Nat × Value)} (h : L.Pairwise fun a b => a.1 < b.1) (ys ss : List Nat) (h1 : ys.Perm (L.map (·.1))) (h2 : ss.Perm ys) (h3 : ss.Pairwise (· ≤ ·)) : ss = L.map (·.1) :=
  List.Perm.eq_of_pairwise (le := fun a b => a ≤ b) (fun a b _ _ h1 h2 => Nat.le_antisymm h1 h2) h3 (List.pairwise_map.2 (h.imp fun hab => Nat.le_of_lt hab)) (h2.trans h1)
theorem owned_zero {w : World} {B : Nat} {t : TypeId} {sz n : Nat} {v : Value} {xs : List Value} (h : w.ownsRow B t sz v n xs) : w.ownsRow 0 t sz v n xs := by
  obtain ⟨h1, h2⟩ := h
  refine ⟨h1, ?_⟩
  rcases h2 with h2 | ⟨g, cap, cur, a1, a2, a3⟩
  · exact .inl h2
  · exact .inr ⟨g, cap, cur, a1, Nat.zero_le _, a3⟩
theorem recs_num {w : World} {B : Nat} {v : Value} {ys : List Nat} (h : w.ownsRow B 36 1 v ys.length (numVs ys)) : Recs numC w 36 1 v ys :=
  ⟨fun _ _ => rfl, fun x _ u hu => by simp [numC] at hu; subst hu; rfl, by rw [numVs_cells]; exact owned_zero h⟩

set_option maxHeartbeats 4000000 in
theorem sortedkeys_any (Bm b : Nat) (L : List (Nat × Value)) (w : World) (hL : L.length ≤ 60000) (hBm : w.heap[Bm]? = some (.cells #[.map (some b)] 99 (0, 0))) (hm : MapAt w b L) :
    Calls Tryz.prog 113 #[.func (.func 155) #[] #[.pointer (some ⟨Bm, 0, none⟩)]] w (KeysTo (L.map (·.1)) w) := by
  have CC := Lib.hid (callsIn_wide.1 (collectKey_in 4 (by omega) Bm b L w hL hBm hm))
  have HA := Lib.hid hm.asc
  have hll : (L.map (·.1)).length = L.length := by simp
  have HLL := Lib.hid hll
  clear hBm hm hll
  go_enter Tryz.func113, Tryz.ntmps113
  go_wp2_with fail
  refine CC.out.mono ?_
  rintro e w1 ⟨v, ys, rfl, hp, hr, hb⟩
  have hR := recs_num hr
  have hlen : ys.length ≤ 60000 := by have := hp.length_eq; have := HLL.out; omega
  have hblk := fun q hq => (hr.lt q hq).1
  have HP := Lib.hid hp
  have HB := Lib.hid hb
  have HBL := Lib.hid hblk
  rcases hr.2 with ⟨rfl, hz⟩ | ⟨g, cap, cur, rfl, _, _, _, _, _, _⟩
  · have hy0 : ys = [] := List.eq_nil_of_length_eq_zero hz
    subst hy0
    have hKn : L.map (·.1) = [] := by have := hp.length_eq; exact List.eq_nil_of_length_eq_zero this.symm
    have HK := Lib.hid hKn
    clear hr hp hb hblk hR hKn
    go_wp2_with fail
    refine (sort_nil _).mono ?_
    rintro e w2 ⟨rfl, rfl⟩
    go_wp2
    go_ret
    exact ⟨_, rfl, by rw [HK.out]; exact Recs.nil _ _ _ _, fun q hq => by simp [Value.ownBlock] at hq, HB.out⟩
  · have CS := Lib.hid (sort_any g ys.length cap ys w1 hR (by omega))
    clear hr hp hb hblk hR
    go_wp2_with fail
    refine CS.out.mono ?_
    rintro e w2 ⟨ss, hsp, hss, rfl, hr2, ho⟩
    have hK := keys_asc HA.out ys ss HP.out hsp hss
    subst hK
    go_wp2
    go_ret
    exact ⟨_, rfl, hr2, HBL.out, HB.out.trans (ho.below HB.out.size fun i hi e => by
      have := HBL.out g (by simp [Value.ownBlock]); omega)⟩

end Go.Proofs.YtjcmphjjkeigjaaGreat

namespace Go.Proofs.YtjcmphjjkeigjaaGreat
open Go.RowKit
set_option linter.unusedVariables false
set_option linter.unusedSimpArgs false

structure PutM where
  at_ : Int
  a : Option Addr
  n : Nat
  cap : Nat
  b : List UInt8
deriving Inhabited

def putC (x : PutM) : List Value := [.int .i64 x.at_, .slice x.a x.n x.cap]
def PutM.pt (x : PutM) : Pt := (x.at_, x.b)

/-- a slice of puts: all that it has lies in U -/
structure PutsIn (w : World) (U : Nat → Prop) (a : Option Addr) (n cap : Nat) (M : List PutM) : Prop where
  came : CameAt putC 2 w a n cap M
  lt : ∀ k, U k → k < w.heap.size
  inA : ∀ p, a = some p → U p.block
  bytes : ∀ x ∈ M, BytesAt w x.a x.n x.cap x.b
  inB : ∀ x ∈ M, ∀ p, x.a = some p → U p.block

theorem putC_length (x : PutM) : (putC x).length = 2 := rfl
theorem putC_one (x : PutM) : ∀ u ∈ putC x, u.oneCell' = true := by
  intro u hu
  simp only [putC, List.mem_cons, List.not_mem_nil, or_false] at hu
  rcases hu with rfl | rfl <;> rfl

section
variable {w w' : World} {U S : Nat → Prop} {a : Option Addr} {n cap : Nat} {M : List PutM}
theorem BytesAt.keepB {a : Option Addr} {n cap : Nat} {l : List UInt8} (h : BytesAt w a n cap l) (hk : ∀ p, a = some p → w'.heap[p.block]? = w.heap[p.block]?) : BytesAt w' a n cap l := by
  obtain ⟨h1, h2, h3, h4⟩ := h
  refine ⟨h1, h2, h3, ?_⟩
  rcases h4 with h4 | ⟨x, rfl, hx⟩
  · exact .inl h4
  · exact .inr ⟨x, rfl, fun i hi => by rw [World.cell?_of_block (w := w) (by rw [add_block]; exact hk x rfl)]; exact hx i hi⟩
theorem PutsIn.keep (h : PutsIn w U a n cap M) (hs : w.heap.size ≤ w'.heap.size) (hk : ∀ k, U k → w'.heap[k]? = w.heap[k]?) : PutsIn w' U a n cap M :=
  ⟨h.came.keep (by omega) fun p hp _ _ => hk _ (h.inA p hp), fun k hU => Nat.lt_of_lt_of_le (h.lt k hU) hs, h.inA, fun x hx => (h.bytes x hx).keepB fun p hp => hk _ (h.inB x hx p hp), h.inB⟩
theorem PutsIn.only (h : PutsIn w U a n cap M) (ho : Only S w w') (hS : ∀ k, U k → ¬ S k) : PutsIn w' U a n cap M := h.keep ho.size fun k hU => ho.block k (h.lt k hU) (hS k hU)
theorem PutsIn.below (h : PutsIn w U a n cap M) (hb : Below w.heap.size w w') : PutsIn w' U a n cap M := h.keep hb.size fun k hU => hb.block k (h.lt k hU)
theorem PutsIn.more {V : Nat → Prop} (h : PutsIn w U a n cap M) (hV : ∀ k, U k → V k) (hlt : ∀ k, V k → k < w.heap.size) : PutsIn w V a n cap M :=
  ⟨h.came, hlt, fun p hp => hV _ (h.inA p hp), h.bytes, fun x hx p hp => hV _ (h.inB x hx p hp)⟩
theorem PutsIn.nil (w : World) (U : Nat → Prop) (hU : ∀ k, U k → k < w.heap.size) : PutsIn w U none 0 0 [] :=
  ⟨CameAt.nil _ _ _, hU, by simp, by simp, by simp⟩
theorem PutsIn.len (h : PutsIn w U a n cap M) : n ≤ 9223372036854775807 := by
  have := h.came.2.1; have := h.came.2.2.1; unfold maxLen at *; omega
theorem PutsIn.mlen (h : PutsIn w U a n cap M) : M.length = n := h.came.1
end

/-- cells of the k-th put, as a walk wants them -/
theorem PutsIn.at {w : World} {U : Nat → Prop} {a : Option Addr} {n cap : Nat} {M : List PutM} (h : PutsIn w U a n cap M) (hn : 0 < n) :
    ∃ b off, a = some ⟨b, off, none⟩ ∧ U b ∧ ∀ k, k < n → w.cell? ⟨b, off + k * 2 + 0, none⟩ = some (.int .i64 (M.getD k default).at_) ∧ w.cell? ⟨b, off + k * 2 + 1, none⟩ = some (.slice (M.getD k default).a (M.getD k default).n (M.getD k default).cap) ∧ w.rangeAt b (off + k * 2) (putC (M.getD k default)) := by
  obtain ⟨b, off, rfl, hb, hc⟩ := h.came.at hn (by omega)
  refine ⟨b, off, rfl, h.inA _ rfl, fun k hk => ?_⟩
  have hx : M[k]? = some (M.getD k default) := by rw [List.getD, List.getElem?_eq_getElem (by rw [h.mlen]; exact hk)]; rfl
  have c0 := hc k 0 _ hx (by omega)
  have c1 := hc k 1 _ hx (by omega)
  refine ⟨by rw [Nat.add_assoc]; exact c0, by rw [Nat.add_assoc]; exact c1, fun j u hu => ?_⟩
  have hj : j < 2 := by rw [← putC_length (M.getD k default)]; exact (List.getElem?_eq_some_iff.1 hu).1
  rw [Nat.add_assoc, hc k j _ hx hj, hu]
theorem PutsIn.mem {w : World} {U : Nat → Prop} {a : Option Addr} {n cap : Nat} {M : List PutM} (h : PutsIn w U a n cap M) (k : Nat) (hk : k < n) : M.getD k default ∈ M := by
  have hl : k < M.length := by rw [h.mlen]; exact hk
  rw [List.getD, List.getElem?_eq_getElem hl]
  exact List.getElem_mem hl
theorem pts_getD (M : List PutM) (k : Nat) (hk : k < M.length) : (M.map PutM.pt).getD k (0, []) = (M.getD k default).pt := by
  rw [List.getD, List.getElem?_map, List.getD, List.getElem?_eq_getElem hk]; rfl
theorem pts_drop (M : List PutM) (k : Nat) (hk : k < M.length) : (M.map PutM.pt).drop k = (M.getD k default).pt :: (M.map PutM.pt).drop (k + 1) := by
  rw [List.drop_eq_getElem_cons (by simpa using hk)]
  congr 1
  rw [List.getElem_map, List.getD, List.getElem?_eq_getElem hk]; rfl

/-- the value v is this step -/
def StepIs (w : World) (U : Nat → Prop) (g : Nat) (v : Value) : Stp → Prop
  | .flush => v = .func (.func 28) #[.pointer (some ⟨g, 0, none⟩)] #[]
  | .write L => ∃ bl bd a n cap M, v = .func (.func 132) #[] #[.pointer (some ⟨bl, 0, none⟩), .pointer (some ⟨bd, 0, none⟩)] ∧ U bl ∧ U bd ∧
      w.heap[bl]? = some (.cells #[.slice a n cap] 104 (0, 0)) ∧ w.heap[bd]? = some (.cells #[.pointer (some ⟨g, 0, none⟩)] 23 (0, 0)) ∧ PutsIn w U a n cap M ∧ M.map PutM.pt = L

theorem StepIs.keep {w w' : World} {U : Nat → Prop} {g : Nat} {v : Value} {s : Stp} (h : StepIs w U g v s) (hs : w.heap.size ≤ w'.heap.size) (hk : ∀ k, U k → w'.heap[k]? = w.heap[k]?) : StepIs w' U g v s := by
  cases s with
  | flush => exact h
  | write L =>
    obtain ⟨bl, bd, a, n, cap, M, h1, h2, h3, h4, h5, h6, h7⟩ := h
    exact ⟨bl, bd, a, n, cap, M, h1, h2, h3, (hk bl h2).trans h4, (hk bd h3).trans h5, h6.keep hs hk, h7⟩
theorem StepIs.more {w : World} {U V : Nat → Prop} {g : Nat} {v : Value} {s : Stp} (h : StepIs w U g v s) (hV : ∀ k, U k → V k) (hlt : ∀ k, V k → k < w.heap.size) : StepIs w V g v s := by
  cases s with
  | flush => exact h
  | write L =>
    obtain ⟨bl, bd, a, n, cap, M, h1, h2, h3, h4, h5, h6, h7⟩ := h
    exact ⟨bl, bd, a, n, cap, M, h1, hV _ h2, hV _ h3, h4, h5, h6.more hV hlt, h7⟩

end Go.Proofs.YtjcmphjjkeigjaaGreat

namespace Go.Proofs.YtjcmphjjkeigjaaGreat
open Go.RowKit
set_option linter.unusedVariables false
set_option linter.unusedSimpArgs false

theorem step_int (w : Nat) (h : w < 4294967296) :
    bits .xor .u32 ((w : Int) / 2) (IntKind.u32.wrap (3988292384 * bits .and .u32 (w : Int) 1)) = ((step w : Nat) : Int) := by
  have h1 : bits .and .u32 (w : Int) 1 = ((w % 2 : Nat) : Int) := by
    have := u32_and_nat w 1 h (by omega)
    rw [Nat.and_one_is_mod] at this
    exact this
  have h2 : ((w : Int) / 2) = ((w / 2 : Nat) : Int) := by simp
  rw [h1, h2]
  unfold step poly
  by_cases hw : w % 2 = 1
  · rw [if_pos hw, hw, show IntKind.u32.wrap (3988292384 * ((1 : Nat) : Int)) = ((3988292384 : Nat) : Int) by rfl, u32_xor_nat _ _ (by omega) (by omega)]
  · rw [if_neg hw, show w % 2 = 0 by omega, show IntKind.u32.wrap (3988292384 * ((0 : Nat) : Int)) = ((0 : Nat) : Int) by rfl, u32_xor_nat _ _ (by omega) (by omega), Nat.xor_zero]

theorem shift_any (v : Nat) (w : World) (h : v < 4294967296) :
    Calls Tryz.prog 184 #[.int .u32 v] w fun e w' => e = .returned (.int .u32 (steps 8 v : Nat)) ∧ w = w' := by
  go_enter Tryz.func184, Tryz.ntmps184
  go_wp2
  go_loop [0, 3] (fun x i => ∃ k u : Nat, k ≤ 8 ∧ i = .int .i64 k ∧ x = .int .u32 u ∧ u < 4294967296 ∧ steps (8 - k) u = steps 8 v) (fun _ i => 8 - (intOf i).toNat)
  case atStart => exact ⟨0, v, by omega, rfl, rfl, h, rfl⟩
  case round =>
    obtain ⟨k, u, hk, rfl, rfl, hu, hs⟩ := hrel
    have HS := Lib.hid hs
    clear hs
    by_cases hlt : k < 8
    · have h8 : 8 - k = (8 - (k + 1)) + 1 := by omega
      have H8 := Lib.hid h8
      have HI := Lib.hid (step_int u hu)
      clear h8
      go_wp2
      go_round
      case rel =>
        refine ⟨k + 1, step u, by omega, by go_num, ?_, step_lt u hu, by rw [← HS.out, H8.out]; rfl⟩
        exact congrArg _ HI.out
      case measure => simp [intOf]; omega
    · obtain rfl : k = 8 := by omega
      go_wp2
      go_ret
      have h0 := HS.out
      simp only [Nat.sub_self] at h0
      exact ⟨congrArg (fun n : Nat => Ending.returned (.int .u32 (n : Int))) h0, rfl⟩

/-- the table whose first m entries are laid -/
def tabC (m : Nat) : Array Value := ((List.range 256).map fun i => if i < m then .int .u32 (steps 8 i : Nat) else .int .u32 0).toArray

theorem tabC_size (m : Nat) : (tabC m).size = 256 := by simp [tabC]
theorem tabC_at (m i : Nat) (h : i < 256) : (tabC m)[i]? = some (if i < m then .int .u32 (steps 8 i : Nat) else .int .u32 0) := by
  simp [tabC, h]
theorem tabC_set (m : Nat) (h : m < 256) : (tabC m).setIfInBounds m (.int .u32 (steps 8 m : Nat)) = tabC (m + 1) := by
  apply Array.ext_getElem?
  intro i
  rw [Array.getElem?_setIfInBounds, tabC_size]
  by_cases hi : i < 256
  · rw [tabC_at _ _ hi, tabC_at _ _ hi]
    by_cases he : m = i
    · subst he; simp [h]
    · rw [if_neg he]
      by_cases hl : i < m
      · rw [if_pos hl, if_pos (by omega)]
      · rw [if_neg hl, if_neg (by omega)]
  · rw [if_neg (by omega), Array.getElem?_eq_none (by rw [tabC_size]; omega), Array.getElem?_eq_none (by rw [tabC_size]; omega)]
theorem tabC_one (m : Nat) : (tabC m).all (·.oneCell') = true := by
  refine Array.all_eq_true_iff_forall_mem.2 fun v hv => ?_
  simp only [tabC, List.mem_toArray, List.mem_map] at hv
  obtain ⟨i, _, rfl⟩ := hv
  by_cases h : i < m
  · rw [if_pos h]; rfl
  · rw [if_neg h]; rfl
theorem tabC_zero : tabC 0 = Array.replicate 256 (.int .u32 0) := by
  apply Array.ext_getElem?
  intro i
  by_cases hi : i < 256
  · rw [tabC_at _ _ hi]; simp [Array.getElem?_replicate, hi]
  · rw [Array.getElem?_eq_none (by rw [tabC_size]; omega), Array.getElem?_eq_none (by simp; omega)]
theorem tabC_01 : tabC 1 = tabC 0 := by
  have := tabC_set 0 (by omega)
  rw [← this]
  apply Array.ext_getElem?
  intro i
  rw [Array.getElem?_setIfInBounds, tabC_size]
  by_cases hi : 0 = i
  · subst hi; rw [tabC_at _ _ (by omega)]; rfl
  · rw [if_neg hi]

theorem infoTab : (Tryz.prog.info? 232).map (fun i => (i.zero, i.size)) = some (some (.agg (Array.replicate 256 (.int .u32 0))), 256) := by kernel_rfl
theorem sizeTab : (Tryz.prog.info? 232).map (·.size) = some 256 := (zero_of_info infoTab).2

def TabW (w wx : World) (m : Nat) : Prop :=
  wx.heap[w.heap.size]? = some (.cells (tabC 0) 232 (0, 0)) ∧ wx.heap[w.heap.size + 1]? = some (.cells (tabC m) 232 (0, 0)) ∧ Below w.heap.size w wx ∧ wx.heap.size = w.heap.size + 2

theorem TabW.set {w wx : World} {m : Nat} (h : TabW w wx m) (hm : m < 256) : TabW w (wx.setCell ⟨w.heap.size + 1, m, none⟩ (.int .u32 (steps 8 m : Nat))) (m + 1) := by
  obtain ⟨h1, h2, h3, h4⟩ := h
  refine ⟨?_, ?_, h3.setCell (by simp) _, by simpa using h4⟩
  · rw [heap_setCell_other _ _ _ _ (by simp)]; exact h1
  · rw [heap_setCell_same _ _ _ _ _ _ h2, tabC_set m hm]
theorem TabW.cell {w wx : World} {m : Nat} (h : TabW w wx m) (i : Nat) (hi : i < m) (hm : i < 256) : wx.cell? ⟨w.heap.size + 1, i, none⟩ = some (.int .u32 (steps 8 i : Nat)) := by
  rw [cell_of_row _ _ _ _ _ _ h.2.1, tabC_at _ _ hm, if_pos hi]
theorem TabW.old {w wx : World} {m : Nat} (h : TabW w wx m) (i : Nat) (hi : m ≤ i) (hm : i < 256) : wx.cell? ⟨w.heap.size + 1, i, none⟩ = some (.int .u32 0) := by
  rw [cell_of_row _ _ _ _ _ _ h.2.1, tabC_at _ _ hm, if_neg (by omega)]
theorem TabW.free {w wx : World} {m : Nat} (h : TabW w wx m) (i : Nat) : wx.frozen? ⟨w.heap.size + 1, i, none⟩ = false := frozen_of_row _ _ _ _ _ h.2.1
theorem TabW.drewN {w wx : World} {m : Nat} (h : TabW w wx m) (n : Nat) : TabW w (wx.drewN n) m := ⟨h.1, h.2.1, below_drewN h.2.2.1 n, h.2.2.2⟩
theorem TabW.drew {w wx : World} {m : Nat} (h : TabW w wx m) : TabW w wx.drew m := h.drewN 1

set_option maxHeartbeats 1000000 in
set_option maxRecDepth 100000 in
theorem table_any (w : World) :
    Calls Tryz.prog 156 #[] w fun e w' => e = .returned (.agg (tabC 256)) ∧ Below w.heap.size w w' := by
  have hz := (zero_of_info infoTab).1
  rw [← tabC_zero] at hz
  go_enter Tryz.func156, Tryz.ntmps156
  go_wp2
  have h00 : TabW w ((w.alloc (.cells (tabC 0) 232)).alloc (.cells (tabC 0) 232)) 1 :=
    ⟨heap_alloc2_old w _ _, by rw [tabC_01]; exact heap_alloc2_new w _ _, ((Below.refl _ _).alloc (Nat.le_refl _) _).alloc (by simp) _, by simp⟩
  have H00 := Lib.hid h00
  clear h00
  generalize (w.alloc (.cells (tabC 0) 232)).alloc (.cells (tabC 0) 232) = w00 at *
  go_loopw [2] (fun b wx => ∃ (m : Nat), b = .int .i64 m ∧ 1 ≤ m ∧ m ≤ 256 ∧ (∃ j, m = 2 ^ j) ∧ TabW w wx m) (fun b _ => 256 - (intOf b).toNat)
  case atStart => exact ⟨1, rfl, by omega, by omega, ⟨0, rfl⟩, H00.out⟩
  case round =>
    obtain ⟨m, rfl, hm1, hm2, hj, ht⟩ := hrel
    have HJ := Lib.hid hj
    clear hj
    have HT := Lib.hid ht
    clear ht
    by_cases hlt : m < 256
    · have hcell := HT.out.old m (by omega) hlt
      have hfree := HT.out.free m
      go_wp2_with (go_at_call 184; refine (shift_any _ _ (by omega)).mono ?_; rintro e w' ⟨rfl, rfl⟩)
      have h01 := HT.out.set hlt
      have H01 := Lib.hid h01
      clear h01 hcell hfree
      generalize wr.setCell ⟨w.heap.size + 1, m, none⟩ (.int .u32 (steps 8 m : Nat)) = w01 at *
      obtain ⟨wo, rfl⟩ : ∃ wo : World, wo = wr := ⟨_, rfl⟩
      clear HT
      have hm3 : m ≤ 128 := by
        obtain ⟨j, rfl⟩ := HJ.out
        by_cases hj : j < 8
        · have := Nat.pow_le_pow_right (n := 2) (by omega) (show j ≤ 7 by omega)
          omega
        · have := Nat.pow_le_pow_right (n := 2) (by omega) (show 8 ≤ j by omega)
          omega
      go_loopw [3] (fun r wx => ∃ (k : Nat), r = .int .i64 k ∧ 1 ≤ k ∧ k ≤ m ∧ TabW w wx (m + k)) (fun r _ => m - (intOf r).toNat)
      case atStart => exact ⟨1, rfl, by omega, by omega, H01.out⟩
      case round =>
        obtain ⟨k, rfl, hk1, hk2, ht⟩ := hrel
        have HT := Lib.hid ht
        clear ht
        by_cases hlk : k < m
        · have hc1 := HT.out.cell m (by omega) (by omega)
          have hc2 := HT.out.cell k (by omega) (by omega)
          have hc3 := HT.out.old (m + k) (by omega) (by omega)
          have hf3 := HT.out.free (m + k)
          have hx : bits .xor .u32 (steps 8 m : Nat) (steps 8 k : Nat) = ((steps 8 (m + k) : Nat) : Int) := by
            rw [u32_xor_nat _ _ (steps_lt _ _ (by omega)) (steps_lt _ _ (by omega))]
            obtain ⟨j, hj⟩ := HJ.out
            rw [tab_add m k j hj hlk]
          have HX := Lib.hid hx
          clear hx
          have hmk : (m : Int) + (k : Int) < 256 := by omega
          go_wp2
          go_region
          go_wp2
          go_roundw
          case rel =>
            refine ⟨k + 1, by go_num, by omega, by omega, ?_⟩
            rw [HX.out]
            exact (HT.out.set (by omega)).drew
          case measure => simp [intOf]; omega
        · obtain rfl : k = m := by omega
          go_wp2
          go_roundw
          case rel =>
            refine ⟨2 * k, by go_num, by omega, by omega, ?_, by rw [Nat.two_mul]; exact HT.out⟩
            obtain ⟨j, hj⟩ := HJ.out
            exact ⟨j + 1, by rw [hj, Nat.pow_succ]; omega⟩
          case measure => simp [intOf]; omega
    · obtain rfl : m = 256 := by omega
      obtain ⟨t1, t2, t3, t4⟩ := HT.out
      go_wp2_with (first
        | (refine wpList_load_row rfl _ _ rfl (w.heap.size + 1) rfl 232 (tabC 256) (0, 0) _ t2 Tryz.underlying232 rfl (by rw [tabC_size]; exact sizeTab) ?_)
        | (refine wpList_store_row rfl _ _ _ rfl w.heap.size (tabC 256) rfl rfl 232 (tabC 0) t1 (by rw [tabC_size]; exact sizeTab) (by simp only [tabC_size]) (tabC_one _) ?_))
      refine bodyPost_ret (v := .agg (tabC 256)) (results_cell_row rfl _ _ w.heap.size 232 (tabC 256) (0, 0) _ rfl ?_ Tryz.underlying232 rfl (by rw [tabC_size]; exact sizeTab)) rfl ⟨rfl, ?_⟩
      · exact heap_setRow_same _ _ _ _ _ t1
      · exact below_setRow t3 (Nat.le_refl _) _

end Go.Proofs.YtjcmphjjkeigjaaGreat
