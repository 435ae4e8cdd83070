/-
  A piece of the proof, laid together by program: SrtJ SrtK MapU KeyA JnRep CrcA CrcB CrcC TrRep.
-/
import Derived.Test.YtjcmphjjkeigjaaGreatPbA
import Derived.Test.YtjcmphjjkeigjaaGreatPbB
import Derived.Test.YtjcmphjjkeigjaaGreatPbC
import Derived.Test.YtjcmphjjkeigjaaGreatPbD
import Derived.Maps.OwnSet
import Derived.Maps.Range
import Derived.Sort.MapsRangeIn
import Derived.RangeFuncNested
import Derived.RangeFuncBound
import Derived.RangeFuncCalls
import Derived.RangeFuncLeaves
import Derived.RangeFuncBox
import Derived.Maps.AppendAt
import Derived.Shelf.Abstract
import Derived.Shelf.RegionOpen
import Derived.OwnWalkIn
import Derived.TacticsInMore
import Derived.LoopNIn
import Derived.LoopIn
import Derived.Deep.WholeRow
import Derived.Deep.LoopGhost
import Derived.Deep.QuietTactic
import Derived.BigQuiet
import Derived.StillTailTactics
import Derived.Stop.BytesEq
import Derived.Deep.RegionHeld3

namespace Go.Proofs.YtjcmphjjkeigjaaGreat
open Go.RowKit
set_option linter.unusedVariables false
set_option linter.unusedSimpArgs false

/-- the part from a to b of the row is sorted, and permuted -/
def SrtTo (v : Value) (g a b : Nat) (d : Array Nat) (w : World) (e : Ending) (w' : World) : Prop := ∃ d' : Array Nat, Sort.PermIn a b d d' ∧ Sort.SortedIn ltN a b d' ∧ SortTo v g (.tuple #[]) d' w e w'

structure PdqW (w : World) (g n cap a b : Nat) (d : Array Nat) (a' b' : Nat) (dk : Array Nat) (W : World) : Prop where
  size : dk.size = n
  row : RowW w g n cap dk W
  low : Sort.Below ltN a' b' dk
  rest : ∀ d2, Sort.PermIn a' b' dk d2 → Sort.SortedIn ltN a' b' d2 → Sort.PermIn a b d d2 ∧ Sort.SortedIn ltN a b d2
theorem PdqW.done {w W W' : World} {g n cap a b : Nat} {d : Array Nat} {a' b' : Nat} {dk d2 : Array Nat} {e : Ending} (h : PdqW w g n cap a b d a' b' dk W) (h1 : Sort.PermIn a' b' dk d2) (h2 : Sort.SortedIn ltN a' b' d2) (k : SortTo (.slice (some ⟨g, 0, none⟩) n cap) g (.tuple #[]) d2 W e W') : SrtTo (.slice (some ⟨g, 0, none⟩) n cap) g a b d w (.returned (.tuple #[])) W' :=
  ⟨d2, (h.rest d2 h1 h2).1, (h.rest d2 h1 h2).2, rfl, k.2.1, h.row.only.trans k.2.2 fun _ _ e => e⟩
theorem PdqW.mix {w W W' : World} {g n cap a b : Nat} {d : Array Nat} {a' b' : Nat} {dk d2 : Array Nat} {e : Ending} {r : Value} (h : PdqW w g n cap a b d a' b' dk W) (hb : b' ≤ n) (h1 : Sort.PermIn a' b' dk d2) (k : SortTo (.slice (some ⟨g, 0, none⟩) n cap) g r d2 W e W') : PdqW w g n cap a b d a' b' d2 W' :=
  ⟨h1.1.trans h.size, ⟨k.2.1, h.row.only.trans k.2.2 fun _ _ e => e⟩, h.low.perm (by rw [h.size]; exact hb) h1, fun d3 p q => h.rest d3 (Sort.permIn_trans _ _ _ _ _ h1 p) q⟩
theorem PdqW.quiet {w W W' : World} {g n cap a b : Nat} {d : Array Nat} {a' b' : Nat} {dk : Array Nat} (h : PdqW w g n cap a b d a' b' dk W) (hb : Below W.heap.size W W') : PdqW w g n cap a b d a' b' dk W' :=
  ⟨h.size, ⟨Recs.below h.row.row hb, h.row.only.trans (Only.of_below (S := fun k => k = g) hb) fun _ _ e => e⟩, h.low, h.rest⟩

set_option maxHeartbeats 8000000 in
set_option maxRecDepth 100000 in
theorem pdq_any (g n cap : Nat) (hn : n ≤ 65535) : ∀ (m : Nat) (d : Array Nat) (a b lim : Nat) (w : World), b - a ≤ m → RowU w (.slice (some ⟨g, 0, none⟩) n cap) d → a ≤ b → b ≤ n → lim ≤ 64 → Sort.Below ltN a b d →
    Calls Tryz.prog 182 #[.slice (some ⟨g, 0, none⟩) n cap, .int .i64 a, .int .i64 b, .int .i64 lim] w (SrtTo (.slice (some ⟨g, 0, none⟩) n cap) g a b d w) := by
  intro m
  induction m using Nat.strongRecOn with
  | _ m ih =>
  intro d a b lim w hm h hab hb hlim hlow
  obtain ⟨hsz, hnc, hcm⟩ := h.len
  unfold maxLen at hcm
  have HS := Lib.hid (show PdqW w g n cap a b d a b d w from ⟨hsz, RowW.start h, hlow, fun d2 p q => ⟨p, q⟩⟩)
  have HIH := Lib.hid ih
  clear ih h hsz hlow
  go_enter Tryz.func182, Tryz.ntmps182
  go_wp2
  go_loopw [1, 2, 3, 8, 9] (fun s1 s2 s3 s8 s9 wr => ∃ (a1 b1 l1 : Nat) (wb wp : Bool) (dk : Array Nat), s1 = .int .i64 a1 ∧ s2 = .int .i64 b1 ∧ s3 = .int .i64 l1 ∧ s8 = .bool wb ∧ s9 = .bool wp ∧ a ≤ a1 ∧ a1 ≤ b1 ∧ b1 ≤ b ∧ l1 ≤ 64 ∧ PdqW w g n cap a b d a1 b1 dk wr) (fun s1 s2 _ _ _ _ => (intOf s2 - intOf s1).toNat)
  case atStart => exact ⟨a, b, lim, true, true, d, rfl, rfl, rfl, rfl, rfl, Nat.le_refl _, hab, Nat.le_refl _, hlim, HS.out⟩
  case round =>
    clear HS
    obtain ⟨a1, b1, l1, wb, wp, dk, rfl, rfl, rfl, rfl, rfl, haa, hab1, hbb, hl1, hs⟩ := hrel
    have HS := Lib.hid hs
    clear hs
    obtain ⟨L, hL⟩ : ∃ L, L = b1 - a1 := ⟨_, rfl⟩
    have hLi : (b1 : Int) - (a1 : Int) = (L : Int) := by omega
    have HL := Lib.hid hL
    clear hL
    by_cases h12 : L ≤ 12
    · have h12i : (L : Int) ≤ 12 := by omega
      have C1 := Lib.hid (insertion_any g n cap dk a1 b1 wr HS.out.row.row hab1 (by omega) (by omega))
      go_wp2_with fail
      refine C1.out.mono ?_
      rintro e w1 hs1
      obtain ⟨rfl, _⟩ := id hs1
      go_wp2_with fail
      (try simp only [Exit.inBlock, Exit.then]); refine bodyPost_ret (results_none rfl _ _ _) rfl ?_
      have hi := Sort.insertionSort_holds swo_ltN dk a1 b1 hab1 (by rw [HS.out.size]; omega)
      exact HS.out.done hi.1 hi.2 hs1
    · have h12i : ¬ (L : Int) ≤ 12 := by omega
      have hlt : a1 + 12 < b1 := by have := HL.out; omega
      by_cases h0 : l1 = 0
      · have h0i : (l1 : Int) = 0 := by omega
        have C1 := Lib.hid (heap_any g n cap dk a1 b1 wr HS.out.row.row (by omega) (by omega) (by omega))
        subst h0
        go_wp2_with fail
        refine C1.out.mono ?_
        rintro e w1 hs1
        obtain ⟨rfl, _⟩ := id hs1
        go_wp2_with fail
        (try simp only [Exit.inBlock, Exit.then]); refine bodyPost_ret (results_none rfl _ _ _) rfl ?_
        have hi := Sort.heapSort_holds swo_ltN dk a1 b1 hab1 (by rw [HS.out.size]; omega)
        exact HS.out.done hi.1 hi.2 hs1
      · have h0i : ¬ (l1 : Int) = 0 := by omega
        go_upto_if 35 with (fail)
        go_cut [3] (fun s3 wc => ∃ (l2 : Nat) (d1 : Array Nat), s3 = .int .i64 l2 ∧ l2 ≤ 64 ∧ PdqW w g n cap a b d a1 b1 d1 wc)
        case first =>
          cases wb with
          | false =>
            have C1 := Lib.hid (break_any g n cap dk a1 b1 wr HS.out.row.row (by omega) (by omega) hn)
            obtain ⟨l2, hl2⟩ : ∃ l2, l2 = l1 - 1 := ⟨_, rfl⟩
            have hl2i : (l1 : Int) - 1 = (l2 : Int) := by omega
            have hl2b : l2 ≤ 64 := by omega
            clear hl2
            go_wp2_with fail
            refine C1.out.mono ?_
            rintro e w1 ⟨d1, hp1, hs1⟩
            obtain ⟨rfl, _⟩ := id hs1
            go_wp2_with fail
            go_meet
            exact ⟨l2, d1, rfl, hl2b, HS.out.mix (by omega) hp1 hs1⟩
          | true =>
            go_wp2_with fail
            go_meet
            exact ⟨l1, dk, rfl, hl1, HS.out⟩
        case rest =>
          clear HS
          obtain ⟨l2, d1, rfl, hl2, hs⟩ := hcut
          have HS := Lib.hid hs
          clear hs h0i h0
          have C1 := Lib.hid (pivot_any g n cap d1 a1 b1 wc HS.out.row.row (by omega) (by omega) (by omega))
          go_wp2_with fail
          refine C1.out.mono ?_
          rintro e w1 ⟨p, hh, hap, hpb, hh2, rfl, hbw⟩
          have HS1 := Lib.hid (HS.out.quiet hbw)
          clear HS C1 hbw
          go_upto_if 50 with (fail)
          go_cut [11, 12] (fun s11 s12 wc => ∃ (p2 h2 : Nat) (d2 : Array Nat), s11 = .int .i64 p2 ∧ s12 = .int .i64 h2 ∧ a1 ≤ p2 ∧ p2 < b1 ∧ PdqW w g n cap a b d a1 b1 d2 wc)
          case first =>
            by_cases hh3 : (hh : Int) = 2
            · have C2 := Lib.hid (revrange_any g n cap d1 a1 b1 w1 HS1.out.row.row (by omega) (by omega) (by omega))
              obtain ⟨p2, hp2⟩ : ∃ p2, p2 = (b1 - 1) - (p - a1) := ⟨_, rfl⟩
              have hp2i : (b1 : Int) - 1 - ((p : Int) - (a1 : Int)) = (p2 : Int) := by omega
              have hp2b : a1 ≤ p2 ∧ p2 < b1 := by omega
              clear hp2
              go_wp2_with fail
              refine C2.out.mono ?_
              rintro e w2 hs2
              obtain ⟨rfl, _⟩ := id hs2
              go_wp2_with fail
              go_meet
              exact ⟨p2, 1, _, rfl, rfl, hp2b.1, hp2b.2, HS1.out.mix (by omega) (Sort.reverseRange_holds d1 a1 b1 hab1 (by rw [HS1.out.size]; omega)) hs2⟩
            · go_wp2_with fail
              go_meet
              exact ⟨p, hh, d1, rfl, rfl, hap, hpb, HS1.out⟩
          case rest =>
            clear HS1
            obtain ⟨p2, h2, d2, rfl, rfl, hap2, hpb2, hs⟩ := hcut
            have HS := Lib.hid hs
            clear hs hh2 hap hpb
            have hpt := Sort.partialInsertionSort_holds swo_ltN d2 a1 b1 (by omega) (by rw [HS.out.size]; omega) HS.out.low
            obtain ⟨R, hR⟩ : ∃ R, R = Sort.partialInsertionSort ltN d2 a1 b1 := ⟨_, rfl⟩
            have C1 := Lib.hid (partial_any g n cap d2 a1 b1 wc HS.out.row.row (by omega) (by omega) (by omega))
            rw [← hR] at C1 hpt
            obtain ⟨rarr, rb⟩ := R
            have HPT := Lib.hid hpt
            clear hR hpt
            go_upto_region 15 with (fail)
            go_cut [68] (fun s w' => (∃ c : Bool, s = .bool c) ∧ w' = wc)
            case first =>
              cases wb with
              | false =>
                go_wp2_with fail
                go_meet
                exact ⟨⟨_, rfl⟩, rfl⟩
              | true =>
                cases wp with
                | false =>
                  go_wp2_with fail
                  go_meet
                  exact ⟨⟨_, rfl⟩, rfl⟩
                | true =>
                  go_wp2_with fail
                  go_meet
                  exact ⟨⟨_, rfl⟩, rfl⟩
            obtain ⟨⟨c, rfl⟩, hwc⟩ := hcut
            replace hwc := hwc.symm
            subst hwc
            go_upto_if 68 with (fail)
            go_cut [] (fun wc => ∃ d3 : Array Nat, PdqW w g n cap a b d a1 b1 d3 wc)
            case first =>
              cases c with
              | false =>
                go_wp2_with fail
                go_meet
                exact ⟨d2, HS.out⟩
              | true =>
                go_wp2_with fail
                refine C1.out.mono ?_
                rintro e w2 hs2
                obtain ⟨rfl, _⟩ := id hs2
                cases rb with
                | true =>
                  go_wp2_with fail
                  (try simp only [Exit.inBlock, Exit.then]); refine bodyPost_ret (results_none rfl _ _ _) rfl ?_
                  exact HS.out.done HPT.out.1 (HPT.out.2 (by trivial)) ⟨rfl, hs2.2⟩
                | false =>
                  go_wp2_with fail
                  go_meet
                  exact ⟨rarr, HS.out.mix (by omega) HPT.out.1 hs2⟩
            case rest =>
              clear HS C1 HPT
              obtain ⟨d3, hs⟩ := hcut
              have HS := Lib.hid hs
              have hcw := hs.row.row.cells
              have hfw := hs.row.row.frozen
              rw [hs.size] at hcw
              clear hs
              have hp2n : p2 < n := by omega
              obtain ⟨bb, hbb2⟩ : ∃ bb : Bool, bb = (decide (0 < a1) && !ltN d3[a1 - 1]! d3[p2]!) := ⟨_, rfl⟩
              go_upto_region 17 with (fail)
              go_cut [87] (fun s wc => s = .bool bb ∧ PdqW w g n cap a b d a1 b1 d3 wc)
              case first =>
                by_cases ha0 : 0 < a1
                · have ha0i : (0 : Int) < (a1 : Int) := by omega
                  obtain ⟨q, hq⟩ : ∃ q, q = a1 - 1 := ⟨_, rfl⟩
                  have hqi : (a1 : Int) - 1 = (q : Int) := by omega
                  have hqn : q < n := by omega
                  have HBV := Lib.hid (show bb = !ltN d3[q]! d3[p2]! by rw [hbb2, decide_eq_true ha0, Bool.true_and, hq])
                  clear hq hbb2
                  go_big_quiet (first | (go_at_call 198; refine Calls.quiet_of_same (less_any _ _ _)))
                  go_wp2_with fail
                  go_meet
                  exact ⟨by rw [HBV.out], HS.out.quiet (below_drewN (Below.refl _ _) _)⟩
                · have ha0i : ¬ (0 : Int) < (a1 : Int) := by omega
                  have HBV := Lib.hid (show bb = false by rw [hbb2, decide_eq_false ha0, Bool.false_and])
                  clear hbb2
                  go_big_quiet (fail)
                  go_wp2_with fail
                  go_meet
                  exact ⟨by rw [HBV.out], HS.out.quiet (below_drewN (Below.refl _ _) _)⟩
              case rest =>
                clear HS hcw hfw
                obtain ⟨rfl, hs⟩ := hcut
                have HS := Lib.hid hs
                clear hs
                have HBB := Lib.hid hbb2
                clear hbb2
                cases bb with
                | true =>
                  have hcond := HBB.out.symm
                  simp only [Bool.and_eq_true, decide_eq_true_eq, Bool.not_eq_true'] at hcond
                  obtain ⟨mid, d4, hx⟩ : ∃ mid d4, Sort.partitionEqual ltN d3 a1 b1 p2 = (mid, d4) := ⟨_, _, rfl⟩
                  have hr := Sort.round_eq swo_ltN (Sort.partitionEqual_holds ltN) hcond.1 hap2 hpb2 (by rw [HS.out.size]; omega) HS.out.low hcond.2 hx
                  have C1 := Lib.hid (parteq_any g n cap d3 a1 b1 p2 wc HS.out.row.row hap2 hpb2 (by omega) (by omega))
                  rw [hx] at C1
                  obtain ⟨r1, r2, r3, r4, r5⟩ := hr
                  have HR3 := Lib.hid r3
                  have HR4 := Lib.hid r4
                  have HR5 := Lib.hid r5
                  clear hcond hx r3 r4 r5
                  go_wp2_with fail
                  refine C1.out.mono ?_
                  rintro e w2 hs2
                  obtain ⟨rfl, _⟩ := id hs2
                  go_wp2_with fail
                  go_roundw
                  case rel => exact ⟨mid, b1, l2, wb, wp, d4, rfl, rfl, rfl, rfl, rfl, by omega, r2, hbb, hl2, HR3.out.trans HS.out.size, ⟨hs2.2.1, HS.out.row.only.trans hs2.2.2 fun _ _ e => e⟩, HR4.out, fun dd p q => by
                    obtain ⟨u1, u2⟩ := HR5.out dd p q
                    exact HS.out.rest dd u1 u2⟩
                  case measure => simp only [intOf]; omega
                | false =>
                  obtain ⟨mid, ap, d4, hx⟩ : ∃ mid ap d4, Sort.partition ltN d3 a1 b1 p2 = (mid, ap, d4) := ⟨_, _, _, rfl⟩
                  have hr := Sort.round_part swo_ltN (Sort.partition_holds ltN) hap2 hpb2 (by rw [HS.out.size]; omega) HS.out.low hx
                  have C1 := Lib.hid (partition_any g n cap d3 a1 b1 p2 wc HS.out.row.row hap2 hpb2 (by omega) (by omega))
                  rw [hx] at C1
                  obtain ⟨r1, r2, r3, r4, r5, r6, r7⟩ := hr
                  have HR3 := Lib.hid r3
                  have HR4 := Lib.hid r4
                  have HR5 := Lib.hid r5
                  have HR6 := Lib.hid r6
                  have HR7 := Lib.hid r7
                  obtain ⟨le, hle⟩ : ∃ le, le = mid - a1 := ⟨_, rfl⟩
                  obtain ⟨ri, hri⟩ : ∃ ri, ri = b1 - mid := ⟨_, rfl⟩
                  have hlei : (mid : Int) - (a1 : Int) = (le : Int) := by omega
                  have hrii : (b1 : Int) - (mid : Int) = (ri : Int) := by omega
                  have HLE := Lib.hid hle
                  have HRI := Lib.hid hri
                  obtain ⟨th, hth⟩ : ∃ th, (L : Int) / 8 = th := ⟨_, rfl⟩
                  have HTH := Lib.hid hth
                  clear hx r3 r4 r5 r6 r7 hle hri hth
                  go_wp2_with fail
                  refine C1.out.mono ?_
                  rintro e w2 hs2
                  obtain ⟨rfl, _⟩ := id hs2
                  by_cases hll : le < ri
                  · have hlli : (le : Int) < (ri : Int) := by omega
                    have CI := Lib.hid (HIH.out (le) (by have := HLE.out; omega) d4 a1 mid l2 w2 (by have := HLE.out; omega) hs2.2.1 r1 (by omega) hl2 HR4.out)
                    go_wp2_with fail
                    refine CI.out.mono ?_
                    rintro e w3 ⟨d5, u1, u2, rfl, u3, u4⟩
                    obtain ⟨v1, v2⟩ := HR6.out d5 u1 u2
                    have HV1 := Lib.hid v1
                    have HV2 := Lib.hid v2
                    have HU := Lib.hid (show d5.size = n from u1.1.trans (HR3.out.trans HS.out.size))
                    clear v1 v2 u1 u2
                    go_wp2_with fail
                    go_roundw
                    case rel => exact ⟨mid + 1, b1, l2, _, ap, d5, by first | rfl | simp, rfl, rfl, rfl, rfl, by omega, by omega, hbb, hl2, HU.out, ⟨u3, (HS.out.row.only.trans hs2.2.2 fun _ _ e => e).trans u4 fun _ _ e => e⟩, HV1.out, fun dd p q => by
                      obtain ⟨x1, x2⟩ := HV2.out dd p q
                      exact HS.out.rest dd x1 x2⟩
                    case measure => simp only [intOf]; omega
                  · have hlli : ¬ (le : Int) < (ri : Int) := by omega
                    obtain ⟨m1, hm1⟩ : ∃ m1, m1 = mid + 1 := ⟨_, rfl⟩
                    have hm1i : (mid : Int) + 1 = (m1 : Int) := by omega
                    have CI := Lib.hid (HIH.out (b1 - m1) (by omega) d4 m1 b1 l2 w2 (by omega) hs2.2.1 (by omega) (by omega) hl2 (by rw [hm1]; exact HR5.out))
                    have HM1 := Lib.hid hm1
                    clear hm1
                    go_wp2_with fail
                    refine CI.out.mono ?_
                    rintro e w3 ⟨d5, u1, u2, rfl, u3, u4⟩
                    rw [HM1.out] at u1 u2
                    obtain ⟨v1, v2⟩ := HR7.out d5 u1 u2
                    have HV1 := Lib.hid v1
                    have HV2 := Lib.hid v2
                    have HU := Lib.hid (show d5.size = n from u1.1.trans (HR3.out.trans HS.out.size))
                    clear v1 v2 u1 u2
                    go_wp2_with fail
                    go_roundw
                    case rel => exact ⟨a1, mid, l2, _, ap, d5, rfl, rfl, rfl, rfl, rfl, haa, r1, by omega, hl2, HU.out, ⟨u3, (HS.out.row.only.trans hs2.2.2 fun _ _ e => e).trans u4 fun _ _ e => e⟩, HV1.out, fun dd p q => by
                      obtain ⟨x1, x2⟩ := HV2.out dd p q
                      exact HS.out.rest dd x1 x2⟩
                    case measure => simp only [intOf]; omega

end Go.Proofs.YtjcmphjjkeigjaaGreat

namespace Go.Proofs.YtjcmphjjkeigjaaGreat
open Go.RowKit
set_option linter.unusedVariables false
set_option linter.unusedSimpArgs false

/-- the row is sorted -/
def SortedTo (v : Value) (g : Nat) (l : List Nat) (w : World) (e : Ending) (w' : World) : Prop := ∃ l' : List Nat, l'.Perm l ∧ l'.Pairwise (· ≤ ·) ∧ e = .returned (.tuple #[]) ∧ Recs numC w' 36 1 v l' ∧ Only (fun k => k = g) w w'

theorem perm_whole (d d' : Array Nat) (h : Sort.PermIn 0 d.size d d') : d'.toList.Perm d.toList := by
  have h1 := h.1
  have := h.2.2
  rw [show d'.extract 0 d.size = d' by rw [← h1]; simp, show d.extract 0 d.size = d by simp] at this
  exact this
theorem sorted_whole (d : Array Nat) (n : Nat) (hn : d.size = n) (h : Sort.SortedIn ltN 0 n d) : d.toList.Pairwise (· ≤ ·) := by
  rw [List.pairwise_iff_getElem]
  intro i j hi hj hij
  have := h i j (Nat.zero_le _) hij (by simpa [hn] using hj)
  rw [getElem!_pos d j (by simpa using hj), getElem!_pos d i (by simpa using hi)] at this
  simp only [ltN, decide_eq_false_iff_not, Nat.not_lt] at this
  simpa using this

set_option maxHeartbeats 4000000 in
theorem insertion_nil (w : World) : Calls Tryz.prog 192 #[.slice none 0 0, .int .i64 0, .int .i64 0] w fun e w' => e = .returned (.tuple #[]) ∧ w' = w := by
  go_enter Tryz.func192, Tryz.ntmps192
  go_wp2
  go_loopw [6] (fun x wr => x = .int .i64 1 ∧ wr = w) (fun _ _ => 0)
  case atStart => exact ⟨rfl, rfl⟩
  case round =>
    obtain ⟨rfl, rfl⟩ := hrel
    go_wp2
    go_end0
    exact ⟨rfl, rfl⟩
set_option maxHeartbeats 4000000 in
theorem pdq_nil (w : World) : Calls Tryz.prog 182 #[.slice none 0 0, .int .i64 0, .int .i64 0, .int .i64 0] w fun e w' => e = .returned (.tuple #[]) ∧ w' = w := by
  go_enter Tryz.func182, Tryz.ntmps182
  go_wp2
  go_loopw [1, 2, 3] (fun x y z wr => x = .int .i64 0 ∧ y = .int .i64 0 ∧ z = .int .i64 0 ∧ wr = w) (fun _ _ _ _ => 0)
  case atStart => exact ⟨rfl, rfl, rfl, rfl⟩
  case round =>
    obtain ⟨rfl, rfl, rfl, rfl⟩ := hrel
    go_wp2_with fail
    refine (insertion_nil _).mono ?_
    rintro e w1 ⟨rfl, rfl⟩
    go_wp2_with fail
    (try simp only [Exit.inBlock, Exit.then]); refine bodyPost_ret (results_none rfl _ _ _) rfl ?_
    exact ⟨rfl, rfl⟩
set_option maxHeartbeats 4000000 in
theorem sort_nil (w : World) : Calls Tryz.prog 154 #[.slice none 0 0] w fun e w' => e = .returned (.tuple #[]) ∧ w' = w := by
  have hl := len_any 0 w (by omega) (by omega)
  have h0 : Lib.bitLen (Int.toNat 0) = 0 := by decide
  rw [h0] at hl
  go_enter Tryz.func154, Tryz.ntmps154
  go_wp2_with fail
  refine hl.mono ?_
  rintro e w1 ⟨rfl, rfl⟩
  go_wp2_with fail
  refine (pdq_nil _).mono ?_
  rintro e w2 ⟨rfl, rfl⟩
  go_wp2
  go_end0
  exact ⟨rfl, rfl⟩
set_option maxHeartbeats 4000000 in
theorem sort_any (g n cap : Nat) (l : List Nat) (w : World) (h : Recs numC w 36 1 (.slice (some ⟨g, 0, none⟩) n cap) l) (hn : n ≤ 65535) :
    Calls Tryz.prog 154 #[.slice (some ⟨g, 0, none⟩) n cap] w (SortedTo (.slice (some ⟨g, 0, none⟩) n cap) g l w) := by
  have hr : RowU w (.slice (some ⟨g, 0, none⟩) n cap) l.toArray := by simpa [RowU] using h
  obtain ⟨hsz, hnc, hcm⟩ := hr.len
  have hb16 := bitLen_16 n (by omega)
  have hl := Lib.hid (len_any n w (by omega) (by omega))
  rw [Int.toNat_natCast] at hl
  obtain ⟨k, hk⟩ : ∃ k, k = Lib.bitLen n := ⟨_, rfl⟩
  rw [← hk] at hl hb16
  have CP := Lib.hid (pdq_any g n cap hn n l.toArray 0 n k w (by omega) hr (Nat.zero_le _) (Nat.le_refl _) (by omega) (Or.inl rfl))
  have HSZ := Lib.hid hsz
  have hu : IntKind.u64.wrap (n : Int) = (n : Int) := by rw [IntKind.wrap_u64]; omega
  clear h hr hk hsz
  unfold maxLen at hcm
  go_enter Tryz.func154, Tryz.ntmps154
  go_wp2_with fail
  refine hl.out.mono ?_
  rintro e w1 ⟨rfl, rfl⟩
  go_wp2_with fail
  refine CP.out.mono ?_
  rintro e w2 ⟨d', hp, hs, rfl, hr2, ho⟩
  go_wp2_with fail
  go_end0
  refine ⟨d'.toList, ?_, sorted_whole d' n (hp.1.trans HSZ.out) hs, rfl, hr2, ho⟩
  have h1 := perm_whole l.toArray d' (by rw [HSZ.out]; exact hp)
  simpa using h1

end Go.Proofs.YtjcmphjjkeigjaaGreat

namespace Go.Proofs.YtjcmphjjkeigjaaGreat
open Go.RowKit
set_option linter.unusedVariables false
set_option linter.unusedSimpArgs false

def rawE : Value → Option (DataW Value × List MemPlace) := fun v => some (.held v, [])
def mentL (L : List (Nat × Value)) : List (Lit × DataW Value) := L.map fun p => (Lit.int .u64 (p.1 : Int), DataW.held p.2)
def mentD (L : List (Nat × Value)) : DataW Value := .map (mentL L)
def mfindV (L : List (Nat × Value)) (k : Nat) : Option (Nat × Value) := L.find? fun p => p.1 == k
def mhasV (L : List (Nat × Value)) (k : Nat) : Bool := L.any fun p => p.1 == k
def mputV (L : List (Nat × Value)) (k : Nat) (v : Value) : List (Nat × Value) := L.filter (fun p => decide (p.1 < k)) ++ (k, v) :: L.filter fun p => decide (k < p.1)
def mdelV (L : List (Nat × Value)) (k : Nat) : List (Nat × Value) := L.filter fun p => !(p.1 == k)

theorem same_u64 (a k : Nat) : (Lit.int .u64 (a : Int)).sameKey (Lit.int .u64 (k : Int)) = (a == k) := by
  simp only [Lit.sameKey, true_and, Int.ofNat_inj]
  cases h : a == k <;> simp_all
theorem before_u64 (a k : Nat) : (Lit.int .u64 (a : Int)).before (Lit.int .u64 (k : Int)) = decide (a < k) := by
  simp [Lit.before]
theorem has_ent (L : List (Nat × Value)) (k : Nat) : Maps.has (mentD L) (.int .u64 k) = mhasV L k := by
  rw [mentD, Maps.has_eq, mentL, List.any_map]
  unfold mhasV
  congr 1
  funext p
  exact same_u64 p.1 k
theorem size_ent (L : List (Nat × Value)) : Maps.size (mentD L) = L.length := by simp [mentD, mentL, Maps.size_eq]
theorem at_ent (L : List (Nat × Value)) (k : Nat) (zd : DataW Value) : (mentD L).atKey (.int .u64 k) zd = match mfindV L k with
    | some p => .held p.2
    | none => zd := by
  unfold mentD DataW.atKey mentL mfindV
  dsimp only
  rw [List.find?_map]
  have : ((fun p : Lit × DataW Value => p.1.sameKey (.int .u64 (k : Int))) ∘ fun p : Nat × Value => (Lit.int .u64 (p.1 : Int), DataW.held p.2)) = fun p => p.1 == k := by
    funext p; exact same_u64 p.1 k
  rw [this]
  cases L.find? (fun p => p.1 == k) <;> rfl
theorem del_ent (L : List (Nat × Value)) (k : Nat) : (mentD L).del (.int .u64 k) = mentD (mdelV L k) := by
  unfold mentD DataW.del mentL mdelV
  dsimp only
  rw [List.filter_map]
  congr 3
  funext p
  show (!(Lit.int .u64 (p.1 : Int)).sameKey (.int .u64 (k : Int))) = _
  rw [same_u64]
theorem insert_ent (k : Nat) (v : Value) : ∀ L : List (Nat × Value), L.Pairwise (fun a b => a.1 < b.1) → (∀ p ∈ L, p.1 ≠ k) → DataW.insert (Lit.int .u64 (k : Int), DataW.held v) (mentL L) = mentL (mputV L k v)
  | [], _, _ => rfl
  | q :: L, h, hk => by
    obtain ⟨h1, h2⟩ := List.pairwise_cons.1 h
    have hq := hk q (by simp)
    show (if (Lit.int .u64 (k : Int)).before (Lit.int .u64 (q.1 : Int)) then _ else _) = _
    rw [before_u64]
    by_cases hlt : k < q.1
    · rw [if_pos (by simpa using hlt)]
      have e1 : (q :: L).filter (fun p => decide (p.1 < k)) = [] := by
        rw [List.filter_eq_nil_iff]
        intro p hp
        rcases List.mem_cons.1 hp with rfl | hp
        · simp; omega
        · have := h1 p hp; simp; omega
      have e2 : (q :: L).filter (fun p => decide (k < p.1)) = q :: L := by
        rw [List.filter_eq_self]
        intro p hp
        rcases List.mem_cons.1 hp with rfl | hp
        · simpa using hlt
        · have := h1 p hp; simp; omega
      unfold mputV
      rw [e1, e2]; rfl
    · rw [if_neg (by simpa using hlt)]
      have ih := insert_ent k v L h2 (fun p hp => hk p (by simp [hp]))
      have e1 : mputV (q :: L) k v = q :: mputV L k v := by
        unfold mputV
        rw [List.filter_cons_of_pos (by simp; omega), List.filter_cons_of_neg (by simp; omega)]; rfl
      rw [e1]
      show _ :: DataW.insert _ (mentL L) = _ :: mentL (mputV L k v)
      rw [ih]
theorem mdelV_asc {L : List (Nat × Value)} (h : L.Pairwise fun a b => a.1 < b.1) (k : Nat) : (mdelV L k).Pairwise fun a b => a.1 < b.1 := h.filter _
theorem mputV_del (L : List (Nat × Value)) (k : Nat) (v : Value) : mputV (mdelV L k) k v = mputV L k v := by
  unfold mputV mdelV
  rw [List.filter_filter, List.filter_filter]
  congr 1
  · congr 1; funext p; by_cases h : p.1 = k <;> simp [h]
  · congr 2; funext p; by_cases h : p.1 = k <;> simp [h]
theorem put_ent (L : List (Nat × Value)) (k : Nat) (v : Value) (h : L.Pairwise fun a b => a.1 < b.1) : (mentD L).put (.int .u64 k) (.held v) = mentD (mputV L k v) := by
  have e : ((mentL L).filter fun p => !p.1.sameKey (.int .u64 (k : Int))) = mentL (mdelV L k) := by
    have := del_ent L k
    unfold mentD DataW.del at this
    simpa using this
  unfold mentD DataW.put
  dsimp only
  rw [e, insert_ent k v _ (mdelV_asc h k) (fun p hp => by simp [mdelV] at hp; exact hp.2), mputV_del]
theorem mputV_asc {L : List (Nat × Value)} (h : L.Pairwise fun a b => a.1 < b.1) (k : Nat) (v : Value) : (mputV L k v).Pairwise fun a b => a.1 < b.1 := by
  unfold mputV
  rw [List.pairwise_append]
  refine ⟨h.filter _, List.pairwise_cons.2 ⟨fun p hp => by simp at hp; exact hp.2, h.filter _⟩, fun a ha b hb => ?_⟩
  simp at ha
  rcases List.mem_cons.1 hb with rfl | hb
  · exact ha.2
  · simp at hb; omega

/-- block b is a map that has just these -/
structure MapAt (w : World) (b : Nat) (L : List (Nat × Value)) : Prop where
  own : w.ownsMap Tryz.prog 36 rawE b L.length (mentD L)
  asc : L.Pairwise fun a b => a.1 < b.1
  key : ∀ p ∈ L, p.1 < 18446744073709551616

theorem wf_u64 (k : Nat) (h : k < 18446744073709551616) : (Lit.int .u64 (k : Int)).wf = true := by
  simp [Lit.wf, IntKind.min, IntKind.max, IntKind.signed, IntKind.bits]; omega
theorem keyU (k : Nat) (h : k < 18446744073709551616) : keyOf Tryz.prog 36 (.int .u64 k) = some (.int .u64 k) := Maps.keyOf_int_mk Tryz.underlying36 (wf_u64 k h)
theorem lawU : Maps.Keyed Tryz.prog 36 := Maps.int_keyed Tryz.underlying36

section
variable {w w' : World} {b n : Nat} {L : List (Nat × Value)} {t e : TypeId}
theorem tight (h : w.ownsMap Tryz.prog 36 rawE b n (mentD L)) : w.ownsMap Tryz.prog 36 rawE b L.length (mentD L) := by
  obtain ⟨es, clock, hb, F, hs, hD⟩ := h
  refine ⟨es, clock, hb, F, ?_, hD⟩
  have := congrArg Maps.size hD
  rw [size_ent, Maps.size_eq, length_sorted] at this
  simp at this; omega
theorem MapAt.lt (h : MapAt w b L) : b < w.heap.size := h.own.lt
theorem MapAt.keep (h : MapAt w b L) (hk : w'.heap[b]? = w.heap[b]?) : MapAt w' b L := by
  obtain ⟨es, clock, hb, r⟩ := h.own
  exact ⟨⟨es, clock, hk.trans hb, r⟩, h.asc, h.key⟩
theorem MapAt.below (h : MapAt w b L) (hb : Below w.heap.size w w') : MapAt w' b L := h.keep (hb.block b h.lt)
theorem MapAt.made (w : World) : MapAt (w.alloc (.map #[] 0)) w.heap.size [] := ⟨World.ownsMap_made w _ _ _, List.Pairwise.nil, by simp⟩
theorem MapAt.ne_cells (h : MapAt w b L) {g : Nat} {cs : Array Value} {ty : TypeId} {fr : Nat × Nat} (hg : w.heap[g]? = some (.cells cs ty fr)) : g ≠ b := by
  rintro rfl
  obtain ⟨es, clock, hb, _⟩ := h.own
  rw [hg] at hb; cases hb
theorem MapAt.len_run (h : MapAt w b L) (ht : Tryz.prog.underlying t = some (.map 36 e)) (ty : TypeId) : (Builtin.len_ #[t] ty #[.map (some b)]).run Tryz.prog w = .ok (.int .i64 L.length) w := by
  have := h.own.len ht ty
  rwa [size_ent] at this
/-- 'v, ok := m[k]' -/
theorem MapAt.look_ok (h : MapAt w b L) (ht : Tryz.prog.underlying t = some (.map 36 e)) {z : Value} (hz : (zeroValue e).run Tryz.prog w = .ok z w) (k : Nat) (hk : k < 18446744073709551616) :
    (Instr.lookup t (.map (some b)) (.int .u64 k) true).run Tryz.prog w = .ok (.tuple #[match mfindV L k with
      | some p => p.2
      | none => z, .bool (mhasV L k)]) w := by
  obtain ⟨v, ps, hrun, hv⟩ := h.own.look_ok lawU ht hz (zd := .held z) (zp := []) rfl (keyU k hk)
  rw [has_ent] at hrun
  rw [hrun]
  rw [at_ent] at hv
  have : v = match mfindV L k with
      | some p => p.2
      | none => z := by
    unfold rawE at hv
    simp only [Option.some.injEq, Prod.mk.injEq] at hv
    have h1 := hv.1
    split at h1 <;> rename_i hf <;> cases h1 <;> rfl
  rw [this]
/-- 'm[k]' -/
theorem MapAt.look (h : MapAt w b L) (ht : Tryz.prog.underlying t = some (.map 36 e)) {z : Value} (hz : (zeroValue e).run Tryz.prog w = .ok z w) (k : Nat) (hk : k < 18446744073709551616) :
    (Instr.lookup t (.map (some b)) (.int .u64 k) false).run Tryz.prog w = .ok (match mfindV L k with
      | some p => p.2
      | none => z) w := by
  obtain ⟨v, ps, hrun, hv⟩ := h.own.lookup lawU ht hz (zd := .held z) (zp := []) rfl (keyU k hk)
  rw [hrun]
  rw [at_ent] at hv
  have : v = match mfindV L k with
      | some p => p.2
      | none => z := by
    unfold rawE at hv
    simp only [Option.some.injEq, Prod.mk.injEq] at hv
    have h1 := hv.1
    split at h1 <;> rename_i hf <;> cases h1 <;> rfl
  rw [this]
/-- 'm[k] = v' -/
theorem MapAt.put (h : MapAt w b L) (ht : Tryz.prog.underlying t = some (.map 36 e)) (hn : L.length < 1000000) (k : Nat) (hk : k < 18446744073709551616) (v : Value) :
    ∃ w', (Instr.mapUpdate t (.map (some b)) (.int .u64 k) v).run Tryz.prog w = .ok () w' ∧ MapAt w' b (mputV L k v) ∧ Only (fun q => q = b) w w' := by
  obtain ⟨w', hrun, ho, hg⟩ := h.own.update lawU ht (by unfold maxLen; omega) (keyU k hk) (val := v) (d := .held v) (ps := []) rfl
  rw [put_ent L k v h.asc] at ho
  refine ⟨w', hrun, ⟨tight ho, mputV_asc h.asc k v, fun p hp => ?_⟩, Only.of_grown hg fun q e => by cases e; rfl⟩
  unfold mputV at hp
  rcases List.mem_append.1 hp with hp | hp
  · exact h.key p ((List.mem_filter.1 hp).1)
  · rcases List.mem_cons.1 hp with rfl | hp
    · exact hk
    · exact h.key p ((List.mem_filter.1 hp).1)
/-- 'delete(m, k)' -/
theorem MapAt.drop (h : MapAt w b L) (ht : Tryz.prog.underlying t = some (.map 36 e)) (k : Nat) (hk : k < 18446744073709551616) (ty : TypeId) :
    ∃ w', (Builtin.delete_ #[t, 36] ty #[.map (some b), .int .u64 k]).run Tryz.prog w = .ok (.tuple #[]) w' ∧ MapAt w' b (mdelV L k) ∧ Only (fun q => q = b) w w' := by
  obtain ⟨w', hrun, ho, hg⟩ := h.own.drop lawU ht (keyU k hk) ty
  rw [del_ent] at ho
  exact ⟨w', hrun, ⟨tight ho, mdelV_asc h.asc k, fun p hp => h.key p ((List.mem_filter.1 hp).1)⟩, Only.of_grown hg.grown fun q e => by cases e; rfl⟩
end

end Go.Proofs.YtjcmphjjkeigjaaGreat

namespace Go.Proofs.YtjcmphjjkeigjaaGreat
open Go.RowKit
set_option linter.unusedVariables false
set_option linter.unusedSimpArgs false
set_option maxRecDepth 100000
attribute [local go_sem] Oper.semAt_some

/-- what a round keeps: what lay below n₀, maps and walks -/
def KpM (n₀ : Nat) (W W' : World) : Prop := Below n₀ W W' ∧ KeepsWalks W W'
theorem kpm_t {n₀ : Nat} {A B C : World} (h : KpM n₀ A B) (k : KpM n₀ B C) : KpM n₀ A C := ⟨h.1.trans k.1, h.2.trans k.2⟩
theorem kpm_b {n₀ : Nat} {w : World} (hn : n₀ ≤ w.heap.size) (W : World) (l : Nat) (o o' : Obj) (hl : w.heap.size ≤ l) (h : W.heap[l]? = some o) (h1 : o.isCells = false) (h2 : o.isWalk = false) : KpM n₀ W (W.putObj l o') :=
  ⟨belowK_b (w := w) hn W l o o' hl h h1 h2, walksK_b (w := w) W l o o' hl h h1 h2⟩

/-- the keys that have come, while some are left -/
structure Come (L : List (Nat × Value)) (left : Lit → Bool) (ss : List Nat) : Prop where
  nodup : ss.Nodup
  mem : ∀ x : Nat, x ∈ ss ↔ (mhasV L x = true ∧ left (.int .u64 x) = false)
theorem Come.start (L : List (Nat × Value)) : Come L (Maps.has (mentD L)) [] := ⟨List.nodup_nil, fun x => by rw [has_ent]; cases mhasV L x <;> simp⟩
theorem Come.step {L : List (Nat × Value)} {left : Lit → Bool} {ss : List Nat} (h : Come L left ss) {x : Nat} {y : DataW Value} (hlk : left (.int .u64 x) = true) (hat : ∀ zd, (mentD L).atKey (.int .u64 x) zd = y) : Come L (fun z => left z && !z.sameKey (.int .u64 x)) (ss ++ [x]) := by
  have hhas : mhasV L x = true := by rw [← has_ent]; exact Maps.has_true_of_atKey hat
  have hnew : x ∉ ss := fun hx => by have := ((h.mem x).1 hx).2; rw [hlk] at this; cases this
  refine ⟨List.nodup_append.2 ⟨h.nodup, by simp, fun a ha b hb => by simp at hb; subst hb; exact fun e => hnew (e ▸ ha)⟩, fun y => ?_⟩
  rw [same_u64]
  by_cases hy : y = x
  · subst hy; simp [hhas]
  · simp [h.mem y, hy]
theorem Come.perm {L : List (Nat × Value)} {left : Lit → Bool} {ss : List Nat} (h : Come L left ss) (ha : L.Pairwise fun a b => a.1 < b.1) (hl : ∀ kl, left kl = false) : ss.Perm (L.map (·.1)) := by
  refine (List.perm_ext_iff_of_nodup h.nodup (List.pairwise_map.2 (ha.imp fun hab e => by omega))).2 fun x => ?_
  rw [h.mem x, hl]
  simp only [mhasV, List.any_eq_true, beq_iff_eq, and_true, List.mem_map]
theorem keyU_inv {key : Value} {kl : Lit} (h : keyOf Tryz.prog 36 key = some kl) : ∃ x : Nat, key = .int .u64 x ∧ kl = .int .u64 x := by
  have hk := Tryz.underlying36
  cases key <;> simp [keyOf, hk, mapKey] at h
  rename_i q a
  obtain ⟨⟨rfl, hw⟩, rfl⟩ := h
  simp [Lit.wf, IntKind.min, IntKind.max, IntKind.signed, IntKind.bits] at hw
  exact ⟨a.toNat, by rw [Int.toNat_of_nonneg hw.1], by rw [Int.toNat_of_nonneg hw.1]⟩

set_option maxHeartbeats 2000000 in
/-- the keys, one by one, in some order: for every loop body that keeps what lay below n₀, maps and walks -/
theorem keys1_in (n' : Nat) (hn : 1 ≤ n') (l Bm b n₀ : Nat) (L : List (Nat × Value)) (J Jx : List Nat → World → Prop)
    (hY : ∀ pre (x : Nat) W, J pre W → pre.length < L.length → YieldAt Fence.wide (n' - 1) Tryz.prog l #[.int .u64 (x : Int)] W fun e W' =>
      (e = .returned (.bool true) ∧ J (pre ++ [x]) W' ∧ KpM n₀ W W') ∨ (e = .returned (.bool false) ∧ Jx (pre ++ [x]) W'))
    (W : World) (hJ : AbidesFrom W.heap.size J) (hm : W.cell? ⟨Bm, 0, none⟩ = some (.map (some b))) (hown : MapAt W b L) (h0 : J [] W) :
    CallsIn Fence.wide n' Tryz.prog 155 #[.func (.yield l) #[] #[], .pointer (some ⟨Bm, 0, none⟩)] W fun e W' => (∃ v, e = .returned v) ∧
      ((∃ ys : List Nat, ys.Perm (L.map (·.1)) ∧ J ys W') ∨ (∃ pre : List Nat, True ∧ Jx pre W')) := by
  have HY := Lib.hid hY
  have HJ := Lib.hid hJ
  have HA := Lib.hid hown.asc
  have hown1 := hown.own
  have HS := Lib.hid (size_ent L)
  clear hY hJ hown
  have f34 : Fence.wide.fn 155 := trivial
  refine callsIn_of_wp Tryz.func155 rfl f34 ?_ rfl
  simp only [Tryz.ntmps155, List.size_toArray, List.length_cons, List.length_nil, Nat.reduceAdd, Nat.reduceSub, Array.replicate_succ, Array.replicate_zero, List.push_toArray, List.append_toArray, List.nil_append, List.cons_append]
  gi_wp2_with (first
    | (gi_at_range; refine wpListIn_range_own _ rfl _ 99 rfl 36 126 lawU Tryz.underlying99 _ b L.length _ rfl hown1 ?_; intro w0 hrg0 hg0 hs0)
    | gi_in)
  go_frame
  gi_loopw [3] (fun _ wr => ∃ (left : Lit → Bool) (cnt : Nat) (ss : List Nat), wr.ranges Tryz.prog 36 rawE b W.heap.size L.length (mentD L) left cnt ∧ ss.length + cnt ≤ L.length ∧ Come L left ss ∧ J ss wr)
    (fun _ wr => wr.rangeLeft b W.heap.size)
  case atStart =>
    exact ⟨_, _, [], hrg0, by rw [HS.out]; simp, Come.start L, HJ.out [] W w0 none h0 hg0 (fun r e => by cases e)⟩
  case round =>
    obtain ⟨left, cnt, ss, hrg, hcs, hC, hJs⟩ := hrel
    gi_wp2_with (first
      | (gi_at_next; refine wpListIn_next_ranges _ rfl _ rfl 36 lawU rawE (fun x : Nat => .int .u64 (x : Int)) id (fun key kl hk => by obtain ⟨x, hx, _⟩ := keyU_inv hk; exact ⟨x, hx⟩) (fun v _ _ => ⟨v, rfl⟩) b W.heap.size L.length _ _ _ rfl hrg ?_ ?_)
      | gi_in)
    · intro hc0 hl0
      gi_wp2
      go_end0
      exact ⟨⟨_, rfl⟩, .inl ⟨ss, hC.perm HA.out hl0, hJs⟩⟩
    · intro x c kl yd yp w2 cnt2 hkey hlk hv hat hrg2 hlt hg2 hs2 hen
      obtain ⟨x', ex, rfl⟩ := keyU_inv hkey
      obtain rfl : x = x' := by
        simp only [Value.int.injEq, true_and, Int.ofNat_inj] at ex
        exact ex
      have hJ2 : J ss w2 := HJ.out ss wr w2 (some W.heap.size) hJs hg2 (fun r e => by cases e; exact ⟨Nat.le_refl _, hrg.iter_walk⟩)
      obtain ⟨fn, tmps, assign, body, hy, hR⟩ := HY.out ss x w2 hJ2 (by omega)
      clear hs2
      gi_wp2
      refine hR.mono ?_
      rintro e W3 (⟨rfl, hJ3, hk3⟩ | ⟨rfl, hJx3⟩)
      · gi_wp2
        have hrg3 := hrg2.of_walks hk3.2
        go_roundw
        case rel => exact ⟨_, cnt2, ss ++ [x], hrg3, by simp; omega, hC.step hlk hat, hJ3⟩
        case measure => rw [hrg3.left_eq, hrg.left_eq]; exact hlt
      · gi_wp2
        refine bodyPost_ret (results_none rfl _ _ _) rfl ?_
        exact ⟨⟨_, rfl⟩, .inr ⟨_, trivial, hJx3⟩⟩

theorem keys_in (n' : Nat) (mb : Option Nat) (w : World) :
    CallsIn Fence.wide n' Tryz.prog 114 #[.map mb] w fun e w' => e = .returned (.func (.func 155) #[] #[.pointer (some ⟨w.heap.size, 0, none⟩)]) ∧ w' = w.alloc (.cells #[.map mb] 99) := by
  have f28 : Fence.wide.fn 114 := trivial
  refine callsIn_of_wp Tryz.func114 rfl f28 ?_ rfl
  simp only [Tryz.ntmps114, List.size_toArray, List.length_cons, List.length_nil, Nat.reduceAdd, Nat.reduceSub, Array.replicate_succ, Array.replicate_zero, List.push_toArray, List.append_toArray, List.nil_append, List.cons_append]
  gi_wp2
  go_ret
  exact ⟨rfl, rfl⟩

theorem keys_stops (n' : Nat) (hn : 1 ≤ n') (Bm b n₀ : Nat) (L : List (Nat × Value)) (w : World) (hBm : w.heap[Bm]? = some (.cells #[.map (some b)] 99 (0, 0))) (hm : MapAt w b L) :
    SeqStopsK Fence.wide n' Tryz.prog 155 #[.pointer (some ⟨Bm, 0, none⟩)] (fun x : Nat => #[.int .u64 (x : Int)]) (KpM n₀)
      (fun ys => ys.Perm (L.map (·.1))) (fun _ => True) L.length w := fun l J Jx W hW hJ _ hY h0 =>
  keys1_in n' hn l Bm b n₀ L J Jx hY W hJ (by rw [cell_of_row W Bm 0 _ _ _ ((hW.block Bm (Array.getElem?_eq_some_iff.1 hBm).1).trans hBm)]; rfl) (hm.below hW) h0

theorem infoU64K : (Tryz.prog.info? 36).map (fun i => (i.zero, i.size, i.bytes)) = some (some (.int .u64 0), 1, 8) := by kernel_rfl
def numVs (P : List Nat) : List Value := P.map fun (x : Nat) => .int .u64 (x : Int)
theorem numVs_cells (P : List Nat) : P.flatMap numC = numVs P := by
  induction P with
  | nil => rfl
  | cons x P ih => rw [List.flatMap_cons, ih]; rfl

set_option maxHeartbeats 2000000 in
theorem appendKey_in (n' : Nat) (hn : 3 ≤ n') (Bm b : Nat) (L : List (Nat × Value)) (w : World) (hL : L.length ≤ 60000) (hBm : w.heap[Bm]? = some (.cells #[.map (some b)] 99 (0, 0))) (hm : MapAt w b L) :
    CallsIn Fence.wide n' Tryz.prog 181 #[.slice none 0 0, .func (.func 155) #[] #[.pointer (some ⟨Bm, 0, none⟩)]] w fun e W' =>
      ∃ (v : Value) (ys : List Nat), e = .returned v ∧ ys.Perm (L.map (·.1)) ∧ W'.ownsRow w.heap.size 36 1 v ys.length (numVs ys) ∧ Below w.heap.size w W' := by
  have h1 : 1 ≤ n' := by omega
  have hro : Fence.wide.round = none := rfl
  have f33 : Fence.wide.fn 181 := trivial
  have f34 : Fence.wide.fn 155 := trivial
  obtain ⟨i0, hi, hz0, hz1, hz2⟩ := info_parts infoU64K
  refine callsIn_of_wp_marks Tryz.func181 rfl f33 ?_ hro
  simp only [Tryz.ntmps181, List.size_toArray, List.length_cons, List.length_nil, Nat.reduceAdd, Nat.reduceSub, Array.replicate_succ, Array.replicate_zero, List.push_toArray, List.append_toArray, List.nil_append, List.cons_append]
  gi_wp2
  have bO := Boxed.new w 122 (.slice none 0 0)
  have hB0 : Below w.heap.size w (w.alloc (.cells #[.slice none 0 0] 122)) := (Below.refl _ w).alloc (Nat.le_refl _) _
  have hBl : Bm < w.heap.size := (Array.getElem?_eq_some_iff.1 hBm).1
  have hBm1 := (hB0.block Bm hBl).trans hBm
  refine wpIn_rangeFunc_ownG (encs := fun x : Nat => #[.int .u64 (x : Int)]) hro h1 (gf := 155) (lb := #[.pointer (some ⟨Bm, 0, none⟩)]) rfl f34 (enters_of Tryz.func155 (by kernel_rfl) rfl)
    (keys_stops (n' - 1) (by omega) Bm b w.heap.size L _ hBm1 (hm.below hB0)) kpm_t (kpm_b (by simp)) (Below.refl _ _) (fun _ => rfl)
    (fun (pre : List Nat) W => (∃ v, Boxed W w.heap.size 122 v ∧ W.ownsRow w.heap.size 36 1 v pre.length (numVs pre) ∧ True) ∧ Below w.heap.size w W)
    (fun _ _ _ => False)
    (OwnFrom.and (Own.from (holdsRow_own w.heap.size w.heap.size 122 36 1 (fun (pre : List Nat) => pre.length) (fun (pre : List Nat) => numVs pre) (fun _ _ => True)) _) (ownFrom_below (Nat.le_refl _) (by simp)))
    (fun _ _ _ _ _ hs _ _ => hs)
    ⟨⟨_, bO, World.ownsRow_nil _ _ _ _, trivial⟩, hB0⟩
    (fun x => { tmps := #[.slice none 0 0, .func (.func 155) #[] #[.pointer (some ⟨Bm, 0, none⟩)], .pointer (some ⟨w.heap.size, 0, none⟩), undef, .slice none 0 0, .int .u64 (x : Int), .func (.func 155) #[] #[.pointer (some ⟨Bm, 0, none⟩)], .int .u64 (x : Int), undef, undef, undef, undef, undef], defers := [] }) ?assign ?body ?done ?stop
  case assign =>
    intro l x W K hK
    gi_wp2
    exact hK
  case body =>
    rintro l pre x W ⟨⟨v, hv, hrow, _⟩, hB⟩ hlt2
    have hc := hv.cell
    gi_wp2_with (gi_at_builtin; refine wpListIn_append_own _ rfl _ _ 122 rfl w.heap.size 36 i0 (.int .u64 0) 1 8 Tryz.underlying122 hi hz0 hz1 hz2 rfl (by decide) _ _ _ rfl (hrow.alloc _) ⟨W.heap.size, 0, none⟩ 1 1 [.int .u64 (x : Int)] rfl rfl (cell_one_new _ _ _) (by simp [Value.oneCell']) (by unfold maxLen; omega) (by omega) (by have := hB.size; simp; omega) ?_; intro v' w1 hown' hgrow _; obtain ⟨g', cap', rfl⟩ := ownsRow_succ hown'; obtain ⟨hv1, hv2, hr2, hk2, hb2⟩ := hv.appended (by decide) hrow hB.size (Nat.le_refl _) hown' hgrow; have hc1 := hv1.cell; have hf1 := hv1.frozen)
    exact ⟨hk2.from _, ⟨hb2, hk2.walks⟩, ⟨_, hv2, by simpa [numVs] using hr2, trivial⟩, hB.trans hb2⟩
  case done =>
    rintro D ys W hD hys ⟨⟨v, hv, hrow, _⟩, hB⟩ hK
    have hc := hv.cell
    gi_wp2
    refine ⟨by simp, .inl ⟨_, _, rfl, run_takeDeferred hK, ?_⟩⟩
    exact ⟨_, results_tmp rfl _ _ _, v, ys, rfl, hys, ownsRow_putObj hrow _ hK rfl, hB.trans (belowK_b (w := w) (Nat.le_refl _) W D _ _ (by simp at hD; omega) hK rfl rfl)⟩
  case stop =>
    rintro D c pre W _ _ h _
    exact h.elim

theorem collectKey_in (n' : Nat) (hn : 4 ≤ n') (Bm b : Nat) (L : List (Nat × Value)) (w : World) (hL : L.length ≤ 60000) (hBm : w.heap[Bm]? = some (.cells #[.map (some b)] 99 (0, 0))) (hm : MapAt w b L) :
    CallsIn Fence.wide n' Tryz.prog 153 #[.func (.func 155) #[] #[.pointer (some ⟨Bm, 0, none⟩)]] w fun e W' =>
      ∃ (v : Value) (ys : List Nat), e = .returned v ∧ ys.Perm (L.map (·.1)) ∧ W'.ownsRow w.heap.size 36 1 v ys.length (numVs ys) ∧ Below w.heap.size w W' := by
  have f27 : Fence.wide.fn 153 := trivial
  have CA := Lib.hid (appendKey_in (n' - 1) (by omega) Bm b L w hL hBm hm)
  clear hBm hm
  refine callsIn_of_wp Tryz.func153 rfl f27 ?_ rfl
  simp only [Tryz.ntmps153, List.size_toArray, List.length_cons, List.length_nil, Nat.reduceAdd, Nat.reduceSub, Array.replicate_succ, Array.replicate_zero, List.push_toArray, List.append_toArray, List.nil_append, List.cons_append]
  gi_wp2
  refine ⟨trivial, fun _ => by omega, ?_⟩
  refine (CA.out).mono ?_
  rintro e w1 ⟨v, ys, rfl, hp, hr, hb⟩
  gi_wp2
  go_ret
  exact ⟨v, ys, rfl, hp, hr, hb⟩

theorem keys_any (b : Nat) (w : World) : Calls Tryz.prog 114 #[.map (some b)] w fun e w' => e = .returned (.func (.func 155) #[] #[.pointer (some ⟨w.heap.size, 0, none⟩)]) ∧ w' = w.alloc (.cells #[.map (some b)] 99) := callsIn_wide.1 (keys_in 1 (some b) w)

/-- the keys of a map, sorted, in memory of the call's own -/
def KeysTo (K : List Nat) (w : World) (e : Ending) (w' : World) : Prop := ∃ v, e = .returned v ∧ Recs numC w' 36 1 v K ∧ (∀ q, v.ownBlock = some q → w.heap.size ≤ q) ∧ Below w.heap.size w w'
theorem keys_asc {L : List (Nat × Value)} (h : L.Pairwise fun a b => a.1 < b.1) (ys ss : List Nat) (h1 : ys.Perm (L.map (·.1))) (h2 : ss.Perm ys) (h3 : ss.Pairwise (· ≤ ·)) : ss = L.map (·.1) :=
  List.Perm.eq_of_pairwise (le := fun a b => a ≤ b) (fun a b _ _ h1 h2 => Nat.le_antisymm h1 h2) h3 (List.pairwise_map.2 (h.imp fun hab => Nat.le_of_lt hab)) (h2.trans h1)
theorem owned_zero {w : World} {B : Nat} {t : TypeId} {sz n : Nat} {v : Value} {xs : List Value} (h : w.ownsRow B t sz v n xs) : w.ownsRow 0 t sz v n xs := by
  obtain ⟨h1, h2⟩ := h
  refine ⟨h1, ?_⟩
  rcases h2 with h2 | ⟨g, cap, cur, a1, a2, a3⟩
  · exact .inl h2
  · exact .inr ⟨g, cap, cur, a1, Nat.zero_le _, a3⟩
theorem recs_num {w : World} {B : Nat} {v : Value} {ys : List Nat} (h : w.ownsRow B 36 1 v ys.length (numVs ys)) : Recs numC w 36 1 v ys :=
  ⟨fun _ _ => rfl, fun x _ u hu => by simp [numC] at hu; subst hu; rfl, by rw [numVs_cells]; exact owned_zero h⟩

set_option maxHeartbeats 4000000 in
theorem sortedkeys_any (Bm b : Nat) (L : List (Nat × Value)) (w : World) (hL : L.length ≤ 60000) (hBm : w.heap[Bm]? = some (.cells #[.map (some b)] 99 (0, 0))) (hm : MapAt w b L) :
    Calls Tryz.prog 113 #[.func (.func 155) #[] #[.pointer (some ⟨Bm, 0, none⟩)]] w (KeysTo (L.map (·.1)) w) := by
  have CC := Lib.hid (callsIn_wide.1 (collectKey_in 4 (by omega) Bm b L w hL hBm hm))
  have HA := Lib.hid hm.asc
  have hll : (L.map (·.1)).length = L.length := by simp
  have HLL := Lib.hid hll
  clear hBm hm hll
  go_enter Tryz.func113, Tryz.ntmps113
  go_wp2_with fail
  refine CC.out.mono ?_
  rintro e w1 ⟨v, ys, rfl, hp, hr, hb⟩
  have hR := recs_num hr
  have hlen : ys.length ≤ 60000 := by have := hp.length_eq; have := HLL.out; omega
  have hblk := fun q hq => (hr.lt q hq).1
  have HP := Lib.hid hp
  have HB := Lib.hid hb
  have HBL := Lib.hid hblk
  rcases hr.2 with ⟨rfl, hz⟩ | ⟨g, cap, cur, rfl, _, _, _, _, _, _⟩
  · have hy0 : ys = [] := List.eq_nil_of_length_eq_zero hz
    subst hy0
    have hKn : L.map (·.1) = [] := by have := hp.length_eq; exact List.eq_nil_of_length_eq_zero this.symm
    have HK := Lib.hid hKn
    clear hr hp hb hblk hR hKn
    go_wp2_with fail
    refine (sort_nil _).mono ?_
    rintro e w2 ⟨rfl, rfl⟩
    go_wp2
    go_ret
    exact ⟨_, rfl, by rw [HK.out]; exact Recs.nil _ _ _ _, fun q hq => by simp [Value.ownBlock] at hq, HB.out⟩
  · have CS := Lib.hid (sort_any g ys.length cap ys w1 hR (by omega))
    clear hr hp hb hblk hR
    go_wp2_with fail
    refine CS.out.mono ?_
    rintro e w2 ⟨ss, hsp, hss, rfl, hr2, ho⟩
    have hK := keys_asc HA.out ys ss HP.out hsp hss
    subst hK
    go_wp2
    go_ret
    exact ⟨_, rfl, hr2, HBL.out, HB.out.trans (ho.below HB.out.size fun i hi e => by
      have := HBL.out g (by simp [Value.ownBlock]); omega)⟩

end Go.Proofs.YtjcmphjjkeigjaaGreat

namespace Go.Proofs.YtjcmphjjkeigjaaGreat
open Go.RowKit
set_option linter.unusedVariables false
set_option linter.unusedSimpArgs false

structure PutM where
  at_ : Int
  a : Option Addr
  n : Nat
  cap : Nat
  b : List UInt8
deriving Inhabited

def putC (x : PutM) : List Value := [.int .i64 x.at_, .slice x.a x.n x.cap]
def PutM.pt (x : PutM) : Pt := (x.at_, x.b)

/-- a slice of puts: all that it has lies in U -/
structure PutsIn (w : World) (U : Nat → Prop) (a : Option Addr) (n cap : Nat) (M : List PutM) : Prop where
  came : CameAt putC 2 w a n cap M
  lt : ∀ k, U k → k < w.heap.size
  inA : ∀ p, a = some p → U p.block
  bytes : ∀ x ∈ M, BytesAt w x.a x.n x.cap x.b
  inB : ∀ x ∈ M, ∀ p, x.a = some p → U p.block

theorem putC_length (x : PutM) : (putC x).length = 2 := rfl
theorem putC_one (x : PutM) : ∀ u ∈ putC x, u.oneCell' = true := by
  intro u hu
  simp only [putC, List.mem_cons, List.not_mem_nil, or_false] at hu
  rcases hu with rfl | rfl <;> rfl

section
variable {w w' : World} {U S : Nat → Prop} {a : Option Addr} {n cap : Nat} {M : List PutM}
theorem BytesAt.keepB {a : Option Addr} {n cap : Nat} {l : List UInt8} (h : BytesAt w a n cap l) (hk : ∀ p, a = some p → w'.heap[p.block]? = w.heap[p.block]?) : BytesAt w' a n cap l := by
  obtain ⟨h1, h2, h3, h4⟩ := h
  refine ⟨h1, h2, h3, ?_⟩
  rcases h4 with h4 | ⟨x, rfl, hx⟩
  · exact .inl h4
  · exact .inr ⟨x, rfl, fun i hi => by rw [World.cell?_of_block (w := w) (by rw [add_block]; exact hk x rfl)]; exact hx i hi⟩
theorem PutsIn.keep (h : PutsIn w U a n cap M) (hs : w.heap.size ≤ w'.heap.size) (hk : ∀ k, U k → w'.heap[k]? = w.heap[k]?) : PutsIn w' U a n cap M :=
  ⟨h.came.keep (by omega) fun p hp _ _ => hk _ (h.inA p hp), fun k hU => Nat.lt_of_lt_of_le (h.lt k hU) hs, h.inA, fun x hx => (h.bytes x hx).keepB fun p hp => hk _ (h.inB x hx p hp), h.inB⟩
theorem PutsIn.only (h : PutsIn w U a n cap M) (ho : Only S w w') (hS : ∀ k, U k → ¬ S k) : PutsIn w' U a n cap M := h.keep ho.size fun k hU => ho.block k (h.lt k hU) (hS k hU)
theorem PutsIn.below (h : PutsIn w U a n cap M) (hb : Below w.heap.size w w') : PutsIn w' U a n cap M := h.keep hb.size fun k hU => hb.block k (h.lt k hU)
theorem PutsIn.more {V : Nat → Prop} (h : PutsIn w U a n cap M) (hV : ∀ k, U k → V k) (hlt : ∀ k, V k → k < w.heap.size) : PutsIn w V a n cap M :=
  ⟨h.came, hlt, fun p hp => hV _ (h.inA p hp), h.bytes, fun x hx p hp => hV _ (h.inB x hx p hp)⟩
theorem PutsIn.nil (w : World) (U : Nat → Prop) (hU : ∀ k, U k → k < w.heap.size) : PutsIn w U none 0 0 [] :=
  ⟨CameAt.nil _ _ _, hU, by simp, by simp, by simp⟩
theorem PutsIn.len (h : PutsIn w U a n cap M) : n ≤ 9223372036854775807 := by
  have := h.came.2.1; have := h.came.2.2.1; unfold maxLen at *; omega
theorem PutsIn.mlen (h : PutsIn w U a n cap M) : M.length = n := h.came.1
end

/-- cells of the k-th put, as a walk wants them -/
theorem PutsIn.at {w : World} {U : Nat → Prop} {a : Option Addr} {n cap : Nat} {M : List PutM} (h : PutsIn w U a n cap M) (hn : 0 < n) :
    ∃ b off, a = some ⟨b, off, none⟩ ∧ U b ∧ ∀ k, k < n → w.cell? ⟨b, off + k * 2 + 0, none⟩ = some (.int .i64 (M.getD k default).at_) ∧ w.cell? ⟨b, off + k * 2 + 1, none⟩ = some (.slice (M.getD k default).a (M.getD k default).n (M.getD k default).cap) ∧ w.rangeAt b (off + k * 2) (putC (M.getD k default)) := by
  obtain ⟨b, off, rfl, hb, hc⟩ := h.came.at hn (by omega)
  refine ⟨b, off, rfl, h.inA _ rfl, fun k hk => ?_⟩
  have hx : M[k]? = some (M.getD k default) := by rw [List.getD, List.getElem?_eq_getElem (by rw [h.mlen]; exact hk)]; rfl
  have c0 := hc k 0 _ hx (by omega)
  have c1 := hc k 1 _ hx (by omega)
  refine ⟨by rw [Nat.add_assoc]; exact c0, by rw [Nat.add_assoc]; exact c1, fun j u hu => ?_⟩
  have hj : j < 2 := by rw [← putC_length (M.getD k default)]; exact (List.getElem?_eq_some_iff.1 hu).1
  rw [Nat.add_assoc, hc k j _ hx hj, hu]
theorem PutsIn.mem {w : World} {U : Nat → Prop} {a : Option Addr} {n cap : Nat} {M : List PutM} (h : PutsIn w U a n cap M) (k : Nat) (hk : k < n) : M.getD k default ∈ M := by
  have hl : k < M.length := by rw [h.mlen]; exact hk
  rw [List.getD, List.getElem?_eq_getElem hl]
  exact List.getElem_mem hl
theorem pts_getD (M : List PutM) (k : Nat) (hk : k < M.length) : (M.map PutM.pt).getD k (0, []) = (M.getD k default).pt := by
  rw [List.getD, List.getElem?_map, List.getD, List.getElem?_eq_getElem hk]; rfl
theorem pts_drop (M : List PutM) (k : Nat) (hk : k < M.length) : (M.map PutM.pt).drop k = (M.getD k default).pt :: (M.map PutM.pt).drop (k + 1) := by
  rw [List.drop_eq_getElem_cons (by simpa using hk)]
  congr 1
  rw [List.getElem_map, List.getD, List.getElem?_eq_getElem hk]; rfl

/-- the value v is this step -/
def StepIs (w : World) (U : Nat → Prop) (g : Nat) (v : Value) : Stp → Prop
  | .flush => v = .func (.func 28) #[.pointer (some ⟨g, 0, none⟩)] #[]
  | .write L => ∃ bl bd a n cap M, v = .func (.func 132) #[] #[.pointer (some ⟨bl, 0, none⟩), .pointer (some ⟨bd, 0, none⟩)] ∧ U bl ∧ U bd ∧
      w.heap[bl]? = some (.cells #[.slice a n cap] 104 (0, 0)) ∧ w.heap[bd]? = some (.cells #[.pointer (some ⟨g, 0, none⟩)] 23 (0, 0)) ∧ PutsIn w U a n cap M ∧ M.map PutM.pt = L

theorem StepIs.keep {w w' : World} {U : Nat → Prop} {g : Nat} {v : Value} {s : Stp} (h : StepIs w U g v s) (hs : w.heap.size ≤ w'.heap.size) (hk : ∀ k, U k → w'.heap[k]? = w.heap[k]?) : StepIs w' U g v s := by
  cases s with
  | flush => exact h
  | write L =>
    obtain ⟨bl, bd, a, n, cap, M, h1, h2, h3, h4, h5, h6, h7⟩ := h
    exact ⟨bl, bd, a, n, cap, M, h1, h2, h3, (hk bl h2).trans h4, (hk bd h3).trans h5, h6.keep hs hk, h7⟩
theorem StepIs.more {w : World} {U V : Nat → Prop} {g : Nat} {v : Value} {s : Stp} (h : StepIs w U g v s) (hV : ∀ k, U k → V k) (hlt : ∀ k, V k → k < w.heap.size) : StepIs w V g v s := by
  cases s with
  | flush => exact h
  | write L =>
    obtain ⟨bl, bd, a, n, cap, M, h1, h2, h3, h4, h5, h6, h7⟩ := h
    exact ⟨bl, bd, a, n, cap, M, h1, hV _ h2, hV _ h3, h4, h5, h6.more hV hlt, h7⟩

end Go.Proofs.YtjcmphjjkeigjaaGreat

namespace Go.Proofs.YtjcmphjjkeigjaaGreat
open Go.RowKit
set_option linter.unusedVariables false
set_option linter.unusedSimpArgs false

theorem step_int (w : Nat) (h : w < 4294967296) :
    bits .xor .u32 ((w : Int) / 2) (IntKind.u32.wrap (3988292384 * bits .and .u32 (w : Int) 1)) = ((step w : Nat) : Int) := by
  have h1 : bits .and .u32 (w : Int) 1 = ((w % 2 : Nat) : Int) := by
    have := u32_and_nat w 1 h (by omega)
    rw [Nat.and_one_is_mod] at this
    exact this
  have h2 : ((w : Int) / 2) = ((w / 2 : Nat) : Int) := by simp
  rw [h1, h2]
  unfold step poly
  by_cases hw : w % 2 = 1
  · rw [if_pos hw, hw, show IntKind.u32.wrap (3988292384 * ((1 : Nat) : Int)) = ((3988292384 : Nat) : Int) by rfl, u32_xor_nat _ _ (by omega) (by omega)]
  · rw [if_neg hw, show w % 2 = 0 by omega, show IntKind.u32.wrap (3988292384 * ((0 : Nat) : Int)) = ((0 : Nat) : Int) by rfl, u32_xor_nat _ _ (by omega) (by omega), Nat.xor_zero]

theorem shift_any (v : Nat) (w : World) (h : v < 4294967296) :
    Calls Tryz.prog 184 #[.int .u32 v] w fun e w' => e = .returned (.int .u32 (steps 8 v : Nat)) ∧ w = w' := by
  go_enter Tryz.func184, Tryz.ntmps184
  go_wp2
  go_loop [0, 3] (fun x i => ∃ k u : Nat, k ≤ 8 ∧ i = .int .i64 k ∧ x = .int .u32 u ∧ u < 4294967296 ∧ steps (8 - k) u = steps 8 v) (fun _ i => 8 - (intOf i).toNat)
  case atStart => exact ⟨0, v, by omega, rfl, rfl, h, rfl⟩
  case round =>
    obtain ⟨k, u, hk, rfl, rfl, hu, hs⟩ := hrel
    have HS := Lib.hid hs
    clear hs
    by_cases hlt : k < 8
    · have h8 : 8 - k = (8 - (k + 1)) + 1 := by omega
      have H8 := Lib.hid h8
      have HI := Lib.hid (step_int u hu)
      clear h8
      go_wp2
      go_round
      case rel =>
        refine ⟨k + 1, step u, by omega, by go_num, ?_, step_lt u hu, by rw [← HS.out, H8.out]; rfl⟩
        exact congrArg _ HI.out
      case measure => simp [intOf]; omega
    · obtain rfl : k = 8 := by omega
      go_wp2
      go_ret
      have h0 := HS.out
      simp only [Nat.sub_self] at h0
      exact ⟨congrArg (fun n : Nat => Ending.returned (.int .u32 (n : Int))) h0, rfl⟩

/-- the table whose first m entries are laid -/
def tabC (m : Nat) : Array Value := ((List.range 256).map fun i => if i < m then .int .u32 (steps 8 i : Nat) else .int .u32 0).toArray

theorem tabC_size (m : Nat) : (tabC m).size = 256 := by simp [tabC]
theorem tabC_at (m i : Nat) (h : i < 256) : (tabC m)[i]? = some (if i < m then .int .u32 (steps 8 i : Nat) else .int .u32 0) := by
  simp [tabC, h]
theorem tabC_set (m : Nat) (h : m < 256) : (tabC m).setIfInBounds m (.int .u32 (steps 8 m : Nat)) = tabC (m + 1) := by
  apply Array.ext_getElem?
  intro i
  rw [Array.getElem?_setIfInBounds, tabC_size]
  by_cases hi : i < 256
  · rw [tabC_at _ _ hi, tabC_at _ _ hi]
    by_cases he : m = i
    · subst he; simp [h]
    · rw [if_neg he]
      by_cases hl : i < m
      · rw [if_pos hl, if_pos (by omega)]
      · rw [if_neg hl, if_neg (by omega)]
  · rw [if_neg (by omega), Array.getElem?_eq_none (by rw [tabC_size]; omega), Array.getElem?_eq_none (by rw [tabC_size]; omega)]
theorem tabC_one (m : Nat) : (tabC m).all (·.oneCell') = true := by
  refine Array.all_eq_true_iff_forall_mem.2 fun v hv => ?_
  simp only [tabC, List.mem_toArray, List.mem_map] at hv
  obtain ⟨i, _, rfl⟩ := hv
  by_cases h : i < m
  · rw [if_pos h]; rfl
  · rw [if_neg h]; rfl
theorem tabC_zero : tabC 0 = Array.replicate 256 (.int .u32 0) := by
  apply Array.ext_getElem?
  intro i
  by_cases hi : i < 256
  · rw [tabC_at _ _ hi]; simp [Array.getElem?_replicate, hi]
  · rw [Array.getElem?_eq_none (by rw [tabC_size]; omega), Array.getElem?_eq_none (by simp; omega)]
theorem tabC_01 : tabC 1 = tabC 0 := by
  have := tabC_set 0 (by omega)
  rw [← this]
  apply Array.ext_getElem?
  intro i
  rw [Array.getElem?_setIfInBounds, tabC_size]
  by_cases hi : 0 = i
  · subst hi; rw [tabC_at _ _ (by omega)]; rfl
  · rw [if_neg hi]

theorem infoTab : (Tryz.prog.info? 232).map (fun i => (i.zero, i.size)) = some (some (.agg (Array.replicate 256 (.int .u32 0))), 256) := by kernel_rfl
theorem sizeTab : (Tryz.prog.info? 232).map (·.size) = some 256 := (zero_of_info infoTab).2

def TabW (w wx : World) (m : Nat) : Prop :=
  wx.heap[w.heap.size]? = some (.cells (tabC 0) 232 (0, 0)) ∧ wx.heap[w.heap.size + 1]? = some (.cells (tabC m) 232 (0, 0)) ∧ Below w.heap.size w wx ∧ wx.heap.size = w.heap.size + 2

theorem TabW.set {w wx : World} {m : Nat} (h : TabW w wx m) (hm : m < 256) : TabW w (wx.setCell ⟨w.heap.size + 1, m, none⟩ (.int .u32 (steps 8 m : Nat))) (m + 1) := by
  obtain ⟨h1, h2, h3, h4⟩ := h
  refine ⟨?_, ?_, h3.setCell (by simp) _, by simpa using h4⟩
  · rw [heap_setCell_other _ _ _ _ (by simp)]; exact h1
  · rw [heap_setCell_same _ _ _ _ _ _ h2, tabC_set m hm]
theorem TabW.cell {w wx : World} {m : Nat} (h : TabW w wx m) (i : Nat) (hi : i < m) (hm : i < 256) : wx.cell? ⟨w.heap.size + 1, i, none⟩ = some (.int .u32 (steps 8 i : Nat)) := by
  rw [cell_of_row _ _ _ _ _ _ h.2.1, tabC_at _ _ hm, if_pos hi]
theorem TabW.old {w wx : World} {m : Nat} (h : TabW w wx m) (i : Nat) (hi : m ≤ i) (hm : i < 256) : wx.cell? ⟨w.heap.size + 1, i, none⟩ = some (.int .u32 0) := by
  rw [cell_of_row _ _ _ _ _ _ h.2.1, tabC_at _ _ hm, if_neg (by omega)]
theorem TabW.free {w wx : World} {m : Nat} (h : TabW w wx m) (i : Nat) : wx.frozen? ⟨w.heap.size + 1, i, none⟩ = false := frozen_of_row _ _ _ _ _ h.2.1
theorem TabW.drewN {w wx : World} {m : Nat} (h : TabW w wx m) (n : Nat) : TabW w (wx.drewN n) m := ⟨h.1, h.2.1, below_drewN h.2.2.1 n, h.2.2.2⟩
theorem TabW.drew {w wx : World} {m : Nat} (h : TabW w wx m) : TabW w wx.drew m := h.drewN 1

set_option maxHeartbeats 1000000 in
set_option maxRecDepth 100000 in
theorem table_any (w : World) :
    Calls Tryz.prog 156 #[] w fun e w' => e = .returned (.agg (tabC 256)) ∧ Below w.heap.size w w' := by
  have hz := (zero_of_info infoTab).1
  rw [← tabC_zero] at hz
  go_enter Tryz.func156, Tryz.ntmps156
  go_wp2
  have h00 : TabW w ((w.alloc (.cells (tabC 0) 232)).alloc (.cells (tabC 0) 232)) 1 :=
    ⟨heap_alloc2_old w _ _, by rw [tabC_01]; exact heap_alloc2_new w _ _, ((Below.refl _ _).alloc (Nat.le_refl _) _).alloc (by simp) _, by simp⟩
  have H00 := Lib.hid h00
  clear h00
  generalize (w.alloc (.cells (tabC 0) 232)).alloc (.cells (tabC 0) 232) = w00 at *
  go_loopw [2] (fun b wx => ∃ (m : Nat), b = .int .i64 m ∧ 1 ≤ m ∧ m ≤ 256 ∧ (∃ j, m = 2 ^ j) ∧ TabW w wx m) (fun b _ => 256 - (intOf b).toNat)
  case atStart => exact ⟨1, rfl, by omega, by omega, ⟨0, rfl⟩, H00.out⟩
  case round =>
    obtain ⟨m, rfl, hm1, hm2, hj, ht⟩ := hrel
    have HJ := Lib.hid hj
    clear hj
    have HT := Lib.hid ht
    clear ht
    by_cases hlt : m < 256
    · have hcell := HT.out.old m (by omega) hlt
      have hfree := HT.out.free m
      go_wp2_with (go_at_call 184; refine (shift_any _ _ (by omega)).mono ?_; rintro e w' ⟨rfl, rfl⟩)
      have h01 := HT.out.set hlt
      have H01 := Lib.hid h01
      clear h01 hcell hfree
      generalize wr.setCell ⟨w.heap.size + 1, m, none⟩ (.int .u32 (steps 8 m : Nat)) = w01 at *
      obtain ⟨wo, rfl⟩ : ∃ wo : World, wo = wr := ⟨_, rfl⟩
      clear HT
      have hm3 : m ≤ 128 := by
        obtain ⟨j, rfl⟩ := HJ.out
        by_cases hj : j < 8
        · have := Nat.pow_le_pow_right (n := 2) (by omega) (show j ≤ 7 by omega)
          omega
        · have := Nat.pow_le_pow_right (n := 2) (by omega) (show 8 ≤ j by omega)
          omega
      go_loopw [3] (fun r wx => ∃ (k : Nat), r = .int .i64 k ∧ 1 ≤ k ∧ k ≤ m ∧ TabW w wx (m + k)) (fun r _ => m - (intOf r).toNat)
      case atStart => exact ⟨1, rfl, by omega, by omega, H01.out⟩
      case round =>
        obtain ⟨k, rfl, hk1, hk2, ht⟩ := hrel
        have HT := Lib.hid ht
        clear ht
        by_cases hlk : k < m
        · have hc1 := HT.out.cell m (by omega) (by omega)
          have hc2 := HT.out.cell k (by omega) (by omega)
          have hc3 := HT.out.old (m + k) (by omega) (by omega)
          have hf3 := HT.out.free (m + k)
          have hx : bits .xor .u32 (steps 8 m : Nat) (steps 8 k : Nat) = ((steps 8 (m + k) : Nat) : Int) := by
            rw [u32_xor_nat _ _ (steps_lt _ _ (by omega)) (steps_lt _ _ (by omega))]
            obtain ⟨j, hj⟩ := HJ.out
            rw [tab_add m k j hj hlk]
          have HX := Lib.hid hx
          clear hx
          have hmk : (m : Int) + (k : Int) < 256 := by omega
          go_wp2
          go_region
          go_wp2
          go_roundw
          case rel =>
            refine ⟨k + 1, by go_num, by omega, by omega, ?_⟩
            rw [HX.out]
            exact (HT.out.set (by omega)).drew
          case measure => simp [intOf]; omega
        · obtain rfl : k = m := by omega
          go_wp2
          go_roundw
          case rel =>
            refine ⟨2 * k, by go_num, by omega, by omega, ?_, by rw [Nat.two_mul]; exact HT.out⟩
            obtain ⟨j, hj⟩ := HJ.out
            exact ⟨j + 1, by rw [hj, Nat.pow_succ]; omega⟩
          case measure => simp [intOf]; omega
    · obtain rfl : m = 256 := by omega
      obtain ⟨t1, t2, t3, t4⟩ := HT.out
      go_wp2_with (first
        | (refine wpList_load_row rfl _ _ rfl (w.heap.size + 1) rfl 232 (tabC 256) (0, 0) _ t2 Tryz.underlying232 rfl (by rw [tabC_size]; exact sizeTab) ?_)
        | (refine wpList_store_row rfl _ _ _ rfl w.heap.size (tabC 256) rfl rfl 232 (tabC 0) t1 (by rw [tabC_size]; exact sizeTab) (by simp only [tabC_size]) (tabC_one _) ?_))
      refine bodyPost_ret (v := .agg (tabC 256)) (results_cell_row rfl _ _ w.heap.size 232 (tabC 256) (0, 0) _ rfl ?_ Tryz.underlying232 rfl (by rw [tabC_size]; exact sizeTab)) rfl ⟨rfl, ?_⟩
      · exact heap_setRow_same _ _ _ _ _ t1
      · exact below_setRow t3 (Nat.le_refl _) _

end Go.Proofs.YtjcmphjjkeigjaaGreat

namespace Go.Proofs.YtjcmphjjkeigjaaGreat
open Go.RowKit
set_option linter.unusedVariables false
set_option linter.unusedSimpArgs false

theorem ret_int {k : IntKind} {a b : Int} (h : a = b) : Ending.returned (.int k a) = .returned (.int k b) := by rw [h]

theorem not_int (s : Nat) (hs : s < 4294967296) : bits .xor .u32 IntKind.u32.max (s : Int) = ((ones - s : Nat) : Int) := by
  have e : IntKind.u32.max = ((4294967295 : Nat) : Int) := by rfl
  rw [e, u32_xor_nat _ _ (by omega) hs, not_eq_xor s hs, Nat.xor_comm]
  rfl

theorem low_xor (u o : Nat) (hu : u < 4294967296) (ho : o < 256) : bits .xor .u8 ((u : Int) % 256) (o : Int) = ((u % 256 ^^^ o : Nat) : Int) := by
  have e : (u : Int) % 256 = ((u % 256 : Nat) : Int) := by simp
  rw [e, u8_xor_nat _ _ (by omega) ho]

theorem more_step (u o : Nat) (hu : u < 4294967296) (ho : o < 256) : bits .xor .u32 ((u : Int) / 256) (steps 8 (u % 256 ^^^ o) : Nat) = ((steps 8 (u ^^^ o) : Nat) : Int) := by
  have e : (u : Int) / 256 = ((u / 256 : Nat) : Int) := by simp
  have hx : u % 256 ^^^ o < 2 ^ 8 := Nat.xor_lt_two_pow (by omega) (by omega)
  rw [e, u32_xor_nat _ _ (by omega) (steps_lt _ _ (by omega)), by_table u o ho]

theorem goL_take (l : List UInt8) (k u : Nat) (h : k < l.length) : goL u (l.take (k + 1)) = steps 8 (goL u (l.take k) ^^^ (l.getD k 0).toNat) := by
  rw [List.take_succ_eq_append_getElem h, goL_snoc]
  simp [List.getD, List.getElem?_eq_getElem h]

set_option maxHeartbeats 1000000 in
set_option maxRecDepth 100000 in
theorem more_any (s : Nat) (a : Option Addr) (n cap : Nat) (l : List UInt8) (w : World) (hs : s < 4294967296) (hl : BytesAt w a n cap l) :
    Calls Tryz.prog 115 #[.int .u32 s, .slice a n cap] w fun e w' => e = .returned (.int .u32 (moreL s l : Nat)) ∧ Below w.heap.size w w' := by
  have hz := (zero_of_info infoTab).1
  rw [← tabC_zero] at hz
  have HL := Lib.hid hl
  clear hl
  have HZ := Lib.hid (zero_of_info infoTab)
  have hn : n ≤ 9223372036854775807 := by have h1 := HL.out.2.1; have h2 := HL.out.2.2.1; unfold maxLen at h2; omega
  go_enter Tryz.func115, Tryz.ntmps115
  go_wp2_with (first
    | (go_at_call 156; refine (table_any _).mono ?_; rintro e w1 ⟨rfl, hb1⟩)
    | (refine wpList_store_row rfl _ _ _ rfl w1.heap.size (tabC 256) rfl rfl 232 (tabC 0) (heap_alloc_new w1 _) (by rw [tabC_size]; exact sizeTab) (by simp only [tabC_size]) (tabC_one _) ?_))
  have h0 : ones - s < 4294967296 := by unfold ones; omega
  have hall : Below w.heap.size w ((w1.alloc (.cells (tabC 0) 232)).setRow w1.heap.size (tabC 256)) :=
    below_setRow (hb1.alloc hb1.size _) hb1.size _
  have htab := heap_setRow_same (w1.alloc (.cells (tabC 0) 232)) w1.heap.size (tabC 256) _ _ (heap_alloc_new w1 _)
  have HL2 := Lib.hid (HL.out.below hall)
  have HA := Lib.hid hall
  have HT := Lib.hid htab
  have HNOT := Lib.hid (not_int s hs)
  clear hall htab hb1
  generalize (w1.alloc (.cells (tabC 0) 232)).setRow w1.heap.size (tabC 256) = w2 at *
  go_loop [6, 14] (fun x i => ∃ k u : Nat, k ≤ n ∧ i = .int .i64 k ∧ x = .int .u32 u ∧ u < 4294967296 ∧ u = goL (ones - s) (l.take k)) (fun _ i => n - (intOf i).toNat)
  case atStart => exact ⟨0, ones - s, by omega, rfl, by rw [HNOT.out], h0, by simp [goL_nil]⟩
  case round =>
    obtain ⟨k, u, hk, rfl, rfl, hu, hs⟩ := hrel
    have HS := Lib.hid hs
    clear hs
    by_cases hlt : k < n
    · obtain ⟨b, off, rfl, hc⟩ := HL2.out.at (by omega)
      have hck := hc k hlt
      clear hc
      have ho : (l.getD k 0).toNat < 256 := (l.getD k 0).toNat_lt
      have hgo := goL_take l k (ones - s) (by rw [HL.out.1]; exact hlt)
      have HGO := Lib.hid hgo
      clear hgo
      generalize (l.getD k 0).toNat = o at *
      have hx : u % 256 ^^^ o < 2 ^ 8 := Nat.xor_lt_two_pow (by omega) (by omega)
      have hcell : w2.cell? ⟨w1.heap.size, u % 256 ^^^ o, none⟩ = some (.int .u32 (steps 8 (u % 256 ^^^ o) : Nat)) := by
        rw [cell_of_row _ _ _ _ _ _ HT.out, tabC_at _ _ (by omega), if_pos (by omega)]
      have hlow := low_xor u o hu ho
      have HM := Lib.hid (more_step u o hu ho)
      have hx2 : ((u % 256 ^^^ o : Nat) : Int) < 256 := by omega
      go_wp2
      refine ⟨⟨k + 1, steps 8 (u ^^^ o), by omega, by go_num, by rw [HM.out], steps_lt _ _ (Nat.xor_lt_two_pow (n := 32) (by omega) (by omega)), by rw [HGO.out, HS.out]⟩, by simp [intOf]; omega⟩
    · obtain rfl : k = n := by omega
      have hfin : ones - u = moreL s l := by
        unfold moreL
        rw [HS.out, List.take_of_length_le (Nat.le_of_eq HL.out.1)]
      have HN2 := Lib.hid (not_int u hu)
      have HFIN := Lib.hid hfin
      clear hfin
      go_wp2
      go_ret
      exact ⟨ret_int (HN2.out.trans (congrArg (fun x : Nat => (x : Int)) HFIN.out)), HA.out⟩

theorem sum_any (a : Option Addr) (n cap : Nat) (l : List UInt8) (w : World) (hl : BytesAt w a n cap l) :
    Calls Tryz.prog 67 #[.slice a n cap] w fun e w' => e = .returned (.int .u32 (sumL l : Nat)) ∧ Below w.heap.size w w' := by
  have HM := Lib.hid (more_any 0 a n cap l w (by omega) hl)
  rw [moreL_zero] at HM
  go_enter Tryz.func67, Tryz.ntmps67
  go_wp2_with (go_at_call 115; refine (HM.out).mono ?_; rintro e w1 ⟨rfl, hb1⟩)
  go_ret
  exact ⟨rfl, hb1⟩

/-- a mark: the four octets of a sum -/
def markV (s : Nat) : Array Value := #[.int .u8 ((s : Int) % 256), .int .u8 ((s : Int) / 256 % 256), .int .u8 ((s : Int) / 65536 % 256), .int .u8 ((s : Int) / 16777216)]

theorem sizeMark : (Tryz.prog.info? 257).map (·.size) = some 4 := by kernel_rfl

theorem mark_held {w w1 : World} {cs : Array Value} {t : TypeId} (h : Below (w.alloc (.cells cs t)).heap.size (w.alloc (.cells cs t)) w1) : w1.heap[w.heap.size]? = some (.cells cs t (0, 0)) := by
  rw [h.block w.heap.size (by simp)]
  exact heap_alloc_new w _

theorem mark_one (s : Nat) : (markV s).all (·.oneCell') = true := by simp [markV, Value.oneCell']

theorem mark_any (a : Option Addr) (n cap : Nat) (l : List UInt8) (w : World) (hl : BytesAt w a n cap l) :
    Calls Tryz.prog 179 #[.slice a n cap] w fun e w' => e = .returned (.agg (markV (sumL l))) ∧ Below w.heap.size w w' := by
  have HS := Lib.hid (fun u (h : Below w.heap.size w u) => sum_any a n cap l u (hl.below h))
  have hlt := sumL_lt l
  go_enter Tryz.func179, Tryz.ntmps179
  go_wp2_with (first | (go_at_call 67; refine (HS.out _ ((Below.refl _ _).alloc (Nat.le_refl _) _)).mono ?_; rintro e w1 ⟨rfl, hb1⟩; have t1 := mark_held hb1) | (refine wpList_store_row rfl _ _ _ rfl w.heap.size (markV (sumL l)) rfl rfl 257 _ t1 sizeMark rfl (mark_one _) ?_))
  refine bodyPost_ret (v := .agg (markV (sumL l))) (results_cell_row rfl _ _ w.heap.size 257 (markV (sumL l)) (0, 0) _ rfl (heap_setRow_same _ _ _ _ _ t1) Tryz.underlying257 rfl sizeMark) rfl ⟨rfl, ?_⟩
  exact below_setRow (((Below.refl _ _).alloc (Nat.le_refl _) _).trans (hb1.mono (by simp))) (Nat.le_refl _) _

theorem mark_vals (l : List UInt8) : (markV (sumL l)).toList = vals (leB 4 (sumL l)) := by
  have h := sumL_lt l
  generalize sumL l = s at *
  have e : leB 4 s = [UInt8.ofNat (s % 256), UInt8.ofNat (s / 256 % 256), UInt8.ofNat (s / 256 / 256 % 256), UInt8.ofNat (s / 256 / 256 / 256 % 256)] := rfl
  rw [e]
  simp only [markV, vals, List.map]
  congr 1
  · simp
  congr 1
  · simp
  congr 1
  · congr 1
    have : (UInt8.ofNat (s / 256 / 256 % 256)).toNat = s / 256 / 256 % 256 := by simp
    omega
  · congr 2
    have : (UInt8.ofNat (s / 256 / 256 / 256 % 256)).toNat = s / 256 / 256 / 256 % 256 := by simp
    omega

set_option maxHeartbeats 1000000 in
set_option maxRecDepth 100000 in
theorem seal_any (a : Option Addr) (n cap : Nat) (l : List UInt8) (w : World) (hl : BytesAt w a n cap l) (hn : n ≤ 140737488355320) :
    Calls Tryz.prog 149 #[.slice a n cap] w (FreshB id (n + 4) (sealL l) w) := by
  have HL := Lib.hid hl
  clear hl
  have HM := Lib.hid (mark_any a n cap l w HL.out)
  obtain ⟨i0, hi, hz0, hz1, hz2⟩ := info_parts infoU8
  have HI := Lib.hid (And.intro hi (And.intro hz0 (And.intro hz1 hz2)))
  clear hi hz0 hz1 hz2
  have hbm : i0.bytes * (n + 4) ≤ 281474976710656 := by rw [HI.out.2.2.2]; omega
  have HB := Lib.hid hbm
  clear hbm
  go_enter Tryz.func149, Tryz.ntmps149
  go_wp2_with (first
    | (go_at_call 179; refine (HM.out).mono ?_; rintro e w1 ⟨rfl, hb1⟩)
    | (refine wpList_store_row rfl _ _ _ rfl w1.heap.size (markV (sumL l)) rfl rfl 257 _ (heap_alloc_new w1 _) sizeMark rfl (mark_one _) ?_)
    | (at_make; refine wpList_make_own _ rfl _ _ 49 rfl w.heap.size 5 i0 (.int .u8 0) 1 Tryz.underlying49 HI.out.1 HI.out.2.1 HI.out.2.2.1 .i64 .i64 _ (n + 4) rfl rfl (by first | exact (Int.natCast_add n 4).symm | (simp; done)) HB.out (by unfold maxLen; omega) (by simp; have := hb1.size; omega) ?_; intro w2 hown hgrow))
  have hrow := heap_setRow_same (w1.alloc (.cells #[.int .u8 0, .int .u8 0, .int .u8 0, .int .u8 0] 257)) w1.heap.size (markV (sumL l)) _ _ (heap_alloc_new w1 _)
  have hbw : Below w.heap.size w ((w1.alloc (.cells #[.int .u8 0, .int .u8 0, .int .u8 0, .int .u8 0] 257)).setRow w1.heap.size (markV (sumL l))) :=
    below_setRow (hb1.alloc hb1.size _) hb1.size _
  have hsz : ((w1.alloc (.cells #[.int .u8 0, .int .u8 0, .int .u8 0, .int .u8 0] 257)).setRow w1.heap.size (markV (sumL l))).heap.size = w1.heap.size + 1 := by simp
  have hbw2 : Below w.heap.size w w2 := hbw.grown hgrow hbw.size (fun k hk => by cases hk)
  have hrow2 := hgrow.block w1.heap.size (by rw [hsz]; omega) (by simp)
  rw [hrow] at hrow2
  have hmk : BytesAt w2 (some ⟨w1.heap.size, 0, none⟩) 4 4 (leB 4 (sumL l)) := BytesAt.of_cells (leB_length _ _) (Nat.le_refl _) (by unfold maxLen; omega) fun i hi => by
    rw [Nat.zero_add, cell_of_row _ _ i _ _ _ hrow2, ← Array.getElem?_toList, mark_vals, vals_at _ _ (by rw [leB_length]; exact hi)]
  have HMK := Lib.hid hmk
  have HL2 := Lib.hid (HL.out.below hbw2)
  have HBW := Lib.hid hbw2
  rw [hsz] at hown
  have HOWN := Lib.hid hown
  have hlt2 := hown.lt _ rfl
  have HSZ := Lib.hid hsz
  clear hrow hbw hrow2 hmk hbw2 hown hgrow hsz
  go_region_law (first
    | (refine step_append_bytes rfl (.tmp 11) (.tmp 12) rfl w.heap.size (.slice (some ⟨w1.heap.size + 1, 0, none⟩) 0 (n + 4)) 0 [] (by simp [Act.eval, Act.put]) HOWN.out a n cap l (by simp [Act.eval, Act.put]) HL2.out n (by omega) (by omega) HBW.out.size ?_; intro a3 cap3 w3 ho3 hg3; have HM3 := Lib.hid (BytesAt.grown (w := w2.drew) HMK.out hg3 (by rintro x ⟨⟩; simp [Value.ownBlock])); have HG3 := Lib.hid hg3; rw [List.nil_append] at ho3; have HO3 := Lib.hid ho3; clear ho3 hg3)
    | (refine step_append_bytes rfl (.tmp 13) (.tmp 14) rfl w.heap.size (.slice a3 n cap3) n (vals l) (by simp [Act.eval, Act.put]) HO3.out (some ⟨w1.heap.size, 0, none⟩) 4 4 (leB 4 (sumL l)) (by simp [Act.eval, Act.put]) HM3.out (n + 4) rfl (by omega) (Nat.le_trans HBW.out.size HG3.out.size) ?_; intro a4 cap4 w4 ho4 hg4))
  go_wp2
  go_ret
  have hb3 : Below w.heap.size w w3 := (below_drewN HBW.out 1).grown HG3.out HBW.out.size (fun k hk => by cases hk; have := hb1.size; show w.heap.size ≤ w1.heap.size + 1; omega)
  refine ⟨a4, cap4, rfl, ?_, hb3.grown hg4 hb3.size (fun k hk => (HO3.out.lt k hk).1)⟩
  simpa [sealL, vals] using ho4

end Go.Proofs.YtjcmphjjkeigjaaGreat

namespace Go.Proofs.YtjcmphjjkeigjaaGreat
open Go.RowKit
set_option linter.unusedVariables false
set_option linter.unusedSimpArgs false

theorem owned_base {w : World} {B B' : Nat} {t : TypeId} {sz n : Nat} {v : Value} {xs : List Value} (h : w.ownsRow B t sz v n xs) (hB : B' ≤ B) : w.ownsRow B' t sz v n xs := by
  refine ⟨h.1, ?_⟩
  rcases h.2 with hn | ⟨g, cap, cur, rfl, hbg, rest⟩
  · exact .inl hn
  · exact .inr ⟨g, cap, cur, rfl, Nat.le_trans hB hbg, rest⟩

end Go.Proofs.YtjcmphjjkeigjaaGreat

namespace Go.Proofs.YtjcmphjjkeigjaaGreat
open Go.RowKit
set_option linter.unusedVariables false
set_option linter.unusedSimpArgs false

/-! ### records that are owned are read -/
theorem Recs.came {α : Type} {f : α → List Value} {w : World} {e : TypeId} {size n cap : Nat} {a : Option Addr} {L : List α} (h : Recs f w e size (.slice a n cap) L) : CameAt f size w a n cap L := by
  obtain ⟨a', cap', hv, h1, h2⟩ := h.form
  simp only [Value.slice.injEq] at hv
  obtain ⟨rfl, rfl, rfl⟩ := hv
  refine ⟨rfl, h1, h2, h.1, ?_⟩
  by_cases hp : 0 < L.length
  · obtain ⟨g, cap2, hv, _, _, _⟩ := h.form' hp
    simp only [Value.slice.injEq] at hv
    obtain ⟨rfl, _, rfl⟩ := hv
    exact .inr ⟨_, rfl, fun i j x hi hj => by rw [Addr.add_mid, Nat.zero_add]; exact h.cellAt i j x hi hj⟩
  · rcases h.2.2.2 with ⟨hv, h0⟩ | ⟨g, cap2, cur, hv, _⟩
    · simp at hv; exact .inl ⟨hv.1, by omega, hv.2.2⟩
    · simp only [Value.slice.injEq] at hv
      obtain ⟨rfl, _, rfl⟩ := hv
      exact .inr ⟨_, rfl, fun i j x hi hj => by have := (List.getElem?_eq_some_iff.1 hi).1; omega⟩
theorem CameAt.len {α : Type} {f : α → List Value} {w : World} {size n cap : Nat} {a : Option Addr} {L : List α} (h : CameAt f size w a n cap L) : L.length = n := h.1

/-- a part of what is read -/
theorem CameAt.part {α : Type} {f : α → List Value} {w : World} {size n cap : Nat} {a : Option Addr} {L : List α} (h : CameAt f size w a n cap L) (i m : Nat) (b off : Nat) (ha : a = some ⟨b, off, none⟩) (hi : i + m ≤ n) (hs : 0 < size) :
    CameAt f size w (some ⟨b, off + i * size, none⟩) m m ((L.drop i).take m) := by
  obtain ⟨h1, h2, h3, h4, h5⟩ := h
  refine ⟨by simp; omega, Nat.le_refl _, by omega, fun x hx => h4 x (List.mem_of_mem_drop (List.mem_of_mem_take hx)), .inr ⟨_, rfl, fun k j x hk hj => ?_⟩⟩
  rcases h5 with ⟨hn, _, _⟩ | ⟨p, hp, hc⟩
  · rw [hn] at ha; cases ha
  · rw [hp] at ha
    cases ha
    have hkm : k < m := by
      have := (List.getElem?_eq_some_iff.1 hk).1
      simp at this
      omega
    rw [List.getElem?_take_of_lt hkm, List.getElem?_drop] at hk
    have := hc (i + k) j x hk hj
    rw [Addr.add_mid] at this ⊢
    rw [← this]
    congr 2
    rw [Nat.add_mul]
    omega

/-! ### pairs -/
def pairC (p : Nat × Nat) : List Value := [.int .u64 (p.1 : Int), .int .u64 (p.2 : Int)]
theorem pairC_len (p : Nat × Nat) : (pairC p).length = 2 := rfl
theorem pairC_one (p : Nat × Nat) : ∀ u ∈ pairC p, u.oneCell' = true := by
  intro u hu
  simp only [pairC, List.mem_cons, List.not_mem_nil, or_false] at hu
  rcases hu with rfl | rfl <;> rfl
abbrev PairsAt := CameAt pairC 2
theorem infoPair : (Tryz.prog.info? 114).map (fun i => (i.zero, i.size, i.bytes)) = some (some (.agg #[.int .u64 0, .int .u64 0]), 2, 16) := by kernel_rfl
theorem sizePair : (Tryz.prog.info? 114).map (·.size) = some 2 := by kernel_rfl
theorem PairsAt.cells {w : World} {a : Option Addr} {n cap : Nat} {L : List (Nat × Nat)} (h : PairsAt w a n cap L) (hn : 0 < n) :
    ∃ b off, a = some ⟨b, off, none⟩ ∧ b < w.heap.size ∧ ∀ i, i < n → w.cell? ⟨b, off + i * 2, none⟩ = some (.int .u64 ((L.getD i (0, 0)).1 : Int)) ∧ w.cell? ⟨b, off + (i * 2 + 1), none⟩ = some (.int .u64 ((L.getD i (0, 0)).2 : Int)) ∧ w.rangeAt b (off + i * 2) (pairC (L.getD i (0, 0))) := by
  obtain ⟨b, off, h1, h2, h3⟩ := CameAt.at h hn (by omega)
  refine ⟨b, off, h1, h2, fun i hi => ?_⟩
  have hx : L[i]? = some (L.getD i (0, 0)) := by rw [List.getD, List.getElem?_eq_getElem (by have := h.1; omega)]; rfl
  refine ⟨h3 i 0 _ hx (by omega), h3 i 1 _ hx (by omega), fun j u hu => ?_⟩
  have hj : j < 2 := (List.getElem?_eq_some_iff.1 hu).1
  rw [Nat.add_assoc, h3 i j _ hx hj, hu]

/-! ### octets that are owned -/
def octC (b : UInt8) : List Value := [.int .u8 b.toNat]
theorem octs_vals (l : List UInt8) : l.flatMap octC = vals l := by
  induction l with
  | nil => rfl
  | cons b l ih => rw [List.flatMap_cons, ih]; rfl
abbrev OctO (w : World) (v : Value) (l : List UInt8) := Recs octC w 5 1 v l
theorem octO_of {w : World} {B n cap : Nat} {a : Option Addr} {l : List UInt8} (h : w.ownsRow B 5 1 (.slice a n cap) n (vals l)) : OctO w (.slice a n cap) l ∧ l.length = n := by
  have hl : l.length = n := by have := h.1; simpa [vals_length] using this
  refine ⟨⟨fun _ _ => rfl, fun x _ u hu => by simp only [octC, List.mem_singleton] at hu; subst hu; rfl, ?_⟩, hl⟩
  rw [octs_vals, hl]
  exact owned_base h (Nat.zero_le _)
theorem OctO.at {w : World} {n cap : Nat} {a : Option Addr} {l : List UInt8} (h : OctO w (.slice a n cap) l) : BytesAt w a n cap l := by
  obtain ⟨a', cap', hv, _, _⟩ := h.form
  simp only [Value.slice.injEq] at hv
  have h2 := h.2.2
  rw [octs_vals, ← hv.2.1] at h2
  exact BytesAt.owned h2

/-! ### slices of slices -/
abbrev Hd := Option Addr × Nat × Nat
def hdC (h : Hd) : List Value := [.slice h.1 h.2.1 h.2.2]
theorem hdC_one (h : Hd) : ∀ u ∈ hdC h, u.oneCell' = true := by
  intro u hu
  simp only [hdC, List.mem_singleton] at hu
  subst hu; rfl
/-- a slice of slices, each of which reads as E says -/
def Rows2 {β : Type} (E : World → Option Addr → Nat → Nat → β → Prop) (w : World) (a : Option Addr) (n cap : Nat) (P : List β) : Prop :=
  ∃ Hs : List Hd, CameAt hdC 1 w a n cap Hs ∧ Hs.length = P.length ∧ ∀ (i : Nat) (h : Hd) (b : β), Hs[i]? = some h → P[i]? = some b → E w h.1 h.2.1 h.2.2 b
abbrev RowsR := Rows2 BytesAt
theorem Rows2.len {β : Type} {E : World → Option Addr → Nat → Nat → β → Prop} {w : World} {a : Option Addr} {n cap : Nat} {P : List β} (h : Rows2 E w a n cap P) : P.length = n := by
  obtain ⟨Hs, h1, h2, _⟩ := h
  rw [← h2]; exact h1.1
theorem Rows2.caps {β : Type} {E : World → Option Addr → Nat → Nat → β → Prop} {w : World} {a : Option Addr} {n cap : Nat} {P : List β} (h : Rows2 E w a n cap P) : n ≤ cap ∧ cap ≤ maxLen := by
  obtain ⟨Hs, h1, _, _⟩ := h
  exact ⟨h1.2.1, h1.2.2.1⟩
theorem Rows2.below {β : Type} {E : World → Option Addr → Nat → Nat → β → Prop} (hE : ∀ w w' a n c b, E w a n c b → Below w.heap.size w w' → E w' a n c b) {w w' : World} {a : Option Addr} {n cap : Nat} {P : List β} (h : Rows2 E w a n cap P) (hb : Below w.heap.size w w') : Rows2 E w' a n cap P := by
  obtain ⟨Hs, h1, h2, h3⟩ := h
  exact ⟨Hs, h1.below (by omega) hb, h2, fun i x b hi hb' => hE _ _ _ _ _ _ (h3 i x b hi hb') hb⟩
theorem RowsR.below {w w' : World} {a : Option Addr} {n cap : Nat} {P : List (List UInt8)} (h : RowsR w a n cap P) (hb : Below w.heap.size w w') : RowsR w' a n cap P := Rows2.below (E := BytesAt) (fun w w' a n c b h hb => BytesAt.below h hb) h hb
theorem Rows2.at {β : Type} {E : World → Option Addr → Nat → Nat → β → Prop} {w : World} {a : Option Addr} {n cap : Nat} {P : List β} (h : Rows2 E w a n cap P) (d : β) (hn : 0 < n) :
    ∃ b off, a = some ⟨b, off, none⟩ ∧ b < w.heap.size ∧ ∀ i, i < n → ∃ h : Hd, w.cell? ⟨b, off + i, none⟩ = some (.slice h.1 h.2.1 h.2.2) ∧ E w h.1 h.2.1 h.2.2 (P.getD i d) := by
  obtain ⟨Hs, h1, h2, h3⟩ := h
  obtain ⟨b, off, e1, e2, e3⟩ := CameAt.at h1 hn (by omega)
  refine ⟨b, off, e1, e2, fun i hi => ?_⟩
  have hl := h1.1
  have hx : Hs[i]? = some Hs[i] := List.getElem?_eq_getElem (by omega)
  refine ⟨Hs[i], ?_, h3 i _ _ hx (by rw [List.getD, List.getElem?_eq_getElem (by omega)]; rfl)⟩
  have := e3 i 0 _ hx (by omega)
  simpa [hdC] using this

/-- a slice of rows of octets, all of it owned -/
def RowsO (w : World) (v : Value) (P : List (List UInt8)) : Prop :=
  ∃ Hs : List Hd, Recs hdC w 49 1 v Hs ∧ Hs.length = P.length ∧ ∀ (i : Nat) (h : Hd) (l : List UInt8), Hs[i]? = some h → P[i]? = some l → OctO w (.slice h.1 h.2.1 h.2.2) l
theorem RowsO.nil (w : World) : RowsO w (.slice none 0 0) [] := ⟨[], Recs.nil _ _ _ _, rfl, fun i h l hi _ => by simp at hi⟩
theorem RowsO.read {w : World} {a : Option Addr} {n cap : Nat} {P : List (List UInt8)} (h : RowsO w (.slice a n cap) P) : RowsR w a n cap P := by
  obtain ⟨Hs, h1, h2, h3⟩ := h
  exact ⟨Hs, h1.came, h2, fun i x l hi hl => (h3 i x l hi hl).at⟩
theorem RowsO.lt {w : World} {v : Value} {P : List (List UInt8)} (h : RowsO w v P) : ∀ k, v.ownBlock = some k → k < w.heap.size := by
  obtain ⟨Hs, h1, _, _⟩ := h
  exact h1.lt
theorem RowsO.form {w : World} {v : Value} {P : List (List UInt8)} (h : RowsO w v P) : ∃ a cap, v = .slice a P.length cap ∧ P.length ≤ cap ∧ cap ≤ maxLen := by
  obtain ⟨Hs, h1, h2, _⟩ := h
  rw [← h2]
  exact h1.form
theorem RowsO.below {w w' : World} {v : Value} {P : List (List UInt8)} (h : RowsO w v P) (hb : Below w.heap.size w w') : RowsO w' v P := by
  obtain ⟨Hs, h1, h2, h3⟩ := h
  exact ⟨Hs, h1.below hb, h2, fun i x l hi hl => (h3 i x l hi hl).below hb⟩
theorem infoRow : (Tryz.prog.info? 49).map (fun i => (i.zero, i.size, i.bytes)) = some (some (.slice none 0 0), 1, 24) := by kernel_rfl
theorem ne_row_octet : (5 : TypeId) ≠ 49 := by decide
theorem Recs.typed {α : Type} {f : α → List Value} {w : World} {e t : TypeId} {size : Nat} {v : Value} {L : List α} (h : Recs f w e size v L) (hne : e ≠ t) {β : Type} {f2 : β → List Value} {s2 : Nat} {v2 : Value} {M : List β} (h2 : Recs f2 w t s2 v2 M) : ∀ k, v.ownBlock = some k → ¬ v2.ownBlock = some k := by
  intro k hk hk2
  obtain ⟨cur, hc⟩ := h2.blk k hk2
  exact h.ne_of hc hne k hk rfl
/-- a row is laid behind -/
theorem RowsO.more {w w' : World} {v v' : Value} {P : List (List UInt8)} {a : Option Addr} {n cap : Nat} {l : List UInt8} {Hs : List Hd} (h1 : Recs hdC w 49 1 v Hs) (h2 : Hs.length = P.length) (h3 : ∀ (i : Nat) (h : Hd) (l : List UInt8), Hs[i]? = some h → P[i]? = some l → OctO w (.slice h.1 h.2.1 h.2.2) l)
    (hl : OctO w (.slice a n cap) l) (hr : Recs hdC w' 49 1 v' (Hs ++ [(a, n, cap)])) (hg : w.grownBy w' v.ownBlock) : RowsO w' v' (P ++ [l]) := by
  have ho : Only (fun k => v.ownBlock = some k) w w' := Only.of_grown hg fun k e => e
  refine ⟨_, hr, by simp [h2], fun i x m hi hm => ?_⟩
  by_cases hlt : i < Hs.length
  · rw [List.getElem?_append_left hlt] at hi
    rw [List.getElem?_append_left (by omega)] at hm
    have := h3 i x m hi hm
    exact this.only ho (this.typed ne_row_octet h1)
  · have hlen := (List.getElem?_eq_some_iff.1 hi).1
    rw [List.length_append, List.length_singleton] at hlen
    have hii : i = Hs.length := by omega
    subst hii
    rw [List.getElem?_append_right (by omega), Nat.sub_self] at hi
    rw [h2, List.getElem?_append_right (by omega), Nat.sub_self] at hm
    simp at hi hm
    subst hi hm
    exact hl.only ho (hl.typed ne_row_octet h1)

theorem built_pair (X : Array Value) (hX : X.size = 2) : ∀ w : World, (Instr.buildSlice 109 1 #[(0, .agg X)]).run Tryz.prog w = .ok (.slice (some ⟨w.heap.size, 0, none⟩) 1 1) (w.alloc (.cells X 114)) := fun w => by
  obtain ⟨i0, hi, hz0, hz1, hz2⟩ := info_parts infoPair
  exact run_buildSlice_one w _ _ _ i0 _ 2 Tryz.underlying109 hi hz0 hz1 (by simp [hX]) (by omega) (by omega)

end Go.Proofs.YtjcmphjjkeigjaaGreat
