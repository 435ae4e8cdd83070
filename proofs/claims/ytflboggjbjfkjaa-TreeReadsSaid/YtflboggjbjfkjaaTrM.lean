/-
  Contract of hamperref06's Build.
-/
import Derived.Test.YtflboggjbjfkjaaTrL
namespace Go.Proofs.Ytflboggjbjfkjaa
open Go.RowKit
set_option linter.unusedVariables false
set_option linter.unusedSimpArgs false
set_option maxRecDepth 100000

set_option maxHeartbeats 4000000 in
theorem build6_any (a : Option Addr) (n cap : Nat) (L : List (Nat × Nat)) (w : World) (he : PairsAt w a n cap L) (hn : n ≤ 600) (hf : Fits 1 L) (hasc : L.Pairwise (fun a b => a.1 < b.1)) :
    Calls Try.prog 8 #[.slice a n cap] w fun e w' => ∃ v : Value, e = .returned v ∧ Recs strC w' 9 1 v (buildL L) ∧ (∀ q, v.ownBlock = some q → w.heap.size ≤ q) ∧ Below w.heap.size w w' := by
  have HE := Lib.hid he
  have HLN := Lib.hid he.1
  have HLK := Lib.hid (look_start L hasc hf (by rw [he.1]; omega))
  have HBD := Lib.hid (show buildL L = finL (startL L) from rfl)
  obtain ⟨ps, hps⟩ : ∃ ps, partsL 7 L = ps := ⟨_, rfl⟩
  obtain ⟨c, hc⟩ : ∃ c, ps.length = c := ⟨_, rfl⟩
  have hst : startL L = levelL 1 [] ps := by rw [← hps]; rfl
  have hcl : c ≤ 90 := by rw [← hc, ← hps, partsL_length 7 L (by omega), he.1]; omega
  have hjl : ∀ j, j < c ↔ (j = 0 ∨ 7 * j < n) := fun j => by rw [← hc, ← hps, parts_lt (by omega), he.1]
  have hpart : ∀ j, j < c → ps.getD j [] = (L.drop (7 * j)).take 7 := fun j hj => by rw [← hps]; exact parts_getD (by omega) L j (by rw [hps, hc]; exact hj)
  have hpm : ∀ j, j < c → mayN 1 (ps.getD j []).length = true ∧ Fits 1 (ps.getD j []) := fun j hj => by
    have hm : ps.getD j [] ∈ ps := by rw [List.getD, List.getElem?_eq_getElem (by omega)]; exact List.getElem_mem (by omega)
    rw [← hps] at hm
    have := parts_may7 hf _ hm
    rwa [hps] at this
  have HST := Lib.hid hst
  have HJL := Lib.hid hjl
  have HPART := Lib.hid hpart
  have HPM := Lib.hid hpm
  have HC := Lib.hid hc
  clear he hf hasc hps hc hst hjl hpart hpm
  go_enter Try.func8, Try.ntmps8
  go_wp2
  go_loopw [3, 4, 5] (fun x y i wr => ∃ j q : Nat, q = 7 * j ∧ j ≤ c ∧ i = .int .i64 q ∧ BdW w ((ps.take j).map (pageL 1)) (((aboveL 0 ps).take j).map (·.1)) x y wr) (fun _ _ i _ => 700 - (intOf i).toNat)
  case atStart => exact ⟨0, 0, rfl, Nat.zero_le _, rfl, Recs.nil _ _ _ _, Recs.nil _ _ _ _, fun q hq => by simp [Value.ownBlock] at hq, fun q hq => by simp [Value.ownBlock] at hq, Below.refl _ _⟩
  case round =>
    obtain ⟨j, q, hq, hj, rfl, hw⟩ := hrel
    have HQ := Lib.hid hq
    have HW := Lib.hid hw
    have hq7 : q ≤ 630 := by omega
    clear hq hw
    go_upto_region 4 with (fail)
    go_cut [23] (fun s23 wx => wx = wr ∧ s23 = .bool (decide (j < c)))
    case first =>
      by_cases h0 : q = 0
      · subst h0
        have hjc : decide (j < c) = true := decide_eq_true ((HJL.out j).2 (.inl (by have := HQ.out; omega)))
        have HH := Lib.hid hjc
        clear hjc
        go_wp2
        go_meet
        exact ⟨rfl, congrArg Value.bool HH.out.symm⟩
      · have h0i : ((q : Int) == 0) = false := beq_eq_false_iff_ne.2 (by omega)
        have hjc : decide (j < c) = decide (q < n) := by
          apply decide_eq_decide.2
          rw [HJL.out j]
          have := HQ.out
          omega
        have HH := Lib.hid hjc
        clear hjc
        go_wp2
        go_meet
        exact ⟨rfl, congrArg Value.bool HH.out.symm⟩
    case rest =>
      obtain ⟨hwc, rfl⟩ := hcut
      replace hwc := hwc.symm
      subst hwc
      by_cases hlt : j < c
      · rw [decide_eq_true hlt]
        have hpt := HPART.out j hlt
        rw [← HQ.out] at hpt
        obtain ⟨hmy, hft⟩ := HPM.out j hlt
        have hplen : (ps.getD j []).length = min 7 (n - q) := by rw [hpt, List.length_take, List.length_drop, HLN.out]
        have hpat : ∀ t, t < 7 → (ps.getD j []).getD t (0, 0) = L.getD (q + t) (0, 0) := fun t ht => by rw [hpt, HQ.out]; exact part_at 7 L j t ht
        have hjlt : j < ps.length := by rw [HC.out]; exact hlt
        have hptk := pages_take 1 ps j hjlt
        have habk := above_takeN 0 ps j hjlt
        have hqn : q ≤ n := by have := (HJL.out j).1 hlt; have := HQ.out; omega
        generalize ps.getD j [] = p at *
        obtain ⟨m, hm⟩ : ∃ m, min 7 (n - q) = m := ⟨_, rfl⟩
        rw [hm] at hplen
        have hm7 : m ≤ 7 := by omega
        have hqm : q + m ≤ n := by omega
        have HPL := Lib.hid hplen
        have HPA := Lib.hid hpat
        have HPTK := Lib.hid hptk
        have HABK := Lib.hid habk
        have HFT := Lib.hid hft
        clear hpt hmy hplen hpat hptk habk hft hjlt
        have hmi : min (7 : Int) ((n : Int) - (q : Int)) = (m : Int) := by omega
        have HMI := Lib.hid hmi
        have HMN := Lib.hid hm
        clear hm hmi
        go_upto_if 31 with (fail)
        go_cut [6] (fun s6 wx => wx = wr ∧ s6 = .int .i64 (m : Int))
        case first =>
          by_cases h7 : (7 : Int) < (n : Int) - (q : Int)
          · have HH := Lib.hid (show (7 : Int) = (m : Int) by have := HMN.out; omega)
            go_wp2
            go_meet
            exact ⟨rfl, by rw [← HH.out]⟩
          · have HH := Lib.hid (show (n : Int) - (q : Int) = (m : Int) by have := HMN.out; omega)
            go_wp2
            go_meet
            exact ⟨rfl, by rw [← HH.out]⟩
        case rest =>
          obtain ⟨hwc, rfl⟩ := hcut
          replace hwc := hwc.symm
          subst hwc
          have hcv := conv_one wr m
          have hmw : IntKind.u8.wrap (m : Int) = (m : Int) % 256 := rfl
          have hm256 : UInt8.ofNat (m % 256) = UInt8.ofNat m := by rw [Nat.mod_eq_of_lt (by omega)]
          rw [hm256] at hcv
          have hmm : (m : Int) % 256 = (m : Int) := by omega
          rw [hmm] at hcv
          have ba := ba_app
          have o1 := oct_pages1
          have HB0 := Lib.hid (show ([1] : List UInt8) ++ [UInt8.ofNat m] = bodyK 1 p 0 by unfold bodyK; rw [HPL.out]; rfl)
          have HLW := Lib.hid (HW.out.below ((Below.refl _ _).alloc (Nat.le_refl _) (.cells #[.int .u8 (m : Int)] 5)))
          have hov : ([1] : List UInt8).length + [UInt8.ofNat m].length ≤ 9223372036854775807 := by simp
          clear hmw hm256 HMI
          go_wp2
          generalize wr.alloc (.cells #[.int .u8 (m : Int)] 5) = wA at *
          clear hov hcv o1 hmm
          have HPM1 := Lib.hid (show m = 0 ∨ 0 < m by omega)
          go_loopw [7, 8] (fun x i wx => ∃ t r : Nat, q + t = r ∧ t ≤ m ∧ i = .int .i64 r ∧ x = .string ⟨(bodyK 1 p t).toArray⟩ ∧ Below wA.heap.size wA wx) (fun _ i _ => q + m - (intOf i).toNat)
          case atStart => exact ⟨0, q, rfl, Nat.zero_le _, rfl, by rw [← HB0.out]; rfl, Below.refl _ _⟩
          case round =>
            obtain ⟨t, r, hr, ht, rfl, rfl, hbx⟩ := hrel
            have HBX := Lib.hid hbx
            have HR := Lib.hid hr
            by_cases hltm : t < m
            · have hri : (r : Int) < (q : Int) + (m : Int) := by omega
              have hrn : r < n := by omega
              have hrni : (r : Int) < (n : Int) := by omega
              have hbel : Below w.heap.size w wr := HLW.out.bel.trans (hbx.mono HLW.out.bel.size)
              obtain ⟨b, off, rfl, hbb, hcs⟩ := PairsAt.cells (CameAt.below HE.out (Nat.zero_lt_succ 1) hbel) (by omega)
              obtain ⟨c0, c1, _⟩ := hcs r hrn
              rw [← Nat.add_assoc] at c1
              have hpat := HPA.out t (by omega)
              rw [hr] at hpat
              have hbk := bodyK_flat 1 p t (by rw [HPL.out]; exact hltm)
              have hbl := bodyK_length 1 p t (by rw [HPL.out]; omega)
              rw [hpat] at hbk
              have hfx : (L.getD r (0, 0)).1 < 18446744073709551616 ∧ (L.getD r (0, 0)).2 < 18446744073709551616 := by
                rw [← hpat]
                exact HFT.out _ (by rw [List.getD, List.getElem?_eq_getElem (by rw [HPL.out]; exact hltm)]; exact List.getElem_mem (by rw [HPL.out]; exact hltm))
              clear hpat hcs hr
              generalize L.getD r (0, 0) = x at *
              obtain ⟨x1, x2⟩ := x
              dsimp only at hbk hfx c0 c1
              have K1 := Lib.hid (fun u => key8_any x1 u hfx.1)
              have K2 := Lib.hid (fun u => key8_any x2 u hfx.2)
              have hew : ewN 1 = 16 := rfl
              rw [hew] at hbl
              have hvw : leB (vwN 1) x2 = leB 8 x2 := rfl
              rw [hvw] at hbk
              have el1 := leB_length 8 x1
              have el2 := leB_length 8 x2
              have HBK := Lib.hid hbk
              have HBEL := Lib.hid hbel
              clear hbk hew hvw hfx
              generalize leB 8 x1 = s1 at *
              generalize leB 8 x2 = s2 at *
              generalize hBB : bodyK 1 p t = B at *
              have ov1 : s1.length + s2.length ≤ 9223372036854775807 := by omega
              have ov2 : B.length + (s1.length + s2.length) ≤ 9223372036854775807 := by omega
              clear hBB el1 el2 hbl
              go_upto_region 13 with (fail)
              refine region_head 16 [0, 1, 2, 3, 4, 5, 7, 8, 9, 10, 11, 6, 12, 13, 14, 15] [6, 12] (fun u => u.cell? ⟨b, off + r * 2, none⟩ = some (.int .u64 x1) ∧ u.cell? ⟨b, off + r * 2 + 1, none⟩ = some (.int .u64 x2)) (by kernel_rfl) (by kernel_rfl) ⟨c0, c1⟩ ?_
              simp only [pickO, List.filterMap_cons, List.filterMap_nil, List.getElem?_cons_zero, List.getElem?_cons_succ, Option.map_some, List.drop_succ_cons, List.drop_zero]
              have hblk : b < wr.heap.size := hbb
              iterate 11
                refine seqH_read _ rfl rfl (by rintro u ⟨hu1, hu2⟩; go_simp; with_reducible rfl) ?_
                try simp only [Act.put, List.setIfInBounds_toArray, List.set_cons_zero, List.set_cons_succ]
              refine seqH_move rfl rfl (fun K hK => ?_)
              go_simp
              refine (K1.out _).mono ?_
              rintro e w5 ⟨rfl, hb5⟩
              have d0 : w5.cell? ⟨b, off + r * 2, none⟩ = some (.int .u64 x1) := (hb5.cell (p := ⟨b, off + r * 2, none⟩) hblk).trans c0
              have d1 : w5.cell? ⟨b, off + r * 2 + 1, none⟩ = some (.int .u64 x2) := (hb5.cell (p := ⟨b, off + r * 2 + 1, none⟩) hblk).trans c1
              refine hK _ _ ⟨d0, d1⟩ ?_
              clear hK K
              try simp only [Act.put, List.setIfInBounds_toArray, List.set_cons_zero, List.set_cons_succ]
              refine seqH_move rfl rfl (fun K hK => ?_)
              go_simp
              refine (K2.out _).mono ?_
              rintro e w6 ⟨rfl, hb6⟩
              have hbl6 : b < w5.heap.size := Nat.lt_of_lt_of_le hblk hb5.size
              refine hK _ _ ⟨(hb6.cell (p := ⟨b, off + r * 2, none⟩) hbl6).trans d0, (hb6.cell (p := ⟨b, off + r * 2 + 1, none⟩) hbl6).trans d1⟩ ?_
              clear hK K
              try simp only [Act.put, List.setIfInBounds_toArray, List.set_cons_zero, List.set_cons_succ]
              refine seqH_read (.string ⟨(s1 ++ s2).toArray⟩) rfl rfl (by rintro u ⟨hu1, hu2⟩; clear hu1 hu2; go_simp) ?_
              try simp only [Act.put, List.setIfInBounds_toArray, List.set_cons_zero, List.set_cons_succ]
              refine seqH_read (.string ⟨(B ++ (s1 ++ s2)).toArray⟩) rfl rfl (by rintro u ⟨hu1, hu2⟩; clear hu1 hu2; go_simp) ?_
              try simp only [Act.put, List.setIfInBounds_toArray, List.set_cons_zero, List.set_cons_succ]
              refine seqH_read _ rfl rfl (by rintro u ⟨hu1, hu2⟩; clear hu1 hu2; go_simp; with_reducible rfl) ?_
              try simp only [Act.put, List.setIfInBounds_toArray, List.set_cons_zero, List.set_cons_succ]
              refine seqH_nil ?_
              rw [← HBK.out]
              have HBF := Lib.hid (show Below wA.heap.size wA w6 from (HBX.out.drew.trans (hb5.mono HBX.out.size)).trans (hb6.mono (Nat.le_trans HBX.out.size hb5.size)))
              clear d0 d1 hb5 hb6 c0 c1 hbx
              go_wp2
              refine ⟨⟨t + 1, r + 1, by have := HR.out; omega, by omega, by go_num, rfl, HBF.out⟩, by simp [intOf]; omega⟩
            · obtain rfl : t = m := by omega
              have hbw := HLW.out.below hbx
              have HBW := Lib.hid hbw
              have hbk := bodyK_all 1 p
              rw [HPL.out] at hbk
              rw [hbk]
              have hlst : leastL p = (p.getD 0 (0, 0)).1 := rfl
              have hbl := bodyL_length 1 p
              rw [HPL.out] at hbl
              have CP := Lib.hid (fun u => page6_any (bodyL 1 p) u (by rw [hbl]; show 2 + 16 * t ≤ 124; omega))
              have hpg : padL (sealL (bodyL 1 p)) = pageL 1 p := rfl
              rw [hpg] at CP
              have hpat0 := HPA.out 0 (by omega)
              rw [Nat.add_zero] at hpat0
              have hl0 : t = 0 → leastL p = 0 := fun h => by
                have : p = [] := List.eq_nil_of_length_eq_zero (by rw [HPL.out]; exact h)
                rw [this]; rfl
              have HL0 := Lib.hid hl0
              have HLS := Lib.hid (hlst.trans (congrArg (·.1) hpat0))
              clear hbx hbw hbk hlst hbl hpg hpat0 hl0 HB0
              generalize bodyL 1 p = bl at *
              generalize hlp : leastL p = lp at *
              clear hlp
              go_upto_if 61 with (fail)
              go_cut [9] (fun s9 wx => wx = wr ∧ s9 = .int .u64 (lp : Int))
              case first =>
                by_cases h0 : t = 0
                · subst h0
                  have HH := Lib.hid (HL0.out rfl)
                  go_wp2
                  go_meet
                  exact ⟨rfl, by rw [HH.out]; rfl⟩
                · have hti : (0 : Int) < (t : Int) := by omega
                  have hqi : (q : Int) < (n : Int) := by omega
                  obtain ⟨b, off, rfl, hbb, hcs⟩ := PairsAt.cells (CameAt.below HE.out (Nat.zero_lt_succ 1) HBW.out.bel) (by omega)
                  obtain ⟨c0, _, _⟩ := hcs q (by omega)
                  rw [← HLS.out] at c0
                  go_wp2
                  go_meet
                  exact ⟨rfl, rfl⟩
              case rest =>
                obtain ⟨hwc, rfl⟩ := hcut
                replace hwc := hwc.symm
                subst hwc
                obtain ⟨i0, hi0, hz0, hz1, hz2⟩ := info_parts infoU64
                have HI := Lib.hid (And.intro hi0 (And.intro hz0 (And.intro hz1 hz2)))
                obtain ⟨j0, hj0, jz0, jz1, jz2⟩ := info_parts infoStr
                have HJ := Lib.hid (And.intro hj0 (And.intro jz0 (And.intro jz1 jz2)))
                have hal : Below wr.heap.size wr (wr.alloc (.cells (natC lp).toArray 44)) := (Below.refl _ _).alloc (Nat.le_refl _) _
                have HA := Lib.hid (HBW.out.below hal)
                have hl1 : (((aboveL 0 ps).take j).map (·.1)).length ≤ 90 := by rw [List.length_map, List.length_take]; omega
                have hl2 : ((ps.take j).map (pageL 1)).length ≤ 90 := by rw [List.length_map, List.length_take]; omega
                have HM1 := Lib.hid (show (((aboveL 0 ps).take j).map (·.1)).length + 1 ≤ maxLen by unfold maxLen; omega)
                have HM2 := Lib.hid (show ((((aboveL 0 ps).take j).map (·.1)).length + 1) * 8 ≤ 140737488355328 by omega)
                have HM3 := Lib.hid (show ((ps.take j).map (pageL 1)).length + 1 ≤ maxLen by unfold maxLen; omega)
                have HM4 := Lib.hid (show (((ps.take j).map (pageL 1)).length + 1) * 16 ≤ 140737488355328 by omega)
                clear hi0 hz0 hz1 hz2 hj0 jz0 jz1 jz2 hal hl1 hl2
                go_wp2_with (first
                  | (refine wpList_buildSliceV rfl 54 1 _ rfl #[(0, .int .u64 (lp : Int))] (by simp [go_sem]) _ _ (built_nat lp _) ?_)
                  | (refine wpList_append_recs (f := natC) rfl _ _ 54 rfl 44 i0 _ 1 8 Try.underlying54 HI.out.1 HI.out.2.1 HI.out.2.2.1 HI.out.2.2.2 (by simp [Value.cells]) (by omega) _ _ rfl HA.out.l ⟨wr.heap.size, 0, none⟩ 1 1 [lp] rfl rfl (fun y _ => rfl) (fun y _ => natC_one y) (one_rec (f := natC) (heap_alloc_new wr _)) HM1.out HM2.out ?_; intro v5 w5 hr5 hg5 hv5))
                have hw5 := HA.out.moreL hr5 hg5 hv5
                have HW5 := Lib.hid hw5
                clear hr5 hg5 hv5 hw5 HA
                refine (CP.out _).mono ?_
                rintro e w6 ⟨rfl, hb6⟩
                have hw6 := (HW5.out.below hb6).below ((Below.refl w6.heap.size w6).alloc (Nat.le_refl _) (.cells (strC (pageL 1 p)).toArray 9))
                have HW6 := Lib.hid hw6
                clear hw6 hb6
                go_wp2_with (first
                  | (refine wpList_buildSliceV rfl 28 1 _ rfl #[(0, .string ⟨(pageL 1 p).toArray⟩)] (by simp [go_sem]) _ _ (built_str (pageL 1 p) _) ?_)
                  | (refine wpList_append_recs (f := strC) rfl _ _ 28 rfl 9 j0 _ 1 16 Try.underlying28 HJ.out.1 HJ.out.2.1 HJ.out.2.2.1 HJ.out.2.2.2 (by simp [Value.cells]) (by omega) _ _ rfl HW6.out.o ⟨w6.heap.size, 0, none⟩ 1 1 [pageL 1 p] rfl rfl (fun y _ => rfl) (fun y _ => strC_one y) (one_rec (f := strC) (heap_alloc_new w6 _)) HM3.out HM4.out ?_; intro v7 w7 hr7 hg7 hv7))
                have hw7 := HW6.out.moreO hr7 hg7 hv7
                rw [← HPTK.out, ← HABK.out] at hw7
                exact ⟨⟨j + 1, q + 7, by have := HQ.out; omega, by omega, by go_num, hw7⟩, by simp [intOf]; omega⟩
      · rw [decide_eq_false hlt]
        obtain rfl : j = c := by omega
        have hw := HW.out
        have htk : ps.take j = ps := List.take_of_length_le (Nat.le_of_eq HC.out)
        have hak : (aboveL 0 ps).take j = aboveL 0 ps := List.take_of_length_le (by rw [aboveL_length, HC.out]; exact Nat.le_refl _)
        rw [htk, hak] at hw
        have hb0 := back_level 1 [] ps [] rfl
        rw [← HST.out] at hb0
        have hs1 : (startL L).1 = ps.map (pageL 1) := by rw [HST.out]; rfl
        rw [← hs1] at hw
        have HW0 := Lib.hid hw
        have HB0 := Lib.hid hb0
        clear htk hak hw hb0 hs1 HW HPART HPM HJL hlt
        go_wp2
        go_loopw [3, 4, 10] (fun x y z wx => ∃ (s : LvS) (d f : Nat) (least : List Nat), Look L s d ∧ finL s = buildL L ∧ Back least f s ∧ z = .int .i64 f ∧ BdW w s.1 least x y wx) (fun x _ z _ => slLen x - (intOf z).toNat)
        case atStart => exact ⟨startL L, 0, 0, _, HLK.out, HBD.out.symm, HB0.out, rfl, HW0.out⟩
        case round =>
          obtain ⟨s, d, f, least, hlk, hfin, hback, rfl, hw⟩ := hrel
          obtain ⟨ax, cx, rfl, _, _⟩ := hw.o.form
          have hsm := hlk.small
          have hne := hlk.ne
          have HLK2 := Lib.hid hlk
          have HFIN := Lib.hid hfin
          have HBK := Lib.hid hback
          have HW := Lib.hid hw
          obtain ⟨N, hN⟩ : ∃ N, s.1.length = N := ⟨_, rfl⟩
          obtain ⟨e, he⟩ : ∃ e, s.2.length = e := ⟨_, rfl⟩
          have hfe : f + e = N := by rw [← hN, ← he]; exact hback.len
          rw [hN] at HW ⊢
          rw [hN, he] at hsm
          rw [he] at hne
          clear hlk hfin hback hw HW0 HB0 HLK
          by_cases h1 : 1 < e
          · obtain ⟨qs, hqs⟩ : ∃ qs, partsL 12 s.2 = qs := ⟨_, rfl⟩
            obtain ⟨c2, hc2⟩ : ∃ c, qs.length = c := ⟨_, rfl⟩
            have hc2e : c2 = (e + 11) / 12 := by rw [← hc2, ← hqs, partsL_length 12 s.2 (by omega), he]; omega
            have hjl : ∀ j, j < c2 ↔ f + 12 * j < N := fun j => by rw [← hc2, ← hqs, parts_lt (by omega), he]; omega
            have hpart : ∀ j, j < c2 → qs.getD j [] = (s.2.drop (12 * j)).take 12 := fun j hj => by rw [← hqs]; exact parts_getD (by omega) s.2 j (by rw [hqs, hc2]; exact hj)
            have hst2 : stepL s = levelL 2 s.1 qs := by rw [← hqs]; rfl
            have hfs : finL s = finL (stepL s) := finL_step s (by omega)
            have HST2 := Lib.hid hst2
            have HFS := Lib.hid (hfs.symm.trans HFIN.out)
            have HLK3 := Lib.hid (look_step HLK2.out (by omega))
            have HPART := Lib.hid hpart
            have HJL := Lib.hid hjl
            have HC2 := Lib.hid hc2
            have HNN := Lib.hid hN
            have HEE := Lib.hid he
            have hlN : least.length = N := by rw [← hN]; exact HBK.out.lst
            have HLEN := Lib.hid hlN
            have hN1 : N ≤ 1000 := by omega
            have h1i : (1 : Int) < (N : Int) - (f : Int) := by omega
            have W0 := HW.out
            have h40 : BdW w (s.1 ++ (qs.take 0).map (pageL 2)) (least ++ ((aboveL N qs).take 0).map (·.1)) (.slice ax N cx) u4 wr := by simpa using W0
            have H40 := Lib.hid h40
            clear hqs hc2 hjl hpart hst2 hfs hN he hlN W0 h40 HFIN HW
            go_wp2
            go_loopw [3, 4, 12] (fun x y z wx => ∃ j q : Nat, q = f + 12 * j ∧ j ≤ c2 ∧ z = .int .i64 q ∧ BdW w (s.1 ++ (qs.take j).map (pageL 2)) (least ++ ((aboveL N qs).take j).map (·.1)) x y wx) (fun _ _ z _ => N + 12 - (intOf z).toNat)
            case atStart => exact ⟨0, f, rfl, Nat.zero_le _, rfl, H40.out⟩
            case round =>
              obtain ⟨j, q, hq, hj, rfl, hw⟩ := hrel
              have HQ := Lib.hid hq
              have HW := Lib.hid hw
              clear hq hw H40
              by_cases hlt : j < c2
              · have hqN : q < N := by have := (HJL.out j).1 hlt; have := HQ.out; omega
                have hqi : (q : Int) < (N : Int) := by omega
                have hjlt : j < qs.length := by rw [HC2.out]; exact hlt
                have hptk := pages_take 2 qs j hjlt
                have habk := above_takeN N qs j hjlt
                have hpt := HPART.out j hlt
                have hplen : (qs.getD j []).length = min 12 (N - q) := by rw [hpt, List.length_take, List.length_drop, HEE.out]; have := HQ.out; omega
                have hpat : ∀ t, t < min 12 (N - q) → (qs.getD j []).getD t (0, 0) = (least.getD (q + t) 0, q + t) := fun t ht => by
                  rw [hpt, part_at 12 s.2 j t (by omega), HBK.out.at_ (12 * j + t) (by rw [HEE.out]; have := HQ.out; omega)]
                  have : f + (12 * j + t) = q + t := by have := HQ.out; omega
                  rw [this]
                have hpf : ∀ x ∈ qs.getD j [], x.1 < 18446744073709551616 ∧ x.2 < 65536 := fun x hx => by
                  rw [hpt] at hx
                  exact HLK2.out.fit x (List.mem_of_mem_drop (List.mem_of_mem_take hx))
                generalize qs.getD j [] = p at *
                obtain ⟨m, hm⟩ : ∃ m, min 12 (N - q) = m := ⟨_, rfl⟩
                rw [hm] at hplen hpat
                have hm12 : m ≤ 12 := by omega
                have hm1 : 1 ≤ m := by omega
                have hqm : q + m ≤ N := by omega
                have hpf2 : ∀ t, t < m → least.getD (q + t) 0 < 18446744073709551616 ∧ q + t < 65536 := fun t ht => by
                  have := hpf (p.getD t (0, 0)) (by rw [List.getD, List.getElem?_eq_getElem (by omega)]; exact List.getElem_mem (by omega))
                  rwa [hpat t ht] at this
                obtain ⟨news, hnews⟩ : ∃ l, ((aboveL N qs).take j).map (·.1) = l := ⟨_, rfl⟩
                have hnl : news.length ≤ 1000 := by rw [← hnews, List.length_map, List.length_take]; omega
                have hol : (s.1 ++ (qs.take j).map (pageL 2)).length ≤ 3000 := by rw [List.length_append, List.length_map, List.length_take, HNN.out]; omega
                have hw := HW.out
                rw [hnews] at hw
                rw [hnews] at habk
                have HNW := Lib.hid hnews
                have hll : (least ++ news).length = N + news.length := by rw [List.length_append, HLEN.out]
                have hgn : ∀ r, r < N → (least ++ news)[r]? = some (least.getD r 0) := fun r hr => by
                  rw [List.getElem?_append_left (by rw [HLEN.out]; exact hr), List.getD, List.getElem?_eq_getElem (by rw [HLEN.out]; exact hr)]
                  rfl
                obtain ⟨g, cg, rfl, _, _, _⟩ := hw.l.form' (by rw [hll]; omega)
                have HPTK := Lib.hid hptk
                have HABK := Lib.hid habk
                have HPL := Lib.hid hplen
                have HPA := Lib.hid hpat
                have HPF := Lib.hid hpf2
                have HGN := Lib.hid hgn
                have HW1 := Lib.hid hw
                have HOL := Lib.hid hol
                have HLL := Lib.hid hll
                have HNL := Lib.hid hnl
                have hmi : min (12 : Int) ((N : Int) - (q : Int)) = (m : Int) := by omega
                have HMN := Lib.hid hm
                obtain ⟨nl, hnl2⟩ : ∃ nl, (least ++ news).length = nl := ⟨_, rfl⟩
                have hNnl : N ≤ nl := by omega
                have hnl3 : nl ≤ 2000 := by omega
                rw [hnl2] at HW1 ⊢
                clear hptk habk hpt hplen hpat hpf hpf2 hgn hw hnews hol hll hnl hnl2 hm hmi HW hjlt
                go_upto_if 93 with (fail)
                go_cut [13] (fun s13 wx => wx = wr ∧ s13 = .int .i64 (m : Int))
                case first =>
                  by_cases h7 : (12 : Int) < (N : Int) - (q : Int)
                  · have HH := Lib.hid (show (12 : Int) = (m : Int) by have := HMN.out; omega)
                    go_wp2
                    go_meet
                    exact ⟨rfl, by rw [← HH.out]⟩
                  · have HH := Lib.hid (show (N : Int) - (q : Int) = (m : Int) by have := HMN.out; omega)
                    go_wp2
                    go_meet
                    exact ⟨rfl, by rw [← HH.out]⟩
                case rest =>
                  obtain ⟨hwc, rfl⟩ := hcut
                  replace hwc := hwc.symm
                  subst hwc
                  have hcv := conv_one wr m
                  have hm256 : UInt8.ofNat (m % 256) = UInt8.ofNat m := by rw [Nat.mod_eq_of_lt (by omega)]
                  rw [hm256] at hcv
                  have hmm : (m : Int) % 256 = (m : Int) := by omega
                  rw [hmm] at hcv
                  have ba := ba_app
                  have o1 := oct_pages2
                  have HB0 := Lib.hid (show ([2] : List UInt8) ++ [UInt8.ofNat m] = bodyK 2 p 0 by unfold bodyK; rw [HPL.out]; rfl)
                  have HLW := Lib.hid (HW1.out.below ((Below.refl _ _).alloc (Nat.le_refl _) (.cells #[.int .u8 (m : Int)] 5)))
                  have hov : ([2] : List UInt8).length + [UInt8.ofNat m].length ≤ 9223372036854775807 := by simp
                  clear hm256
                  go_wp2
                  generalize wr.alloc (.cells #[.int .u8 (m : Int)] 5) = wA at *
                  clear hov hcv o1 hmm
                  go_loopw [14, 15] (fun x i wx => ∃ t r : Nat, q + t = r ∧ t ≤ m ∧ i = .int .i64 r ∧ x = .string ⟨(bodyK 2 p t).toArray⟩ ∧ Below wA.heap.size wA wx) (fun _ i _ => q + m - (intOf i).toNat)
                  case atStart => exact ⟨0, q, rfl, Nat.zero_le _, rfl, by rw [← HB0.out]; rfl, Below.refl _ _⟩
                  case round =>
                    obtain ⟨t, r, hr, ht, rfl, rfl, hbx⟩ := hrel
                    have HBX := Lib.hid hbx
                    have HR := Lib.hid hr
                    by_cases hltm : t < m
                    · have hri : (r : Int) < (q : Int) + (m : Int) := by omega
                      have hrN : r < N := by omega
                      have hrni : (r : Int) < (nl : Int) := by omega
                      have hwx := HLW.out.below hbx
                      have hgr := HGN.out r hrN
                      have cz := hwx.l.cellAt r 0 _ hgr (by omega)
                      rw [Nat.mul_one, Nat.add_zero] at cz
                      have hpat := HPA.out t hltm
                      have hpf := HPF.out t hltm
                      rw [hr] at hpat hpf
                      have hbk := bodyK_flat 2 p t (by rw [HPL.out]; exact hltm)
                      have hbl := bodyK_length 2 p t (by rw [HPL.out]; omega)
                      rw [hpat] at hbk
                      clear hpat hr hwx hgr
                      generalize least.getD r 0 = x1 at *
                      have c0 : wr.cell? ⟨g, r, none⟩ = some (.int .u64 (x1 : Int)) := cz
                      clear cz
                      dsimp only at hbk hpf
                      have K1 := Lib.hid (fun u => key8_any x1 u hpf.1)
                      have K2 := Lib.hid (fun u => rof_any r 2 u (by omega) (by omega) (by omega) (by exact hpf.2))
                      have hew : ewN 2 = 10 := rfl
                      rw [hew] at hbl
                      have hvw : leB (vwN 2) r = leB 2 r := rfl
                      rw [hvw] at hbk
                      have el1 := leB_length 8 x1
                      have el2 := leB_length 2 r
                      have HBK := Lib.hid hbk
                      have hr65 : r < 65536 := hpf.2
                      clear hbk hew hvw hpf
                      generalize leB 8 x1 = s1 at *
                      generalize leB 2 r = s2 at *
                      generalize hBB : bodyK 2 p t = B at *
                      have ov1 : s1.length + s2.length ≤ 9223372036854775807 := by omega
                      have ov2 : B.length + (s1.length + s2.length) ≤ 9223372036854775807 := by omega
                      clear hBB el1 el2 hbl
                      go_wp2_with fail
                      refine (K1.out _).mono ?_
                      rintro e w5 ⟨rfl, hb5⟩
                      go_wp2_with fail
                      refine (K2.out _).mono ?_
                      rintro e w6 ⟨rfl, hb6⟩
                      have HBF := Lib.hid (show Below wA.heap.size wA w6 from (HBX.out.trans (hb5.mono HBX.out.size)).trans (hb6.mono (Nat.le_trans HBX.out.size hb5.size)))
                      clear hb5 hb6 c0 hbx
                      go_wp2
                      refine ⟨⟨t + 1, r + 1, by have := HR.out; omega, by omega, by go_num, by rw [HBK.out], HBF.out⟩, by simp [intOf]; omega⟩
                    · obtain rfl : t = m := by omega
                      have hbw := HLW.out.below hbx
                      have HBW := Lib.hid hbw
                      have hbk := bodyK_all 2 p
                      rw [HPL.out] at hbk
                      rw [hbk]
                      have hbl := bodyL_length 2 p
                      rw [HPL.out] at hbl
                      have CP := Lib.hid (fun u => page6_any (bodyL 2 p) u (by rw [hbl]; show 2 + 10 * t ≤ 124; omega))
                      have hpg : padL (sealL (bodyL 2 p)) = pageL 2 p := rfl
                      rw [hpg] at CP
                      have hpat0 := HPA.out 0 (by omega)
                      rw [Nat.add_zero] at hpat0
                      have hlst : leastL p = least.getD q 0 := congrArg (·.1) hpat0
                      have cz := hbw.l.cellAt q 0 _ (HGN.out q hqN) (by omega)
                      rw [Nat.mul_one, Nat.add_zero] at cz
                      have c0 : wr.cell? ⟨g, q, none⟩ = some (.int .u64 (least.getD q 0 : Nat)) := cz
                      clear cz
                      rw [← hlst] at c0
                      clear hbx hbw hbk hlst hbl hpg hpat0 HB0
                      generalize bodyL 2 p = bl at *
                      generalize hlp : leastL p = lp at *
                      clear hlp
                      have hqnl : (q : Int) < (nl : Int) := by omega
                      obtain ⟨i0, hi0, hz0, hz1, hz2⟩ := info_parts infoU64
                      have HI := Lib.hid (And.intro hi0 (And.intro hz0 (And.intro hz1 hz2)))
                      obtain ⟨j0, hj0, jz0, jz1, jz2⟩ := info_parts infoStr
                      have HJ := Lib.hid (And.intro hj0 (And.intro jz0 (And.intro jz1 jz2)))
                      have hal : Below wr.heap.size wr (wr.alloc (.cells (natC lp).toArray 44)) := (Below.refl _ _).alloc (Nat.le_refl _) _
                      have HA := Lib.hid (HBW.out.below hal)
                      have HM1 := Lib.hid (show (least ++ news).length + 1 ≤ maxLen by have := HLL.out; have := HNL.out; unfold maxLen; omega)
                      have HM2 := Lib.hid (show ((least ++ news).length + 1) * 8 ≤ 140737488355328 by have := HLL.out; have := HNL.out; omega)
                      have HM3 := Lib.hid (show (s.1 ++ (qs.take j).map (pageL 2)).length + 1 ≤ maxLen by have := HOL.out; unfold maxLen; omega)
                      have HM4 := Lib.hid (show ((s.1 ++ (qs.take j).map (pageL 2)).length + 1) * 16 ≤ 140737488355328 by have := HOL.out; omega)
                      clear hi0 hz0 hz1 hz2 hj0 jz0 jz1 jz2 hal
                      go_wp2_with (first
                        | (refine wpList_buildSliceV rfl 54 1 _ rfl #[(0, .int .u64 (lp : Int))] (by simp [go_sem]) _ _ (built_nat lp _) ?_)
                        | (refine wpList_append_recs (f := natC) rfl _ _ 54 rfl 44 i0 _ 1 8 Try.underlying54 HI.out.1 HI.out.2.1 HI.out.2.2.1 HI.out.2.2.2 (by simp [Value.cells]) (by omega) _ _ rfl HA.out.l ⟨wr.heap.size, 0, none⟩ 1 1 [lp] rfl rfl (fun y _ => rfl) (fun y _ => natC_one y) (one_rec (f := natC) (heap_alloc_new wr _)) HM1.out HM2.out ?_; intro v5 w5 hr5 hg5 hv5))
                      have hw5 := HA.out.moreL hr5 hg5 hv5
                      have HW5 := Lib.hid hw5
                      clear hr5 hg5 hv5 hw5 HA c0
                      refine (CP.out _).mono ?_
                      rintro e w6 ⟨rfl, hb6⟩
                      have hw6 := (HW5.out.below hb6).below ((Below.refl w6.heap.size w6).alloc (Nat.le_refl _) (.cells (strC (pageL 2 p)).toArray 9))
                      have HW6 := Lib.hid hw6
                      clear hw6 hb6
                      go_wp2_with (first
                        | (refine wpList_buildSliceV rfl 28 1 _ rfl #[(0, .string ⟨(pageL 2 p).toArray⟩)] (by simp [go_sem]) _ _ (built_str (pageL 2 p) _) ?_)
                        | (refine wpList_append_recs (f := strC) rfl _ _ 28 rfl 9 j0 _ 1 16 Try.underlying28 HJ.out.1 HJ.out.2.1 HJ.out.2.2.1 HJ.out.2.2.2 (by simp [Value.cells]) (by omega) _ _ rfl HW6.out.o ⟨w6.heap.size, 0, none⟩ 1 1 [pageL 2 p] rfl rfl (fun y _ => rfl) (fun y _ => strC_one y) (one_rec (f := strC) (heap_alloc_new w6 _)) HM3.out HM4.out ?_; intro v7 w7 hr7 hg7 hv7))
                      have hw7 := HW6.out.moreO hr7 hg7 hv7
                      rw [List.append_assoc, List.append_assoc, ← HPTK.out, ← HABK.out] at hw7
                      exact ⟨⟨j + 1, q + 12, by have := HQ.out; omega, by omega, by go_num, hw7⟩, by simp [intOf]; omega⟩
              · obtain rfl : j = c2 := by omega
                have hqN : ¬ (q : Int) < (N : Int) := by
                  have : ¬ f + 12 * j < N := fun h => hlt ((HJL.out j).2 h)
                  have := HQ.out
                  omega
                have hw := HW.out
                have htk : qs.take j = qs := List.take_of_length_le (Nat.le_of_eq HC2.out)
                have hak : (aboveL N qs).take j = aboveL N qs := List.take_of_length_le (by rw [aboveL_length, HC2.out]; exact Nat.le_refl _)
                rw [htk, hak] at hw
                have hbl := back_level 2 s.1 qs least (HLEN.out.trans HNN.out.symm)
                rw [← HST2.out, HNN.out] at hbl
                have hs1 : s.1 ++ qs.map (pageL 2) = (stepL s).1 := by rw [HST2.out]; rfl
                rw [hs1] at hw
                obtain ⟨a9, c9, rfl, _, _⟩ := hw.o.form
                have hl9 : (stepL s).1.length = N + j := by rw [← hs1, List.length_append, List.length_map, HNN.out, HC2.out]
                have HWF := Lib.hid hw
                have HBL := Lib.hid hbl
                have HL9 := Lib.hid hl9
                clear hw htk hak hbl hs1 hl9 HW
                go_wp2
                refine ⟨⟨stepL s, d + 1, N, _, HLK3.out, HFS.out, HBL.out, rfl, HWF.out⟩, ?_⟩
                simp only [slLen, intOf]
                have := HL9.out
                omega
          · obtain rfl : e = 1 := by omega
            have hnf : ¬ (1 : Int) < (N : Int) - (f : Int) := by omega
            have hdone := finL_done s (by omega)
            have hre := HW.out.o
            have hbl : (buildL L).length = N := by rw [← HFIN.out, hdone, hN]
            rw [← hdone, HFIN.out] at hre
            have H := Lib.hid (And.intro hre (And.intro HW.out.o3 HW.out.bel))
            clear hdone hre hbl
            go_wp2
            go_ret
            exact ⟨_, rfl, H.out.1, H.out.2.1, H.out.2.2⟩

end Go.Proofs.Ytflboggjbjfkjaa
