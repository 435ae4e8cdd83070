/-
  Whether any space may be, how many pages are used, and which, is as the document says; so is one at its beginning (P5.1).
  No condition: every number, every space, every page.
-/
import Derived.Test.YtcmhijhoemcdcaaSpM
import Derived.Deep.DeepCutAuto
namespace Go.Proofs.Ytcmhijhoemcdcaa.spaceTells
open Go.ChangeShapes Go.WideShapes Go.ChangeAt Go.RowKit
set_option linter.unusedVariables false
set_option linter.unusedSimpArgs false

set_option maxRecDepth 100000 in
set_option maxHeartbeats 4000000 in
theorem core (M N : Int) (a : Option Addr) (n cap : Nat) (l : List UInt8) (pp : Int) (w : World) (hl : BytesAt w a n cap l) :
    Calls Try.prog 3 #[.int .i64 M, .agg #[.int .i64 N, .slice a n cap], .int .i64 pp] w fun e w' => e = .returned (.bool true) ∧ Below w.heap.size w w' := by
  have hb0 : Below w.heap.size w (w.alloc (.cells #[.int .i64 N, .slice a n cap] 24)) := (Below.refl _ _).alloc (Nat.le_refl _) _
  have CF := Lib.hid (few_gen (N := N) (hl.below hb0))
  have HL := Lib.hid (hl.head (m := min n 258) (by omega))
  have hn2 : min n 258 ≤ 258 := by omega
  generalize l.take (min n 258) = L at *
  generalize min n 258 = m at *
  clear hl
  go_enter Try.func3, Try.ntmps3
  go_wp2_with fail
  refine (CF.out).mono ?_
  rintro e w1 ⟨rfl, hb1⟩
  have xs1 : w1.heap[w.heap.size]? = some (.cells (spV N a n cap) 24 (0, 0)) := box_keep hb1
  have b01 : Below w.heap.size w w1 := box_low hb1
  go_upto_region 2 with (refine wpList_store_row rfl _ _ _ rfl w.heap.size (spV N a m cap) rfl rfl 24 _ xs1 sizeSp rfl (spV_one _ _ _ _) ?_)
  have xs2 := heap_setRow_same w1 w.heap.size (spV N a m cap) _ _ xs1
  have b02 : Below w.heap.size w (w1.setRow w.heap.size (spV N a m cap)) := below_setRow b01 (Nat.le_refl _) _
  clear CF hb1 xs1 b01 hb0
  generalize w1.setRow w.heap.size (spV N a m cap) = w2 at *
  have HL2 := Lib.hid (HL.out.below b02)
  have B02 := Lib.hid b02
  have XS2 := Lib.hid xs2
  have hs2 : w.heap.size < w2.heap.size := (Array.getElem?_eq_some_iff.1 xs2).1
  clear xs2 b02 HL
  by_cases hM : M < 0 ∨ 2048 < M
  · have CN := Lib.hid (new_no M w2 hM)
    unfold spV at CN
    go_wp2_with fail
    refine (CN.out).mono ?_
    rintro e w3 ⟨rfl, hb3⟩
    have hk3 : Below w3.heap.size w3 (w3.alloc (.cells #[.int .i64 0, .slice none 0 0] 24)) := (Below.refl _ _).alloc (Nat.le_refl _) _
    have B26 := Lib.hid (hb3.trans (hk3.mono hb3.size))
    clear CN hb3 hk3
    by_cases h0 : M < 0
    · clear hM
      go_upto_region 8 with (fail)
      generalize w3.alloc (.cells #[.int .i64 0, .slice none 0 0] 24) = w6 at *
      have xs6 := (B26.out.block _ hs2).trans XS2.out
      obtain ⟨c0, c1⟩ := sp_cells xs6
      have CL := Lib.hid (flags_rd (N := N) (HL2.out.below B26.out) hn2)
      clear xs6
      go_wp2_with fail
      refine (CL.out).mono ?_
      rintro e w7 ⟨av, cv, rfl, BA7, hb7⟩
      have b27 := B26.out.trans (hb7.mono B26.out.size)
      have HL7 := HL2.out.below b27
      have XS7 := Lib.hid ((b27.block _ hs2).trans XS2.out)
      have B07 := Lib.hid (B02.out.trans (b27.mono B02.out.size))
      have hs7 : w.heap.size < w7.heap.size := (Array.getElem?_eq_some_iff.1 XS7.out).1
      have FL := FU_len N L
      have CM := fun (u : World) (h : Below w7.heap.size w7 u) => may_gen (N := N) (HL7.below h)
      have CC := fun (u : World) (h : Below w7.heap.size w7 u) => count_gen (N := N) (HL7.below h)
      have CU := fun (u : World) (h : Below w7.heap.size w7 u) => used_gen (N := N) (HL7.below h) pp
      have CR := fun (u : World) (h : Below w7.heap.size w7 u) => free_gen (N := N) (HL7.below h)
      clear CL c0 c1 hb7 b27 HL2 B26 B02 XS2 hs2 HL7
      generalize FU N L = F at *
      generalize mayS N L = mb at *
      have CM' := Lib.hid CM
      have CC' := Lib.hid CC
      have CU' := Lib.hid CU
      have CR' := Lib.hid CR
      have BA := Lib.hid BA7
      clear CM CC CU CR BA7
      obtain ⟨j0, ji, jz0, jz1, jz2⟩ := info_parts infoInt
      go_wp2
      go_loopw [11, 12, 13, 14] (fun s11 s12 s13 s14 wr => ∃ i : Nat, i ≤ F.length ∧ s14 = .int .i64 i ∧ s11 = .int .i64 (((F.take i).count true : Nat) : Int) ∧ s12 = .bool (usedB F pp i) ∧ (∃ pv dv, s13 = .slice pv (freeB F i).length dv ∧ wr.ownsRow w7.heap.size 3 1 (.slice pv (freeB F i).length dv) (freeB F i).length (ivals (freeB F i))) ∧ Below w7.heap.size w7 wr) (fun _ _ _ s14 _ => F.length - (intOf s14).toNat)
      case atStart => exact ⟨0, Nat.zero_le _, rfl, by simp, by rw [usedB_zero], ⟨none, 0, by simp [freeB], by simpa [freeB, ivals] using World.ownsRow_nil _ _ _ _⟩, Below.refl _ _⟩
      case round =>
        obtain ⟨i, hin, rfl, rfl, rfl, ⟨pv, dv, rfl, hpo⟩, hb⟩ := hrel
        have hc1 : (F.take i).count true ≤ i := Nat.le_trans (List.count_le_length ..) (by simp; omega)
        have hc2 : (freeB F i).length ≤ i := freeB_len F i
        have HPO := Lib.hid hpo
        have HB := Lib.hid hb
        have hbs := hb.size
        clear hpo hb
        by_cases hlt : i < F.length
        · have hii : (i : Int) < F.length := by omega
          obtain ⟨lb, loff, rfl, hlb, hlc⟩ := BoolsAt.cell (CameAt.below BA.out (by omega) HB.out) (by omega)
          have hcell := hlc i hlt
          have hct := count_take F i hlt
          have hsu := freeB_succ F i
          clear hlc
          cases hv : F.getD i false with
          | true =>
            have hub := usedB_or F pp i hv
            rw [hv] at hcell hct hsu
            rw [if_pos rfl, List.append_nil] at hsu
            rw [if_pos rfl] at hct
            have HSU := Lib.hid hsu
            have HCT := Lib.hid hct
            have HUB := Lib.hid hub
            clear hsu hct hub hv
            generalize hcg : (F.take i).count true = c at *
            have HCG := Lib.hid hcg
            clear hcg
            cases hu : usedB F pp i with
            | true =>
              rw [hu, Bool.true_or] at HUB
              clear hu
              go_wp2
              go_roundw
              case rel => exact ⟨i + 1, by omega, by go_num, by rw [HCT.out]; go_num, by rw [HUB.out], ⟨pv, dv, by rw [HSU.out], by rw [HSU.out]; exact HPO.out⟩, HB.out⟩
              case measure => simp [intOf]; omega
            | false =>
              rw [hu, Bool.false_or] at HUB
              clear hu
              go_wp2
              go_roundw
              case rel => exact ⟨i + 1, by omega, by go_num, by rw [HCT.out]; go_num, by rw [HUB.out], ⟨pv, dv, by rw [HSU.out], by rw [HSU.out]; exact HPO.out⟩, HB.out⟩
              case measure => simp [intOf]; omega
          | false =>
            have hub := usedB_skip F pp i hv
            rw [hv] at hcell hct hsu
            rw [if_neg (by simp)] at hsu
            have hct : (F.take (i + 1)).count true = (F.take i).count true := by rw [hct]; simp
            have HCT := Lib.hid hct
            have HUB := Lib.hid hub
            have HSU := Lib.hid hsu
            have hfl : (freeB F (i + 1)).length = (freeB F i).length + 1 := by rw [hsu]; simp
            have HFL := Lib.hid hfl
            clear hsu hct hub hv hfl
            generalize (freeB F i).length = d at *
            go_wp2_with (at_builtin; refine wpList_append_own _ rfl _ _ 34 rfl w7.heap.size 3 j0 (.int .i64 0) 1 8 Try.underlying34 ji jz0 jz1 jz2 rfl (by decide) _ d _ rfl (HPO.out.alloc _) ⟨wr.heap.size, 0, none⟩ 1 1 [.int .i64 (i : Int)] rfl rfl (cell_one_new _ _ _) (by simp [Value.oneCell']) (by unfold maxLen; omega) (by omega) (by simp; omega) ?_; intro v' w4 hown' hgrow _; obtain ⟨g', cap', rfl⟩ := ownsRow_succ hown'; have hb4 := grown_below' HPO.out HB.out hbs hgrow)
            have HB4 := Lib.hid hb4
            have HPO4 := Lib.hid hown'
            clear hb4 hown' hgrow
            go_roundw
            case rel =>
              exact ⟨i + 1, by omega, by go_num, by rw [HCT.out], by rw [HUB.out], ⟨_, _, by rw [HFL.out], by rw [HFL.out, HSU.out]; simpa [ivals] using HPO4.out⟩, HB4.out⟩
            case measure => simp [intOf]; omega
        · obtain rfl : i = F.length := by omega
          rw [usedB_all, List.take_length]
          rw [List.take_length] at hc1
          have hfe : freeB F F.length = frees F := rfl
          rw [hfe] at HPO hc2 ⊢
          have hnl : ¬ (F.length : Int) < F.length := by omega
          have xsr := (HB.out.block _ hs7).trans XS7.out
          obtain ⟨c0, c1⟩ := sp_cells xsr
          have CMr := Lib.hid (CM'.out _ HB.out)
          have hpi := zints_owned (L := (frees F).map Int.ofNat) (by rw [zvals, ← ivals_eq]; exact HPO.out)
          have HPI := Lib.hid hpi
          have CU2 := Lib.hid (fun u h => CU'.out u h)
          clear xsr hpi hfe CU'
          generalize hub : (decide (0 ≤ pp) && F.getD pp.toNat false) = ub at *
          clear hub
          go_wp2_with fail
          refine (CMr.out).mono ?_
          rintro e w8 ⟨rfl, hb8⟩
          have hmb : (mb == mb) = true := beq_self_eq_true _
          have b78 := HB.out.trans (hb8.mono hbs)
          have xs8 := (b78.block _ hs7).trans XS7.out
          obtain ⟨d0, d1⟩ := sp_cells xs8
          have CCr := Lib.hid (CC'.out _ b78)
          have B78 := Lib.hid b78
          have HP8 := Lib.hid (CameAt.below HPI.out (by omega) hb8)
          clear CMr hb8 b78 xs8 c0 c1
          go_wp2_with fail
          refine (CCr.out).mono ?_
          rintro e w9 ⟨rfl, hb9⟩
          have b79 := B78.out.trans (hb9.mono B78.out.size)
          have xs9 := (b79.block _ hs7).trans XS7.out
          obtain ⟨c0, c1⟩ := sp_cells xs9
          have CUr := Lib.hid (CU2.out _ b79)
          have B79 := Lib.hid b79
          have HP9 := Lib.hid (CameAt.below HP8.out (by omega) hb9)
          clear CCr hb9 b79 xs9 d0 d1
          go_wp2_with fail
          refine (CUr.out).mono ?_
          rintro e w10 ⟨rfl, hb10⟩
          have hubb : (ub == ub) = true := beq_self_eq_true _
          have b70 := B79.out.trans (hb10.mono B79.out.size)
          have xs10 := (b70.block _ hs7).trans XS7.out
          obtain ⟨d0, d1⟩ := sp_cells xs10
          have CRr := Lib.hid (CR'.out _ b70)
          have B70 := Lib.hid b70
          have HP10 := Lib.hid (CameAt.below HP9.out (by omega) hb10)
          clear CUr hb10 b70 xs10 c0 c1
          go_wp2_with fail
          refine (CRr.out).mono ?_
          rintro e w11 ⟨a11, k11, rfl, I11, hb11⟩
          have b71 := B70.out.trans (hb11.mono B70.out.size)
          have CS := Lib.hid (same_any _ _ _ _ _ _ _ _ w11 I11 (CameAt.below HP10.out (by omega) hb11))
          rw [beq_self_eq_true] at CS
          have B71 := Lib.hid b71
          clear CRr hb11 b71 d0 d1 I11
          go_wp2_with fail
          refine (CS.out).mono ?_
          rintro e w12 ⟨rfl, hb12⟩
          have b72 := B71.out.trans (hb12.mono B71.out.size)
          have CAW := Lib.hid (awake05 w12)
          have B72 := Lib.hid b72
          clear CS hb12 b72
          go_wp2_with fail
          refine (CAW.out).mono ?_
          rintro e w13 ⟨rfl, hb13⟩
          have B73 := Lib.hid (B07.out.trans ((B72.out.trans (hb13.mono B72.out.size)).mono B07.out.size))
          clear CAW hb13
          go_wp2
          go_ret
          exact ⟨rfl, B73.out⟩
    · have h1 : 2048 < M := by omega
      clear hM
      go_upto_region 8 with (fail)
      generalize w3.alloc (.cells #[.int .i64 0, .slice none 0 0] 24) = w6 at *
      have xs6 := (B26.out.block _ hs2).trans XS2.out
      obtain ⟨c0, c1⟩ := sp_cells xs6
      have CL := Lib.hid (flags_rd (N := N) (HL2.out.below B26.out) hn2)
      clear xs6
      go_wp2_with fail
      refine (CL.out).mono ?_
      rintro e w7 ⟨av, cv, rfl, BA7, hb7⟩
      have b27 := B26.out.trans (hb7.mono B26.out.size)
      have HL7 := HL2.out.below b27
      have XS7 := Lib.hid ((b27.block _ hs2).trans XS2.out)
      have B07 := Lib.hid (B02.out.trans (b27.mono B02.out.size))
      have hs7 : w.heap.size < w7.heap.size := (Array.getElem?_eq_some_iff.1 XS7.out).1
      have FL := FU_len N L
      have CM := fun (u : World) (h : Below w7.heap.size w7 u) => may_gen (N := N) (HL7.below h)
      have CC := fun (u : World) (h : Below w7.heap.size w7 u) => count_gen (N := N) (HL7.below h)
      have CU := fun (u : World) (h : Below w7.heap.size w7 u) => used_gen (N := N) (HL7.below h) pp
      have CR := fun (u : World) (h : Below w7.heap.size w7 u) => free_gen (N := N) (HL7.below h)
      clear CL c0 c1 hb7 b27 HL2 B26 B02 XS2 hs2 HL7
      generalize FU N L = F at *
      generalize mayS N L = mb at *
      have CM' := Lib.hid CM
      have CC' := Lib.hid CC
      have CU' := Lib.hid CU
      have CR' := Lib.hid CR
      have BA := Lib.hid BA7
      clear CM CC CU CR BA7
      obtain ⟨j0, ji, jz0, jz1, jz2⟩ := info_parts infoInt
      go_wp2
      go_loopw [11, 12, 13, 14] (fun s11 s12 s13 s14 wr => ∃ i : Nat, i ≤ F.length ∧ s14 = .int .i64 i ∧ s11 = .int .i64 (((F.take i).count true : Nat) : Int) ∧ s12 = .bool (usedB F pp i) ∧ (∃ pv dv, s13 = .slice pv (freeB F i).length dv ∧ wr.ownsRow w7.heap.size 3 1 (.slice pv (freeB F i).length dv) (freeB F i).length (ivals (freeB F i))) ∧ Below w7.heap.size w7 wr) (fun _ _ _ s14 _ => F.length - (intOf s14).toNat)
      case atStart => exact ⟨0, Nat.zero_le _, rfl, by simp, by rw [usedB_zero], ⟨none, 0, by simp [freeB], by simpa [freeB, ivals] using World.ownsRow_nil _ _ _ _⟩, Below.refl _ _⟩
      case round =>
        obtain ⟨i, hin, rfl, rfl, rfl, ⟨pv, dv, rfl, hpo⟩, hb⟩ := hrel
        have hc1 : (F.take i).count true ≤ i := Nat.le_trans (List.count_le_length ..) (by simp; omega)
        have hc2 : (freeB F i).length ≤ i := freeB_len F i
        have HPO := Lib.hid hpo
        have HB := Lib.hid hb
        have hbs := hb.size
        clear hpo hb
        by_cases hlt : i < F.length
        · have hii : (i : Int) < F.length := by omega
          obtain ⟨lb, loff, rfl, hlb, hlc⟩ := BoolsAt.cell (CameAt.below BA.out (by omega) HB.out) (by omega)
          have hcell := hlc i hlt
          have hct := count_take F i hlt
          have hsu := freeB_succ F i
          clear hlc
          cases hv : F.getD i false with
          | true =>
            have hub := usedB_or F pp i hv
            rw [hv] at hcell hct hsu
            rw [if_pos rfl, List.append_nil] at hsu
            rw [if_pos rfl] at hct
            have HSU := Lib.hid hsu
            have HCT := Lib.hid hct
            have HUB := Lib.hid hub
            clear hsu hct hub hv
            generalize hcg : (F.take i).count true = c at *
            have HCG := Lib.hid hcg
            clear hcg
            cases hu : usedB F pp i with
            | true =>
              rw [hu, Bool.true_or] at HUB
              clear hu
              go_wp2
              go_roundw
              case rel => exact ⟨i + 1, by omega, by go_num, by rw [HCT.out]; go_num, by rw [HUB.out], ⟨pv, dv, by rw [HSU.out], by rw [HSU.out]; exact HPO.out⟩, HB.out⟩
              case measure => simp [intOf]; omega
            | false =>
              rw [hu, Bool.false_or] at HUB
              clear hu
              go_wp2
              go_roundw
              case rel => exact ⟨i + 1, by omega, by go_num, by rw [HCT.out]; go_num, by rw [HUB.out], ⟨pv, dv, by rw [HSU.out], by rw [HSU.out]; exact HPO.out⟩, HB.out⟩
              case measure => simp [intOf]; omega
          | false =>
            have hub := usedB_skip F pp i hv
            rw [hv] at hcell hct hsu
            rw [if_neg (by simp)] at hsu
            have hct : (F.take (i + 1)).count true = (F.take i).count true := by rw [hct]; simp
            have HCT := Lib.hid hct
            have HUB := Lib.hid hub
            have HSU := Lib.hid hsu
            have hfl : (freeB F (i + 1)).length = (freeB F i).length + 1 := by rw [hsu]; simp
            have HFL := Lib.hid hfl
            clear hsu hct hub hv hfl
            generalize (freeB F i).length = d at *
            go_wp2_with (at_builtin; refine wpList_append_own _ rfl _ _ 34 rfl w7.heap.size 3 j0 (.int .i64 0) 1 8 Try.underlying34 ji jz0 jz1 jz2 rfl (by decide) _ d _ rfl (HPO.out.alloc _) ⟨wr.heap.size, 0, none⟩ 1 1 [.int .i64 (i : Int)] rfl rfl (cell_one_new _ _ _) (by simp [Value.oneCell']) (by unfold maxLen; omega) (by omega) (by simp; omega) ?_; intro v' w4 hown' hgrow _; obtain ⟨g', cap', rfl⟩ := ownsRow_succ hown'; have hb4 := grown_below' HPO.out HB.out hbs hgrow)
            have HB4 := Lib.hid hb4
            have HPO4 := Lib.hid hown'
            clear hb4 hown' hgrow
            go_roundw
            case rel =>
              exact ⟨i + 1, by omega, by go_num, by rw [HCT.out], by rw [HUB.out], ⟨_, _, by rw [HFL.out], by rw [HFL.out, HSU.out]; simpa [ivals] using HPO4.out⟩, HB4.out⟩
            case measure => simp [intOf]; omega
        · obtain rfl : i = F.length := by omega
          rw [usedB_all, List.take_length]
          rw [List.take_length] at hc1
          have hfe : freeB F F.length = frees F := rfl
          rw [hfe] at HPO hc2 ⊢
          have hnl : ¬ (F.length : Int) < F.length := by omega
          have xsr := (HB.out.block _ hs7).trans XS7.out
          obtain ⟨c0, c1⟩ := sp_cells xsr
          have CMr := Lib.hid (CM'.out _ HB.out)
          have hpi := zints_owned (L := (frees F).map Int.ofNat) (by rw [zvals, ← ivals_eq]; exact HPO.out)
          have HPI := Lib.hid hpi
          have CU2 := Lib.hid (fun u h => CU'.out u h)
          clear xsr hpi hfe CU'
          generalize hub : (decide (0 ≤ pp) && F.getD pp.toNat false) = ub at *
          clear hub
          go_wp2_with fail
          refine (CMr.out).mono ?_
          rintro e w8 ⟨rfl, hb8⟩
          have hmb : (mb == mb) = true := beq_self_eq_true _
          have b78 := HB.out.trans (hb8.mono hbs)
          have xs8 := (b78.block _ hs7).trans XS7.out
          obtain ⟨d0, d1⟩ := sp_cells xs8
          have CCr := Lib.hid (CC'.out _ b78)
          have B78 := Lib.hid b78
          have HP8 := Lib.hid (CameAt.below HPI.out (by omega) hb8)
          clear CMr hb8 b78 xs8 c0 c1
          go_wp2_with fail
          refine (CCr.out).mono ?_
          rintro e w9 ⟨rfl, hb9⟩
          have b79 := B78.out.trans (hb9.mono B78.out.size)
          have xs9 := (b79.block _ hs7).trans XS7.out
          obtain ⟨c0, c1⟩ := sp_cells xs9
          have CUr := Lib.hid (CU2.out _ b79)
          have B79 := Lib.hid b79
          have HP9 := Lib.hid (CameAt.below HP8.out (by omega) hb9)
          clear CCr hb9 b79 xs9 d0 d1
          go_wp2_with fail
          refine (CUr.out).mono ?_
          rintro e w10 ⟨rfl, hb10⟩
          have hubb : (ub == ub) = true := beq_self_eq_true _
          have b70 := B79.out.trans (hb10.mono B79.out.size)
          have xs10 := (b70.block _ hs7).trans XS7.out
          obtain ⟨d0, d1⟩ := sp_cells xs10
          have CRr := Lib.hid (CR'.out _ b70)
          have B70 := Lib.hid b70
          have HP10 := Lib.hid (CameAt.below HP9.out (by omega) hb10)
          clear CUr hb10 b70 xs10 c0 c1
          go_wp2_with fail
          refine (CRr.out).mono ?_
          rintro e w11 ⟨a11, k11, rfl, I11, hb11⟩
          have b71 := B70.out.trans (hb11.mono B70.out.size)
          have CS := Lib.hid (same_any _ _ _ _ _ _ _ _ w11 I11 (CameAt.below HP10.out (by omega) hb11))
          rw [beq_self_eq_true] at CS
          have B71 := Lib.hid b71
          clear CRr hb11 b71 d0 d1 I11
          go_wp2_with fail
          refine (CS.out).mono ?_
          rintro e w12 ⟨rfl, hb12⟩
          have b72 := B71.out.trans (hb12.mono B71.out.size)
          have CAW := Lib.hid (awake05 w12)
          have B72 := Lib.hid b72
          clear CS hb12 b72
          go_wp2_with fail
          refine (CAW.out).mono ?_
          rintro e w13 ⟨rfl, hb13⟩
          have B73 := Lib.hid (B07.out.trans ((B72.out.trans (hb13.mono B72.out.size)).mono B07.out.size))
          clear CAW hb13
          go_wp2
          go_ret
          exact ⟨rfl, B73.out⟩
  · obtain ⟨k, rfl⟩ : ∃ k : Nat, M = k := ⟨M.toNat, by omega⟩
    have hk : k ≤ 2048 := by omega
    have CN := Lib.hid (show Calls Try.prog 8 #[.int .i64 k] w2 (fun e w' => ∃ a n cap, e = .returned (.tuple #[.agg #[.int .i64 k, .slice a n cap], .int .i64 0]) ∧ SpAt w' k a n cap (List.replicate k false) ∧ Below w2.heap.size w2 w') from by
      have := sp_rd (by simpa using hk) (new_ok k w2 hk)
      unfold SpRd at this
      simpa only [List.length_replicate] using this)
    have h0 : ¬ ((k : Int) < 0) := by omega
    have h1 : ¬ (2048 < (k : Int)) := by omega
    clear hM
    go_wp2_with fail
    refine (CN.out).mono ?_
    rintro e w3 ⟨a3, n3, k3, rfl, S3, hb3⟩
    have b24 : Below w2.heap.size w2 (w3.alloc (.cells #[.int .i64 k, .slice a3 n3 k3] 24)) := hb3.alloc hb3.size _
    have xx : (w3.alloc (.cells #[.int .i64 k, .slice a3 n3 k3] 24)).heap[w3.heap.size]? = some (.cells (spV k a3 n3 k3) 24 (0, 0)) := heap_alloc_new w3 _
    have S4 := S3.below (show Below w3.heap.size w3 (w3.alloc (.cells #[.int .i64 k, .slice a3 n3 k3] 24)) from (Below.refl _ _).alloc (Nat.le_refl _) _)
    obtain ⟨d0, d1⟩ := sp_cells xx
    clear hb3 S3 CN
    go_upto_region 6 with (fail)
    generalize w3.alloc (.cells #[.int .i64 k, .slice a3 n3 k3] 24) = w4 at *
    have hmk := mk_bools k (by omega)
    have XX4 := Lib.hid xx
    have hx4 : w3.heap.size < w4.heap.size := (Array.getElem?_eq_some_iff.1 xx).1
    have MB4 := Lib.hid (made_bools k (by omega) w4)
    have S4' := Lib.hid S4
    have B24 := Lib.hid b24
    clear S4 b24 xx
    refine region_head 10 [0, 1, 2, 3, 4, 5, 6, 7, 8, 9] [2, 3, 4] (fun u => u.cell? ⟨w3.heap.size, 0, none⟩ = some (.int .i64 k) ∧ u.cell? ⟨w3.heap.size, 1, none⟩ = some (.slice a3 n3 k3)) (by kernel_rfl) (by kernel_rfl) ⟨d0, d1⟩ ?_
    simp only [pickO, List.filterMap_cons, List.filterMap_nil, List.getElem?_cons_zero, List.getElem?_cons_succ, Option.map_some, List.drop_succ_cons, List.drop_zero]
    clear d0 d1
    iterate 2
      refine seqH_read _ rfl rfl (by rintro u ⟨hu1, hu2⟩; go_simp; with_reducible rfl) ?_
      try simp only [Act.put, List.setIfInBounds_toArray, List.set_cons_zero, List.set_cons_succ]
    refine seqH_move rfl rfl (fun K hK => ?_)
    go_simp
    have b45 : Below w4.heap.size w4 (w4.alloc (.cells (madeCells #[.bool false] k) 4)).drew := below_drewN ((Below.refl _ _).alloc (Nat.le_refl _) _) 1
    have mb5 : BoolsAt (w4.alloc (.cells (madeCells #[.bool false] k) 4)).drew (some ⟨w4.heap.size, 0, none⟩) k k (List.replicate k false) := CameAt.below MB4.out (by omega) (below_drewN (Below.refl _ _) 1)
    clear hmk
    generalize (w4.alloc (.cells (madeCells #[.bool false] k) 4)).drew = w5 at *
    have x5 := (b45.block _ hx4).trans XX4.out
    obtain ⟨d0, d1⟩ := sp_cells x5
    refine hK _ _ ⟨d0, d1⟩ ?_
    have X5 := Lib.hid x5
    have B45 := Lib.hid b45
    have CO := Lib.hid (rof_any _ k k _ w5 mb5 hk)
    unfold FreshSp spV at CO
    simp only [List.length_replicate, id] at CO
    clear hK K d0 d1 x5 b45 mb5
    try simp only [Act.put, List.setIfInBounds_toArray, List.set_cons_zero, List.set_cons_succ]
    refine seqH_move rfl rfl (fun K hK => ?_)
    go_simp
    refine (CO.out).mono ?_
    rintro e w6 ⟨a6, n6, k6, rfl, ho6, hb6⟩
    have S6 := FreshSp.at (by simpa using hk) ho6
    rw [List.length_replicate] at S6
    have x6 := (hb6.block _ (Array.getElem?_eq_some_iff.1 X5.out).1).trans X5.out
    have b46 := B45.out.trans (hb6.mono B45.out.size)
    have CS := Lib.hid (rsame_any k k a3 a6 n3 k3 n6 k6 _ _ w6 (S4'.out.oct.below b46) S6.oct)
    rw [decide_eq_true rfl, beq_self_eq_true] at CS
    unfold spV at CS
    obtain ⟨d0, d1⟩ := sp_cells x6
    refine hK _ _ ⟨d0, d1⟩ ?_
    have X6 := Lib.hid x6
    have B46 := Lib.hid b46
    clear hK K CO ho6 hb6 S6 x6 b46 d0 d1
    try simp only [Act.put, List.setIfInBounds_toArray, List.set_cons_zero, List.set_cons_succ]
    refine seqH_move rfl rfl (fun K hK => ?_)
    go_simp
    refine (CS.out).mono ?_
    rintro e w6' ⟨rfl, hb7⟩
    have x7 := (hb7.block _ (Array.getElem?_eq_some_iff.1 X6.out).1).trans X6.out
    have B26 := Lib.hid (B24.out.trans ((B46.out.trans (hb7.mono B46.out.size)).mono B24.out.size))
    obtain ⟨d0, d1⟩ := sp_cells x7
    refine hK _ _ ⟨d0, d1⟩ ?_
    clear hK K CS hb7 x7 d0 d1
    try simp only [Act.put, List.setIfInBounds_toArray, List.set_cons_zero, List.set_cons_succ]
    iterate 2
      refine seqH_read _ rfl rfl (by rintro u ⟨hu1, hu2⟩; clear hu1 hu2; go_simp; with_reducible rfl) ?_
      try simp only [Act.put, List.setIfInBounds_toArray, List.set_cons_zero, List.set_cons_succ]
    iterate 2
      refine seqH_readG _ rfl (by rfl) (by rintro u ⟨hu1, hu2⟩; clear hu1 hu2; go_simp; with_reducible rfl) ?_
      try simp only [Act.put, List.setIfInBounds_toArray, List.set_cons_zero, List.set_cons_succ]
    refine seqH_read _ rfl rfl (by rintro u ⟨hu1, hu2⟩; clear hu1 hu2; go_simp; with_reducible rfl) ?_
    try simp only [Act.put, List.setIfInBounds_toArray, List.set_cons_zero, List.set_cons_succ]
    refine seqH_nil ?_
    go_upto_region 8 with (fail)
    have xs6 := (B26.out.block _ hs2).trans XS2.out
    obtain ⟨c0, c1⟩ := sp_cells xs6
    have CL := Lib.hid (flags_rd (N := N) (HL2.out.below B26.out) hn2)
    clear xs6
    go_wp2_with fail
    refine (CL.out).mono ?_
    rintro e w7 ⟨av, cv, rfl, BA7, hb7⟩
    have b27 := B26.out.trans (hb7.mono B26.out.size)
    have HL7 := HL2.out.below b27
    have XS7 := Lib.hid ((b27.block _ hs2).trans XS2.out)
    have B07 := Lib.hid (B02.out.trans (b27.mono B02.out.size))
    have hs7 : w.heap.size < w7.heap.size := (Array.getElem?_eq_some_iff.1 XS7.out).1
    have FL := FU_len N L
    have CM := fun (u : World) (h : Below w7.heap.size w7 u) => may_gen (N := N) (HL7.below h)
    have CC := fun (u : World) (h : Below w7.heap.size w7 u) => count_gen (N := N) (HL7.below h)
    have CU := fun (u : World) (h : Below w7.heap.size w7 u) => used_gen (N := N) (HL7.below h) pp
    have CR := fun (u : World) (h : Below w7.heap.size w7 u) => free_gen (N := N) (HL7.below h)
    clear CL c0 c1 hb7 b27 HL2 B26 B02 XS2 hs2 HL7
    generalize FU N L = F at *
    generalize mayS N L = mb at *
    have CM' := Lib.hid CM
    have CC' := Lib.hid CC
    have CU' := Lib.hid CU
    have CR' := Lib.hid CR
    have BA := Lib.hid BA7
    clear CM CC CU CR BA7
    obtain ⟨j0, ji, jz0, jz1, jz2⟩ := info_parts infoInt
    go_wp2
    go_loopw [11, 12, 13, 14] (fun s11 s12 s13 s14 wr => ∃ i : Nat, i ≤ F.length ∧ s14 = .int .i64 i ∧ s11 = .int .i64 (((F.take i).count true : Nat) : Int) ∧ s12 = .bool (usedB F pp i) ∧ (∃ pv dv, s13 = .slice pv (freeB F i).length dv ∧ wr.ownsRow w7.heap.size 3 1 (.slice pv (freeB F i).length dv) (freeB F i).length (ivals (freeB F i))) ∧ Below w7.heap.size w7 wr) (fun _ _ _ s14 _ => F.length - (intOf s14).toNat)
    case atStart => exact ⟨0, Nat.zero_le _, rfl, by simp, by rw [usedB_zero], ⟨none, 0, by simp [freeB], by simpa [freeB, ivals] using World.ownsRow_nil _ _ _ _⟩, Below.refl _ _⟩
    case round =>
      obtain ⟨i, hin, rfl, rfl, rfl, ⟨pv, dv, rfl, hpo⟩, hb⟩ := hrel
      have hc1 : (F.take i).count true ≤ i := Nat.le_trans (List.count_le_length ..) (by simp; omega)
      have hc2 : (freeB F i).length ≤ i := freeB_len F i
      have HPO := Lib.hid hpo
      have HB := Lib.hid hb
      have hbs := hb.size
      clear hpo hb
      by_cases hlt : i < F.length
      · have hii : (i : Int) < F.length := by omega
        obtain ⟨lb, loff, rfl, hlb, hlc⟩ := BoolsAt.cell (CameAt.below BA.out (by omega) HB.out) (by omega)
        have hcell := hlc i hlt
        have hct := count_take F i hlt
        have hsu := freeB_succ F i
        clear hlc
        cases hv : F.getD i false with
        | true =>
          have hub := usedB_or F pp i hv
          rw [hv] at hcell hct hsu
          rw [if_pos rfl, List.append_nil] at hsu
          rw [if_pos rfl] at hct
          have HSU := Lib.hid hsu
          have HCT := Lib.hid hct
          have HUB := Lib.hid hub
          clear hsu hct hub hv
          generalize hcg : (F.take i).count true = c at *
          have HCG := Lib.hid hcg
          clear hcg
          cases hu : usedB F pp i with
          | true =>
            rw [hu, Bool.true_or] at HUB
            clear hu
            go_wp2
            go_roundw
            case rel => exact ⟨i + 1, by omega, by go_num, by rw [HCT.out]; go_num, by rw [HUB.out], ⟨pv, dv, by rw [HSU.out], by rw [HSU.out]; exact HPO.out⟩, HB.out⟩
            case measure => simp [intOf]; omega
          | false =>
            rw [hu, Bool.false_or] at HUB
            clear hu
            go_wp2
            go_roundw
            case rel => exact ⟨i + 1, by omega, by go_num, by rw [HCT.out]; go_num, by rw [HUB.out], ⟨pv, dv, by rw [HSU.out], by rw [HSU.out]; exact HPO.out⟩, HB.out⟩
            case measure => simp [intOf]; omega
        | false =>
          have hub := usedB_skip F pp i hv
          rw [hv] at hcell hct hsu
          rw [if_neg (by simp)] at hsu
          have hct : (F.take (i + 1)).count true = (F.take i).count true := by rw [hct]; simp
          have HCT := Lib.hid hct
          have HUB := Lib.hid hub
          have HSU := Lib.hid hsu
          have hfl : (freeB F (i + 1)).length = (freeB F i).length + 1 := by rw [hsu]; simp
          have HFL := Lib.hid hfl
          clear hsu hct hub hv hfl
          generalize (freeB F i).length = d at *
          go_wp2_with (at_builtin; refine wpList_append_own _ rfl _ _ 34 rfl w7.heap.size 3 j0 (.int .i64 0) 1 8 Try.underlying34 ji jz0 jz1 jz2 rfl (by decide) _ d _ rfl (HPO.out.alloc _) ⟨wr.heap.size, 0, none⟩ 1 1 [.int .i64 (i : Int)] rfl rfl (cell_one_new _ _ _) (by simp [Value.oneCell']) (by unfold maxLen; omega) (by omega) (by simp; omega) ?_; intro v' w4 hown' hgrow _; obtain ⟨g', cap', rfl⟩ := ownsRow_succ hown'; have hb4 := grown_below' HPO.out HB.out hbs hgrow)
          have HB4 := Lib.hid hb4
          have HPO4 := Lib.hid hown'
          clear hb4 hown' hgrow
          go_roundw
          case rel =>
            exact ⟨i + 1, by omega, by go_num, by rw [HCT.out], by rw [HUB.out], ⟨_, _, by rw [HFL.out], by rw [HFL.out, HSU.out]; simpa [ivals] using HPO4.out⟩, HB4.out⟩
          case measure => simp [intOf]; omega
      · obtain rfl : i = F.length := by omega
        rw [usedB_all, List.take_length]
        rw [List.take_length] at hc1
        have hfe : freeB F F.length = frees F := rfl
        rw [hfe] at HPO hc2 ⊢
        have hnl : ¬ (F.length : Int) < F.length := by omega
        have xsr := (HB.out.block _ hs7).trans XS7.out
        obtain ⟨c0, c1⟩ := sp_cells xsr
        have CMr := Lib.hid (CM'.out _ HB.out)
        have hpi := zints_owned (L := (frees F).map Int.ofNat) (by rw [zvals, ← ivals_eq]; exact HPO.out)
        have HPI := Lib.hid hpi
        have CU2 := Lib.hid (fun u h => CU'.out u h)
        clear xsr hpi hfe CU'
        generalize hub : (decide (0 ≤ pp) && F.getD pp.toNat false) = ub at *
        clear hub
        go_wp2_with fail
        refine (CMr.out).mono ?_
        rintro e w8 ⟨rfl, hb8⟩
        have hmb : (mb == mb) = true := beq_self_eq_true _
        have b78 := HB.out.trans (hb8.mono hbs)
        have xs8 := (b78.block _ hs7).trans XS7.out
        obtain ⟨d0, d1⟩ := sp_cells xs8
        have CCr := Lib.hid (CC'.out _ b78)
        have B78 := Lib.hid b78
        have HP8 := Lib.hid (CameAt.below HPI.out (by omega) hb8)
        clear CMr hb8 b78 xs8 c0 c1
        go_wp2_with fail
        refine (CCr.out).mono ?_
        rintro e w9 ⟨rfl, hb9⟩
        have b79 := B78.out.trans (hb9.mono B78.out.size)
        have xs9 := (b79.block _ hs7).trans XS7.out
        obtain ⟨c0, c1⟩ := sp_cells xs9
        have CUr := Lib.hid (CU2.out _ b79)
        have B79 := Lib.hid b79
        have HP9 := Lib.hid (CameAt.below HP8.out (by omega) hb9)
        clear CCr hb9 b79 xs9 d0 d1
        go_wp2_with fail
        refine (CUr.out).mono ?_
        rintro e w10 ⟨rfl, hb10⟩
        have hubb : (ub == ub) = true := beq_self_eq_true _
        have b70 := B79.out.trans (hb10.mono B79.out.size)
        have xs10 := (b70.block _ hs7).trans XS7.out
        obtain ⟨d0, d1⟩ := sp_cells xs10
        have CRr := Lib.hid (CR'.out _ b70)
        have B70 := Lib.hid b70
        have HP10 := Lib.hid (CameAt.below HP9.out (by omega) hb10)
        clear CUr hb10 b70 xs10 c0 c1
        go_wp2_with fail
        refine (CRr.out).mono ?_
        rintro e w11 ⟨a11, k11, rfl, I11, hb11⟩
        have b71 := B70.out.trans (hb11.mono B70.out.size)
        have CS := Lib.hid (same_any _ _ _ _ _ _ _ _ w11 I11 (CameAt.below HP10.out (by omega) hb11))
        rw [beq_self_eq_true] at CS
        have B71 := Lib.hid b71
        clear CRr hb11 b71 d0 d1 I11
        go_wp2_with fail
        refine (CS.out).mono ?_
        rintro e w12 ⟨rfl, hb12⟩
        have b72 := B71.out.trans (hb12.mono B71.out.size)
        have CAW := Lib.hid (awake05 w12)
        have B72 := Lib.hid b72
        clear CS hb12 b72
        go_wp2_with fail
        refine (CAW.out).mono ?_
        rintro e w13 ⟨rfl, hb13⟩
        have B73 := Lib.hid (B07.out.trans ((B72.out.trans (hb13.mono B72.out.size)).mono B07.out.size))
        clear CAW hb13
        go_wp2
        go_ret
        exact ⟨rfl, B73.out⟩

theorem walk (M : Int) (v : Value) {H : Type} {enc : TypeId × Value → H} (d : DataW H) (p : List MemPlace) (pp : Int) (W : World) {r : Reach} {b0 base : Nat} {sp : Nat → Bool} {held : Bool} (w0 : (Lit.int .i64 M).wf = true)
    (hv : Value.okWide Try.prog W r b0 24 v) (h : DataW.Trod enc Try.prog W base sp held 24 v d p) (w2 : (Lit.int .i64 pp).wf = true) :
    Calls Try.prog 3 #[.int .i64 M, v, .int .i64 pp] W fun e w' => e = .returned (.bool true) ∧ Below W.heap.size W w' := by
  obtain ⟨N, a, n, cap, l, rfl, hl⟩ := open_space hv h
  exact core M N a n cap l pp W hl

theorem own : ownKnob Try.prog.godebug = none := by kernel_rfl
theorem laidOut : laidOutB Try.prog = true := by kernel_rfl

set_option maxRecDepth 100000 in
theorem lifted (os : Os) (started : os.Started) (H : Type) (enc : TypeId × Value → H) :
    ReturnsInHanded {} Try.checked os 3 .any (Rows.spaceTellsSpec.pre6 enc Try.prog Try.f3 Rows.spaceTellsRow.domain false) (Rows.spaceTellsSpec.post enc Try.prog Try.f3 false true false false) := by
  refine returnsInHanded_of_change (C := Try.checked) own started (by kernel_rfl) Try.func3
    (ChangeSpec.witness6 (enc := enc) (C := Try.checked) false ⟨#[], #[.int .i64 0, .agg #[.int .i64 0, .slice none 0 0], .int .i64 0], []⟩ 8 (by kernel_rfl) (by kernel_rfl) (by kernel_rfl) (by kernel_rfl)) ?_
  intro W base args ds gs before hval0 hW hcnd _
  have hval : ∀ (j : Nat) t v, Try.f3.params[j]? = some t → args[j]? = some v → Value.okWide Try.prog W .any base t v := hval0
  have hW' := hW
  obtain ⟨p, q, hA0, hV, rfl, hfz, hnd⟩ := hW
  have hA : DataW.TrodAll enc Try.prog W 0 (fun _ => true) true Try.f3.params.toList args.toList ds p := hA0
  rw [Try.params3] at hA hval
  obtain ⟨v0, vs0, d0, ds0, p0, q0, hargs, rfl, rfl, h0, r0⟩ := trodAll_cons hA
  obtain ⟨v1, vs1, d1, ds1, p1, q1, rfl, rfl, rfl, h1, r1⟩ := trodAll_cons r0
  obtain ⟨v2, vs2, d2, ds2, p2, q2, rfl, rfl, rfl, h2, r2⟩ := trodAll_cons r1
  obtain ⟨rfl, rfl, rfl⟩ := trodAll_nil r2
  obtain rfl : args = #[v0, v1, v2] := by cases args; simp_all
  obtain ⟨rfl, rfl⟩ := trodVars_none hV
  obtain ⟨a0, rfl, rfl, rfl, w0⟩ := open_int Try.underlying3 (hval 0 3 v0 rfl rfl) h0
  have k1 := h1
  have lt1 : ∀ x ∈ p1, x.block < W.heap.size := by obtain ⟨m, hm⟩ := k1; exact DataW.trod_lt m _ _ _ hm
  obtain ⟨a2, rfl, rfl, rfl, w2⟩ := open_int Try.underlying3 (hval 2 3 v2 rfl rfl) h2
  clear hA0 hval0
  refine (walk a0 v1 d1 p1 a2 W w0 (hval 1 24 v1 rfl rfl) k1 w2).mono fun e W' ⟨he, bel⟩ => ?_
  subst he
  exact ⟨_, rfl, _, _, _, [], _, [], hW', trodAll_mk1 (shut_bool Try.underlying4 _), (trodAll_cons_mk (shut_int Try.underlying3 w0) (trodAll_cons_mk (Below.trod laidOut (by kernel_rfl) (of_decide_eq_true (by kernel_rfl)) k1 bel lt1) (trodAll_cons_mk (shut_int Try.underlying3 w2) trodAll_mk0))), rfl, bel.frame _, fun h => by cases h⟩

theorem proved : Rows.SpaceTellsSaid :=
  OpenClaim.holds_of_wide 3 Try.f3 rfl rfl rfl rfl rfl rfl rfl ⟨rfl, rfl, rfl, rfl, rfl⟩ rfl rfl rfl rfl rfl (by kernel_rfl) Try.func3 (by kernel_rfl)
    (of_decide_eq_true (by kernel_rfl)) (by unfold Func.isWrapper; first | (rw [if_pos (by decide +kernel)]; kernel_rfl) | (rw [if_neg (by decide +kernel)]; exact ⟨rfl, rfl⟩))
    (fun os started H enc _ => lifted os started H enc)

end Go.Proofs.Ytcmhijhoemcdcaa.spaceTells
