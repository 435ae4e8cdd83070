/-
  The pages of any pairs, and how many there are, are the document's, or refused (P6.1).
  No condition: whatever pairs, whatever number.
-/
import Derived.Test.YtflboggjbjfkjaaTrO
import Derived.Test.YtflboggjbjfkjaaTrM
import Derived.Deep.DeepCutAuto
import Derived.Deep.CutBlock
namespace Go.Proofs.Ytflboggjbjfkjaa.treeBuilds
open Go.ChangeShapes Go.WideShapes Go.ChangeAt Go.RowKit
open Go.ChangeMaps (open_string shut_string)
set_option linter.unusedVariables false
set_option linter.unusedSimpArgs false
set_option maxRecDepth 100000

def cntZ (num : Int) : Nat := if 0 ≤ num ∧ num ≤ 600 then pagesN num.toNat else 0
theorem pagesZ (num : Int) (w : World) : Calls Try.prog 10 #[.int .i64 num] w fun e w' => e = .returned (.int .i64 (cntZ num : Nat)) ∧ w = w' := by
  unfold cntZ
  by_cases h : 0 ≤ num ∧ num ≤ 600
  · rw [if_pos h]
    obtain ⟨k, rfl⟩ := Int.eq_ofNat_of_zero_le h.1
    rw [Int.toNat_natCast]
    exact pages_any k w (by omega)
  · rw [if_neg h]
    exact pages_out num w (by omega)

set_option maxHeartbeats 4000000 in
theorem walk (a : Option Addr) (n cap : Nat) (L0 : List (Nat × Nat)) (num : Int) (w : World) (he : CameAt pairC 2 w a n cap L0) (hg : ∀ x ∈ L0, x.1 < 18446744073709551616 ∧ x.2 < 18446744073709551616) (hk : (Lit.int .i64 num).wf = true) :
    Calls Try.prog 3 #[.slice a n cap, .int .i64 num] w fun e w' => e = .returned (.bool true) ∧ Below w.heap.size w w' := by
  have CF := Lib.hid (few6_any a n cap L0 w he)
  have hf : Fits 1 (L0.take 601) := fun p hp => hg p (List.mem_of_mem_take hp)
  have HF := Lib.hid hf
  clear he hg hk hf
  generalize L0.take 601 = L at *
  have CW := Lib.hid (fun u => awake6_any u)
  have CP := Lib.hid (fun u => pagesZ num u)
  have HCN := Lib.hid (show cntZ num = if 0 ≤ num ∧ num ≤ 600 then pagesN num.toNat else 0 from rfl)
  have hcn : cntZ num ≤ 100 := by
    unfold cntZ
    split
    · rename_i h; have := pagesN_le num.toNat (by omega); omega
    · omega
  generalize cntZ num = cnt at *
  go_enter Try.func3, Try.ntmps3
  go_wp2_with fail
  refine (CF.out).mono ?_
  rintro e w1 ⟨⟨m, hm, rfl, he⟩, rfl⟩
  have HE := Lib.hid he
  have HLN := Lib.hid he.1
  cases hmy : mayL L with
  | false =>
    have CB := Lib.hid (build_no a m cap L w he hmy)
    have CM := fun u (h : Below w.heap.size w u) => may6_any a m cap L u (CameAt.below HE.out (Nat.zero_lt_succ 1) h)
    rw [hmy] at CM
    have CM := Lib.hid CM
    clear he hmy CF
    go_wp2_with fail
    refine (CB.out).mono ?_
    rintro e w2 ⟨rfl, hb2⟩
    have HB2 := Lib.hid hb2
    clear hb2 CB

    go_upto_region 4 with (fail)
    go_cut [22] (fun s22 wx => s22 = .bool (decide (0 ≤ num ∧ num ≤ 600)) ∧ wx = w2)
    case first =>
      by_cases h0 : 0 ≤ num
      · by_cases h6 : num ≤ 600
        · have HH := Lib.hid (decide_eq_true (show 0 ≤ num ∧ num ≤ 600 from ⟨h0, h6⟩))
          go_wp2
          go_meet
          exact ⟨by rw [HH.out], rfl⟩
        · have HH := Lib.hid (decide_eq_false (show ¬ (0 ≤ num ∧ num ≤ 600) from fun h => h6 h.2))
          go_wp2
          go_meet
          exact ⟨by rw [HH.out], rfl⟩
      · have HH := Lib.hid (decide_eq_false (show ¬ (0 ≤ num ∧ num ≤ 600) from fun h => h0 h.1))
        go_wp2
        go_meet
        exact ⟨by rw [HH.out], rfl⟩
    case rest =>
      obtain ⟨rfl, hwc⟩ := hcut
      replace hwc := hwc.symm
      subst hwc
      go_upto_if 22 with (fail)
      go_cut [7] (fun s7 wx => s7 = .int .i64 (cnt : Int) ∧ Below w2.heap.size w2 wx)
      case first =>
        by_cases hin : 0 ≤ num ∧ num ≤ 600
        · obtain ⟨k, hk⟩ := Int.eq_ofNat_of_zero_le hin.1
          have hc := HCN.out
          rw [if_pos hin] at hc
          rw [decide_eq_true hin]
          have h6 : num ≤ 600 := hin.2
          have hk6 : k ≤ 600 := by omega
          have hcc : (buildL (someL k)).length = cnt := by
            rw [buildL_length, someL_length, hc, hk, Int.toNat_natCast]
          have HCC := Lib.hid hcc
          have CS := some6_any k w2 hk6
          rw [show ((k : Nat) : Int) = num from hk.symm] at CS
          have CS := Lib.hid CS
          clear hc hcc hk hin
          go_wp2_with fail
          refine (CS.out).mono ?_
          rintro e w3 ⟨v3, rfl, hr3, _, hb3⟩
          obtain ⟨a3, c3, rfl, _, _⟩ := hr3.form
          have CR := Lib.hid (build6_any a3 (someL k).length c3 (someL k) w3 hr3.came (by rw [someL_length]; exact hk6) (someL_fits k hk6) (someL_asc k))
          have HB3 := Lib.hid hb3
          clear hr3 hb3 CS
          generalize (someL k).length = sl at *
          go_wp2_with fail
          refine (CR.out).mono ?_
          rintro e w4 ⟨v4, rfl, hr4, _, hb4⟩
          obtain ⟨a4, c4, rfl, _, _⟩ := hr4.form
          rw [HCC.out]
          have hbb := HB3.out.trans (hb4.mono HB3.out.size)
          clear hr4 hb4 CR
          go_wp2
          go_meet
          exact ⟨rfl, hbb⟩
        · have hc := HCN.out
          rw [if_neg hin] at hc
          rw [decide_eq_false hin]
          have HCC := Lib.hid hc
          clear hin hc
          go_wp2
          go_meet
          exact ⟨by rw [HCC.out]; rfl, Below.refl _ _⟩
      case rest =>
        obtain ⟨rfl, hbc⟩ := hcut

        have HBC := Lib.hid (HB2.out.trans (hbc.mono HB2.out.size))
        clear hbc
        go_wp2_with fail
        refine (CP.out _).mono ?_
        rintro e w5 ⟨rfl, rfl⟩
        go_wp2_with fail
        refine (CM.out _ HBC.out).mono ?_
        rintro e w6 ⟨rfl, hb6⟩
        go_wp2_with (go_at_call 12; refine (CW.out _).mono ?_; rintro e w7 ⟨rfl, hb7⟩)
        go_ret
        exact ⟨rfl, (HBC.out.trans (hb6.mono HBC.out.size)).trans (hb7.mono (Nat.le_trans HBC.out.size hb6.size))⟩
  | true =>
    obtain ⟨hasc, h600⟩ := mayL_asc hmy
    have CB := Lib.hid (build_yes a m cap L w he hmy HF.out)
    have CM := fun u (h : Below w.heap.size w u) => may6_any a m cap L u (CameAt.below HE.out (Nat.zero_lt_succ 1) h)
    rw [hmy] at CM
    have CM := Lib.hid CM
    have hm6 : m ≤ 600 := by rw [← he.1]; exact h600
    have CR := Lib.hid (fun u (h : Below w.heap.size w u) => build6_any a m cap L u (CameAt.below HE.out (Nat.zero_lt_succ 1) h) hm6 HF.out hasc)
    have hbl : (buildL L).length = pagesN m := by rw [buildL_length, HLN.out]
    have CPM := fun u => pages_any m u hm6
    rw [← hbl] at CPM
    have hb95 : (buildL L).length ≤ 95 := by rw [hbl]; exact pagesN_le m hm6
    have CPM := Lib.hid CPM
    clear he hmy hasc CF hbl h600
    go_wp2_with fail
    refine (CB.out).mono ?_
    rintro e w2 ⟨v2, rfl, hr2, _, hb2⟩
    obtain ⟨a2, c2, rfl, _, _⟩ := hr2.form
    have hrd := hr2.read
    generalize hB : buildL L = B at *
    generalize hBn : B.length = bn at *
    have HBN := Lib.hid hBn
    have HRD := Lib.hid hrd
    have HB2 := Lib.hid hb2
    clear hr2 hrd hb2 hB hBn CB

    go_upto_region 4 with (fail)
    go_cut [22] (fun s22 wx => s22 = .bool (decide (0 ≤ num ∧ num ≤ 600)) ∧ wx = w2)
    case first =>
      by_cases h0 : 0 ≤ num
      · by_cases h6 : num ≤ 600
        · have HH := Lib.hid (decide_eq_true (show 0 ≤ num ∧ num ≤ 600 from ⟨h0, h6⟩))
          go_wp2
          go_meet
          exact ⟨by rw [HH.out], rfl⟩
        · have HH := Lib.hid (decide_eq_false (show ¬ (0 ≤ num ∧ num ≤ 600) from fun h => h6 h.2))
          go_wp2
          go_meet
          exact ⟨by rw [HH.out], rfl⟩
      · have HH := Lib.hid (decide_eq_false (show ¬ (0 ≤ num ∧ num ≤ 600) from fun h => h0 h.1))
        go_wp2
        go_meet
        exact ⟨by rw [HH.out], rfl⟩
    case rest =>
      obtain ⟨rfl, hwc⟩ := hcut
      replace hwc := hwc.symm
      subst hwc
      go_upto_if 22 with (fail)
      go_cut [7] (fun s7 wx => s7 = .int .i64 (cnt : Int) ∧ Below w2.heap.size w2 wx)
      case first =>
        by_cases hin : 0 ≤ num ∧ num ≤ 600
        · obtain ⟨k, hk⟩ := Int.eq_ofNat_of_zero_le hin.1
          have hc := HCN.out
          rw [if_pos hin] at hc
          rw [decide_eq_true hin]
          have h6 : num ≤ 600 := hin.2
          have hk6 : k ≤ 600 := by omega
          have hcc : (buildL (someL k)).length = cnt := by
            rw [buildL_length, someL_length, hc, hk, Int.toNat_natCast]
          have HCC := Lib.hid hcc
          have CS := some6_any k w2 hk6
          rw [show ((k : Nat) : Int) = num from hk.symm] at CS
          have CS := Lib.hid CS
          clear hc hcc hk hin
          go_wp2_with fail
          refine (CS.out).mono ?_
          rintro e w3 ⟨v3, rfl, hr3, _, hb3⟩
          obtain ⟨a3, c3, rfl, _, _⟩ := hr3.form
          have CR := Lib.hid (build6_any a3 (someL k).length c3 (someL k) w3 hr3.came (by rw [someL_length]; exact hk6) (someL_fits k hk6) (someL_asc k))
          have HB3 := Lib.hid hb3
          clear hr3 hb3 CS
          generalize (someL k).length = sl at *
          go_wp2_with fail
          refine (CR.out).mono ?_
          rintro e w4 ⟨v4, rfl, hr4, _, hb4⟩
          obtain ⟨a4, c4, rfl, _, _⟩ := hr4.form
          rw [HCC.out]
          have hbb := HB3.out.trans (hb4.mono HB3.out.size)
          clear hr4 hb4 CR
          go_wp2
          go_meet
          exact ⟨rfl, hbb⟩
        · have hc := HCN.out
          rw [if_neg hin] at hc
          rw [decide_eq_false hin]
          have HCC := Lib.hid hc
          clear hin hc
          go_wp2
          go_meet
          exact ⟨by rw [HCC.out]; rfl, Below.refl _ _⟩
      case rest =>
        obtain ⟨rfl, hbc⟩ := hcut

        have HBC := Lib.hid hbc
        have HBW := Lib.hid (HB2.out.trans (hbc.mono HB2.out.size))
        clear hbc
        go_wp2_with fail
        refine (CP.out _).mono ?_
        rintro e w5 ⟨rfl, rfl⟩
        go_wp2_with fail
        refine (CM.out _ HBW.out).mono ?_
        rintro e w6 ⟨rfl, hb6⟩
        have HB6 := Lib.hid (HBC.out.trans (hb6.mono HBC.out.size))
        have HBW6 := Lib.hid (HBW.out.trans (hb6.mono HBW.out.size))
        clear hb6
        go_wp2_with fail
        refine (CR.out _ HBW6.out).mono ?_
        rintro e w7 ⟨v7, rfl, hr7, _, hb7⟩
        obtain ⟨a7, c7, rfl, _, _⟩ := hr7.form
        rw [HBN.out] at hr7 ⊢
        have HR7 := Lib.hid hr7
        have HB7 := Lib.hid (HB6.out.trans (hb7.mono HB6.out.size))
        have HBW7 := Lib.hid (HBW6.out.trans (hb7.mono HBW6.out.size))
        clear hr7 hb7 CR CM CP
        go_wp2_with (go_at_call 10; refine (CPM.out _).mono ?_; rintro e w8 ⟨rfl, rfl⟩)
        go_loopw [9] (fun i wr => ∃ k : Nat, k ≤ bn ∧ i = .int .i64 k ∧ Below w7.heap.size w7 wr) (fun i _ => bn - (intOf i).toNat)
        case atStart => exact ⟨0, Nat.zero_le _, rfl, Below.refl _ _⟩
        case round =>
          obtain ⟨k, hk, rfl, hb⟩ := hrel
          have HB := Lib.hid hb
          by_cases hlt : k < bn
          · obtain ⟨b, off, rfl, hbb, hc⟩ := (HRD.out.below (HB7.out.trans (hb.mono HB7.out.size))).at [] (by omega)
            obtain ⟨⟨ha, hn2, hc2⟩, hcell, hE⟩ := hc k hlt
            dsimp only at hcell hE
            have hr := HR7.out.below hb
            obtain ⟨g, cg, hve, _, _, _⟩ := hr.form' (by rw [HBN.out]; omega)
            rw [HBN.out] at hve
            simp only [Value.slice.injEq] at hve
            obtain ⟨rfl, _, rfl⟩ := hve
            have hkB : B[k]? = some (B.getD k []) := by rw [List.getD, List.getElem?_eq_getElem (by rw [HBN.out]; exact hlt)]; rfl
            have cz := hr.cellAt k 0 _ hkB (by omega)
            rw [Nat.mul_one, Nat.add_zero] at cz
            generalize B.getD k [] = pg at *
            have hcs : wr.cell? ⟨g, k, none⟩ = some (.string ⟨pg.toArray⟩) := cz
            have hki : (k : Int) < (bn : Int) := by omega
            have hS : wr.drew.cell? ⟨b, off + k, none⟩ = some (.slice ha hn2 hc2) ∧ BytesAt wr.drew ha hn2 hc2 pg ∧ wr.drew.cell? ⟨g, k, none⟩ = some (.string ⟨pg.toArray⟩) := ⟨hcell, hE.below ((Below.refl _ _).drew), hcs⟩
            have HS := Lib.hid hS
            have hpp : (pg != pg) = false := by simp
            clear hc hE hr hkB cz hcs hcell hS hb
            go_upto_region 16 with (fail)
            refine region_head 10 [0, 1, 2, 3, 4, 5, 6, 7, 8, 9] [] (fun u => u.cell? ⟨b, off + k, none⟩ = some (.slice ha hn2 hc2) ∧ BytesAt u ha hn2 hc2 pg ∧ u.cell? ⟨g, k, none⟩ = some (.string ⟨pg.toArray⟩)) (by kernel_rfl) (by kernel_rfl) HS.out ?_
            simp only [pickO, List.filterMap_cons, List.filterMap_nil, List.getElem?_cons_zero, List.getElem?_cons_succ, Option.map_some, List.drop_succ_cons, List.drop_zero]
            iterate 4
              refine seqH_read _ rfl rfl (by rintro u ⟨hu1, hu2, hu3⟩; clear hu2; go_simp; with_reducible rfl) ?_
              try simp only [Act.put, List.setIfInBounds_toArray, List.set_cons_zero, List.set_cons_succ]
            refine seqH_read (.string ⟨pg.toArray⟩) rfl rfl (by rintro u ⟨hu1, hu2, hu3⟩; have hcv := hu2.conv; clear hu2; go_simp) ?_
            try simp only [Act.put, List.setIfInBounds_toArray, List.set_cons_zero, List.set_cons_succ]
            iterate 4
              refine seqH_read _ rfl rfl (by rintro u ⟨hu1, hu2, hu3⟩; clear hu2; go_simp; with_reducible rfl) ?_
              try simp only [Act.put, List.setIfInBounds_toArray, List.set_cons_zero, List.set_cons_succ]
            refine seqH_read (.bool false) rfl rfl (by rintro u ⟨hu1, hu2, hu3⟩; clear hu1 hu2 hu3; go_simp; try simp) ?_
            try simp only [Act.put, List.setIfInBounds_toArray, List.set_cons_zero, List.set_cons_succ]
            refine seqH_nil ?_
            go_wp2
            exact ⟨⟨k + 1, by omega, by go_num, HB.out.drew⟩, by simp [intOf]; omega⟩
          · obtain rfl : k = bn := by omega
            clear hb
            go_wp2_with (go_at_call 12; refine (CW.out _).mono ?_; rintro e w9 ⟨rfl, hb9⟩)
            go_ret
            have h1 := HBW7.out.trans (HB.out.mono HBW7.out.size)
            exact ⟨rfl, h1.trans (hb9.mono h1.size)⟩

theorem own : ownKnob Try.prog.godebug = none := by kernel_rfl
theorem laidOut : laidOutB Try.prog = true := by kernel_rfl

set_option maxRecDepth 100000 in
theorem lifted (os : Os) (started : os.Started) (H : Type) (enc : TypeId × Value → H) :
    ReturnsInHanded {} Try.checked os 3 .any (Rows.treeBuildsSpec.pre6 enc Try.prog Try.f3 Rows.treeBuildsRow.domain false) (Rows.treeBuildsSpec.post enc Try.prog Try.f3 false true false false) := by
  refine returnsInHanded_of_change (C := Try.checked) own started (by kernel_rfl) Try.func3
    (ChangeSpec.witness6 (enc := enc) (C := Try.checked) false ⟨#[], #[.slice none 0 0, .int .i64 0], []⟩ 8 (by kernel_rfl) (by kernel_rfl) (by kernel_rfl) (by kernel_rfl)) ?_
  intro W base args ds gs before hval0 hW hcnd _
  have hval : ∀ (j : Nat) t v, Try.f3.params[j]? = some t → args[j]? = some v → Value.okWide Try.prog W .any base t v := hval0
  have hW' := hW
  obtain ⟨p, q, hA0, hV, rfl, hfz, hnd⟩ := hW
  have hA : DataW.TrodAll enc Try.prog W 0 (fun _ => true) true Try.f3.params.toList args.toList ds p := hA0
  rw [Try.params3] at hA hval
  obtain ⟨v0, vs0, d0, ds0, p0, q0, hargs, rfl, rfl, h0, r0⟩ := trodAll_cons hA
  obtain ⟨v1, vs1, d1, ds1, p1, q1, rfl, rfl, rfl, h1, r1⟩ := trodAll_cons r0
  obtain ⟨rfl, rfl, rfl⟩ := trodAll_nil r1
  obtain rfl : args = #[v0, v1] := by cases args; simp_all
  obtain ⟨rfl, rfl⟩ := trodVars_none hV
  have k0 := h0
  have lt0 : ∀ x ∈ p0, x.block < W.heap.size := by obtain ⟨m, hm⟩ := k0; exact DataW.trod_lt m _ _ _ hm
  obtain ⟨a0, len0, cap0, l0, rfl, w0, g0⟩ := pairs_of (hval 0 22 v0 rfl rfl) h0
  obtain ⟨a1, rfl, rfl, rfl, w1⟩ := open_int Try.underlying3 (hval 1 3 v1 rfl rfl) h1
  clear hA0 hval0
  refine (walk a0 len0 cap0 l0 a1 W w0 g0 w1).mono fun e W' ⟨he, bel⟩ => ?_
  subst he
  exact ⟨_, rfl, _, _, _, [], _, [], hW', trodAll_mk1 (shut_bool Try.underlying4 _), (trodAll_cons_mk (Below.trod laidOut (by kernel_rfl) (of_decide_eq_true (by kernel_rfl)) k0 bel lt0) (trodAll_cons_mk (shut_int Try.underlying3 w1) trodAll_mk0)), rfl, bel.frame _, fun h => by cases h⟩

theorem proved : Rows.TreeBuildsSaid :=
  OpenClaim.holds_of_wide 3 Try.f3 rfl rfl rfl rfl rfl rfl rfl ⟨rfl, rfl, rfl, rfl, rfl⟩ rfl rfl rfl rfl rfl (by kernel_rfl) Try.func3 (by kernel_rfl)
    (of_decide_eq_true (by kernel_rfl)) (by unfold Func.isWrapper; first | (rw [if_pos (by decide +kernel)]; kernel_rfl) | (rw [if_neg (by decide +kernel)]; exact ⟨rfl, rfl⟩))
    (fun os started H enc _ => lifted os started H enc)

end Go.Proofs.Ytflboggjbjfkjaa.treeBuilds
