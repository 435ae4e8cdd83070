/-
  Whatever codes there are, a symbol's comes as the document says, or is refused with its error (P9.3).
  No condition: every slice of codes, every symbol.
-/
import Derived.Test.YtgfdonmkhmolpaaCnF
import Derived.Test.YtgfdonmkhmolpaaHdS
import Derived.Test.YtgfdonmkhmolpaaBtT
namespace Go.Proofs.Ytgfdonmkhmolpaa.canonPuts
open Go.ChangeShapes Go.WideShapes Go.ChangeAt Go.RowKit Go.Deep
set_option linter.unusedVariables false
set_option linter.unusedSimpArgs false
set_option maxRecDepth 100000

/-- the writer beside the document's bits -/
structure Cp (w wr : World) (n0 B : Nat) (F : List Bool) (a : Option Addr) (n c : Nat) : Prop where
  ws : WrS n0 wr B F
  bo : BoI w wr a n c F
  n0 : w.heap.size ≤ n0
theorem Cp.below {w wr w' : World} {n0 B : Nat} {F : List Bool} {a : Option Addr} {n c : Nat} (h : Cp w wr n0 B F a n c) (hb : Below wr.heap.size wr w') : Cp w w' n0 B F a n c := ⟨h.ws.below hb, h.bo.below hb, h.n0⟩
theorem Cp.nil {w wr : World} {n0 B : Nat} (h : WrS n0 wr B []) (hb : Below w.heap.size w wr) (h0 : w.heap.size ≤ n0) : Cp w wr n0 B [] none 0 0 := ⟨h, ⟨Recs.nil _ _ _ _, rfl, fun k hk => by simp [Value.ownBlock] at hk, hb⟩, h0⟩

set_option maxHeartbeats 8000000 in
theorem walk (a0 : Option Addr) (n0 cap0 : Nat) (cs0 : List (Nat × Int)) (s : Int) (w : World) (h0 : CodesAt w a0 n0 cap0 cs0) (hg0 : ∀ x ∈ cs0, x.1 < 18446744073709551616) (hsw : (Lit.int .i64 s).wf = true) :
    Calls Try.prog 5 #[.slice a0 n0 cap0, .int .i64 s] w fun e w' => e = .returned (.bool true) ∧ Below w.heap.size w w' := by
  have H0 := Lib.hid h0
  have HG0 := Lib.hid hg0
  have hcap0 := h0.2.1
  clear h0 hg0
  go_enter Try.func5, Try.ntmps5
  go_upto_region 1 with (fail)
  go_upto_if 12 with (fail)
  go_cut [0] (fun s0 wx => wx = w ∧ ∃ (n : Nat) (cs : List (Nat × Int)), s0 = .slice a0 n cap0 ∧ CodesAt w a0 n cap0 cs ∧ (∀ x ∈ cs, x.1 < 18446744073709551616) ∧ n ≤ 330)
  case first =>
    by_cases hb : 330 < n0
    · have hbi : (330 : Int) < (n0 : Int) := by omega
      go_wp2
      go_meet
      exact ⟨rfl, _, _, rfl, CameAt.upTo H0.out 330 (by omega), fun x hx => HG0.out x (List.mem_of_mem_take hx), by omega⟩
    · have hbi : ¬ (330 : Int) < (n0 : Int) := by omega
      go_wp2
      go_meet
      exact ⟨rfl, _, _, rfl, H0.out, HG0.out, by omega⟩
  case rest =>
  obtain ⟨hwc, n, cs, rfl, hc, hg, hn⟩ := hcut
  have hwc' := hwc.symm
  clear hwc
  subst hwc'
  have HC := Lib.hid hc
  have HG := Lib.hid hg
  have HCL := Lib.hid hc.1
  clear hc hg H0 HG0 hcap0
  have CN := Lib.hid (newS w w.heap.size (Nat.le_refl _))
  go_wp2_with fail
  refine CN.out.mono ?_
  rintro e w1 ⟨rfl, hs1, hb1⟩
  have HC1 := CameAt.below HC.out (by omega) hb1
  have CP := Lib.hid (cnPut_any hs1 a0 n cap0 cs HC1 s HG.out (by simp))
  obtain ⟨B, hB⟩ : ∃ B, B = w.heap.size := ⟨_, rfl⟩
  rw [← hB] at CP ⊢
  have HB := Lib.hid hB
  have B1 := Lib.hid hb1
  clear hs1 hb1 CN HC1 hB
  go_wp2_with fail
  refine CP.out.mono ?_
  rintro e w2 ⟨rfl, hk2⟩
  have B2 := Lib.hid (show Below w.heap.size w w2 from B1.out.trans (by have := hk2.2.1; rw [HB.out] at this; exact this))
  have HW2 := Lib.hid hk2.1
  have HC2 := Lib.hid (CameAt.below HC.out (by omega) B2.out)
  clear hk2 CP B1
  have HPE := Lib.hid (show putE cs s = if s < 0 ∨ (cs.length : Int) ≤ s then 4 else if cs.getD s.toNat (0, 0) = (0, 0) then 11 else if (cs.getD s.toNat (0, 0)).2 < 1 ∨ 15 < (cs.getD s.toNat (0, 0)).2 then 8
    else fitE (cs.getD s.toNat (0, 0)).1 (cs.getD s.toNat (0, 0)).2 from rfl)
  have HPL := Lib.hid (show putsL cs s [] = if putE cs s = 0 then turnL (cs.getD s.toNat (0, 0)).1 (cs.getD s.toNat (0, 0)).2 [] else [] from rfl)
  have HPN := Lib.hid (show (putsL cs s []).length ≤ 32 by
    unfold putsL
    split
    · unfold turnL
      split
      · rename_i hf
        obtain ⟨m, hm, hm2, _⟩ := fitE_ok hf
        rw [hm]
        simp [bitsL_length]
        omega
      · simp
    · simp)
  generalize putE cs s = PE at *
  generalize putsL cs s [] = PL at *
  go_upto_region 9 with (fail)
  go_cut [29] (fun s29 wx => wx = w2 ∧ ∃ bb, s29 = .bool bb ∧ bb = decide (s < 0 ∨ (n : Int) ≤ s))
  case first =>
    by_cases h1 : s < 0
    · go_wp2
      go_meet
      exact ⟨rfl, _, rfl, by simp [h1]⟩
    · by_cases h2 : (n : Int) ≤ s
      · go_wp2
        go_meet
        exact ⟨rfl, _, rfl, by simp [h2]⟩
      · go_wp2
        go_meet
        exact ⟨rfl, _, rfl, by simp [h1, h2]⟩
  case rest =>
  obtain ⟨hwc, bb, rfl, hbb⟩ := hcut
  subst hwc
  have HBB := Lib.hid hbb
  clear hbb
  go_upto_if 29 with (fail)
  go_cut [7, 8] (fun s7 s8 wx => ∃ (va : Option Addr) (vn vc : Nat), s7 = .int .i64 PE ∧ s8 = .slice va vn vc ∧ Cp w wx B B PL va vn vc)
  case first =>
    cases bb with
    | true =>
      have hbad : s < 0 ∨ (n : Int) ≤ s := of_decide_eq_true HBB.out.symm
      have HE := Lib.hid (show PE = 4 by rw [HPE.out, HCL.out, if_pos hbad])
      have HL := Lib.hid (show PL = [] by rw [HPL.out, HE.out]; rfl)
      have HCP := Lib.hid (show Cp w wc B B PL none 0 0 by have := HW2.out; rw [HL.out] at this ⊢; exact Cp.nil this B2.out (by rw [HB.out]; exact Nat.le_refl _))
      clear hbad
      go_wp2
      go_meet
      exact ⟨_, _, _, by rw [HE.out], rfl, HCP.out⟩
    | false =>
      have hbad : ¬ (s < 0 ∨ (n : Int) ≤ s) := of_decide_eq_false HBB.out.symm
      obtain ⟨k, rfl⟩ : ∃ k : Nat, s = k := ⟨s.toNat, by omega⟩
      have hkn : k < n := by omega
      have hki : (k : Int) < n := by omega
      have HPE2 := Lib.hid (HPE.out.trans (if_neg (by rw [HCL.out]; exact hbad)))
      rw [Int.toNat_natCast] at HPE2 HPL
      have hc64 : (cs.getD k (0, 0)).1 < 18446744073709551616 := HG.out _ (by rw [List.getD, List.getElem?_eq_getElem (by rw [HCL.out]; omega)]; exact List.getElem_mem _)
      obtain ⟨cb, coff, rfl, _, hcell⟩ := CodesAt.cell HC2.out (by omega)
      obtain ⟨x1, x2⟩ := hcell k hkn
      clear hcell HPE hbad HBB
      generalize cs.getD k (0, 0) = c at *
      obtain ⟨v, m⟩ := c
      dsimp only at x1 x2 hc64
      simp only at HPE2 HPL
      have hb3 := (Below.refl wc.heap.size wc).alloc (Nat.le_refl _) (.cells #[.int .u64 (v : Int), .int .i64 m] 34)
      have B3 := Lib.hid (B2.out.trans (hb3.mono B2.out.size))
      have HW3 := Lib.hid (HW2.out.below hb3)
      clear hb3
      by_cases h0 : (v, m) = ((0, 0) : Nat × Int)
      · have HE := Lib.hid (show PE = 11 by rw [HPE2.out, if_pos h0])
        have HL := Lib.hid (show PL = [] by rw [HPL.out, HE.out]; rfl)
        simp only [Prod.mk.injEq] at h0
        obtain ⟨rfl, rfl⟩ := h0
        have HCP := Lib.hid (Cp.nil (w := w) (show WrS B _ B [] by have := HW3.out; rw [HL.out] at this; exact this) B3.out (by rw [HB.out]; exact Nat.le_refl _))
        go_wp2
        go_meet
        exact ⟨_, _, _, by rw [HE.out], rfl, by rw [HL.out]; exact HCP.out⟩
      · have HPE3 := Lib.hid (HPE2.out.trans (if_neg h0))
        have HNZ := Lib.hid h0
        clear HPE2 h0
        go_upto_region 12 with (fail)
        generalize hw3 : wc.alloc (.cells #[.int .u64 (v : Int), .int .i64 m] 34) = w3 at *
        obtain ⟨g3, hg3⟩ : ∃ g3, g3 = wc.heap.size := ⟨_, rfl⟩
        have hrow3 := heap_alloc_new wc (.cells #[.int .u64 (v : Int), .int .i64 m] 34)
        rw [hw3, ← hg3] at hrow3
        rw [← hg3]
        obtain ⟨d1, d2, _, _⟩ := two_cells hrow3
        clear hw3 hg3 hrow3 x1 x2
        go_cut [41] (fun s41 wx => wx = w3 ∧ s41 = .bool false)
        case first =>
          by_cases hv : v = 0
          · have hvb : ((v : Int) == 0) = true := by rw [beq_iff_eq]; omega
            have hmb : (m == 0) = false := by rw [beq_eq_false_iff_ne]; intro h; exact HNZ.out (by rw [hv, h])
            clear hv
            go_wp2
            go_meet
            exact ⟨rfl, rfl⟩
          · have hvb : ((v : Int) == 0) = false := by rw [beq_eq_false_iff_ne]; omega
            clear hv
            go_wp2
            go_meet
            exact ⟨rfl, rfl⟩
        case rest =>
        obtain ⟨hwc, rfl⟩ := hcut
        have hwc' := hwc.symm
        clear hwc
        subst hwc'
        by_cases hlo : m < 1
        · have HE := Lib.hid (show PE = 8 by rw [HPE3.out, if_pos (.inl hlo)])
          have HL := Lib.hid (show PL = [] by rw [HPL.out, HE.out]; rfl)
          have HCP := Lib.hid (Cp.nil (w := w) (show WrS B _ B [] by have := HW3.out; rw [HL.out] at this; exact this) B3.out (by rw [HB.out]; exact Nat.le_refl _))
          go_wp2
          go_meet
          exact ⟨_, _, _, by rw [HE.out], rfl, by rw [HL.out]; exact HCP.out⟩
        by_cases hhi : 15 < m
        · have HE := Lib.hid (show PE = 8 by rw [HPE3.out, if_pos (.inr hhi)])
          have HL := Lib.hid (show PL = [] by rw [HPL.out, HE.out]; rfl)
          have HCP := Lib.hid (Cp.nil (w := w) (show WrS B _ B [] by have := HW3.out; rw [HL.out] at this; exact this) B3.out (by rw [HB.out]; exact Nat.le_refl _))
          go_wp2
          go_meet
          exact ⟨_, _, _, by rw [HE.out], rfl, by rw [HL.out]; exact HCP.out⟩
        have HE := Lib.hid (show PE = fitE v m by rw [HPE3.out, if_neg (by omega)])
        obtain ⟨m, rfl⟩ : ∃ m' : Nat, m = m' := ⟨m.toNat, by omega⟩
        have hmay : mayN (m : Int) = true := by unfold mayN; simp; omega
        have HM := Lib.hid hmay
        have CF := Lib.hid (rfits_any v m w3 hc64 (by omega))
        clear hmay HPE3 HNZ
        by_cases hf : v < 2 ^ m
        · have HF := Lib.hid hf
          have HE0 := Lib.hid (show PE = 0 by rw [HE.out]; unfold fitE; rw [if_neg (by rw [HM.out]; simp), if_pos (by rw [Int.toNat_natCast]; exact HF.out)])
          have HL := Lib.hid (show PL = (bitsL v m).reverse by
            rw [HPL.out, HE0.out, if_pos rfl]; unfold turnL; rw [← HE.out, HE0.out, if_pos rfl, Int.toNat_natCast]; rfl)
          rw [decide_eq_true hf] at CF
          clear hf
          go_wp2_with fail
          refine CF.out.mono ?_
          rintro e w' ⟨rfl, rfl⟩
          have CB := Lib.hid (rbits_any v m w3 hc64 (by omega))
          clear CF
          go_wp2_with fail
          refine CB.out.mono ?_
          rintro e w4 ⟨a4, n4, c4, rfl, hB4⟩
          have hn4 : n4 = m := by rw [← hB4.2.1, bitsL_length]
          subst hn4
          have HB4 := Lib.hid hB4
          have CK := Lib.hid (rback_any a4 n4 c4 _ w4 hB4.came (by omega))
          clear hB4 CB
          go_wp2_with fail
          refine CK.out.mono ?_
          rintro e w5 ⟨a5, n5, c5, rfl, hB5⟩
          have hn5 : n5 = n4 := by rw [← hB5.2.1, List.length_reverse, bitsL_length]
          subst hn5
          have HCP := Lib.hid (show Cp w w5 B B PL a5 n5 c5 by
            rw [HL.out]
            have hb4 := HB4.out.2.2.2
            have hb5 := hB5.2.2.2
            have hws := (HW3.out.below hb4).below hb5
            rw [HL.out] at hws
            have hb34 := B3.out.trans (hb4.mono B3.out.size)
            exact ⟨hws, ⟨hB5.1, hB5.2.1, fun q hq => Nat.le_trans hb34.size (hB5.2.2.1 q hq), hb34.trans (hb5.mono hb34.size)⟩, by rw [HB.out]; exact Nat.le_refl _⟩)
          clear hB5 CK
          go_wp2
          go_meet
          exact ⟨_, _, _, by rw [HE0.out], rfl, HCP.out⟩
        · have HF := Lib.hid hf
          have HE0 := Lib.hid (show PE = 8 by rw [HE.out]; unfold fitE; rw [if_neg (by rw [HM.out]; simp), if_neg (by rw [Int.toNat_natCast]; exact HF.out)])
          have HL := Lib.hid (show PL = [] by rw [HPL.out, HE0.out]; rfl)
          have HCP := Lib.hid (Cp.nil (w := w) (show WrS B _ B [] by have := HW3.out; rw [HL.out] at this; exact this) B3.out (by rw [HB.out]; exact Nat.le_refl _))
          rw [decide_eq_false hf] at CF
          clear hf
          go_wp2_with fail
          refine CF.out.mono ?_
          rintro e w' ⟨rfl, rfl⟩
          go_wp2
          go_meet
          exact ⟨_, _, _, by rw [HE0.out], rfl, by rw [HL.out]; exact HCP.out⟩
  case rest =>
    obtain ⟨va, vn, vc, rfl, rfl, hcp⟩ := hcut
    rename World => w6
    have HCP := Lib.hid hcp
    clear hcp HPE HPL HBB HW2 HC2 B2
    go_upto_region 17 with (fail)
    have HD := Lib.hid (HCP.out.below ((Below.refl _ w6).drew))
    have hlen : PL.length = vn := HD.out.bo.2.1
    have hvn : vn ≤ 32 := by rw [← hlen]; exact HPN.out
    have CC := Lib.hid (countS HD.out.ws)
    have CY := Lib.hid (bytesS HD.out.ws (by rw [hlen]; omega))
    rw [hlen] at CC
    have B6 := Lib.hid HCP.out.bo.2.2.2
    clear hlen
    refine region_headS 21 [0, 1, 2, 3, 4, 6, 7, 5, 8, 9, 10, 11, 14, 12, 13, 15, 16, 17, 18, 19, 20] [5, 12, 15, 19] (fun u => Below w6.heap.size w6 u) (by kernel_rfl) (by kernel_rfl) ((Below.refl _ _).drew) ?_
    simp only [pickO, List.filterMap_cons, List.filterMap_nil, List.getElem?_cons_zero, List.getElem?_cons_succ, Option.map_some, List.drop_succ_cons, List.drop_zero]
    iterate 2
      refine seqS_read _ rfl rfl (by rintro u hu; clear hu; go_simp; with_reducible rfl) ?_
      try simp only [Act.put, List.setIfInBounds_toArray, List.set_cons_zero, List.set_cons_succ]
    refine seqS_read (.bool true) rfl rfl (by rintro u hu; clear hu; go_simp; try simp) ?_
    try simp only [Act.put, List.setIfInBounds_toArray, List.set_cons_zero, List.set_cons_succ]
    refine seqS_read _ rfl rfl (by rintro u hu; clear hu; go_simp; with_reducible rfl) ?_
    try simp only [Act.put, List.setIfInBounds_toArray, List.set_cons_zero, List.set_cons_succ]
    iterate 3
      refine seqS_readG _ rfl (by rfl) (by rintro u hu; clear hu; go_simp; with_reducible rfl) ?_
      try simp only [Act.put, List.setIfInBounds_toArray, List.set_cons_zero, List.set_cons_succ]
    refine seqS_moveG rfl (by rfl) (fun K' hK => ?_)
    go_simp
    refine CC.out.mono ?_
    rintro e w5 ⟨rfl, rfl⟩
    refine hK _ _ _ (fun u hu => hu) ((Below.refl _ _).drew) ?_
    clear hK K' CC
    try simp only [Act.put, List.setIfInBounds_toArray, List.set_cons_zero, List.set_cons_succ]
    refine seqS_readG (.bool true) rfl (by rfl) (by rintro u hu; clear hu; go_simp; try simp) ?_
    try simp only [Act.put, List.setIfInBounds_toArray, List.set_cons_zero, List.set_cons_succ]
    refine seqS_read (.bool true) rfl rfl (by rintro u hu; clear hu; go_simp; try simp) ?_
    try simp only [Act.put, List.setIfInBounds_toArray, List.set_cons_zero, List.set_cons_succ]
    refine seqS_read _ rfl rfl (by rintro u hu; clear hu; go_simp; with_reducible rfl) ?_
    try simp only [Act.put, List.setIfInBounds_toArray, List.set_cons_zero, List.set_cons_succ]
    iterate 2
      refine seqS_readG _ rfl (by rfl) (by rintro u hu; clear hu; go_simp; with_reducible rfl) ?_
      try simp only [Act.put, List.setIfInBounds_toArray, List.set_cons_zero, List.set_cons_succ]
    refine seqS_moveG rfl (by rfl) (fun K' hK => ?_)
    go_simp
    refine CY.out.mono ?_
    rintro e w7 ⟨a7, c7, rfl, h7, hb7⟩
    have hb7w : Below w6.heap.size w6 w7 := ((Below.refl _ w6).drew).trans hb7
    refine hK _ _ (fun u => Below w7.heap.size w7 u) (fun u hu => hb7w.trans (hu.mono hb7w.size)) (Below.refl _ _) ?_
    clear hK K' CY
    have H7 := Lib.hid h7
    have HD7 := Lib.hid (HD.out.below hb7)
    have CZ := Lib.hid (rbytes_any va vn vc PL w7 HD7.out.bo.came (by omega))
    have HB7 := Lib.hid hb7w
    clear h7 hb7 hb7w HPN
    generalize packB PL = P2 at *
    generalize octN PL.length = q2 at *
    try dsimp only [id]
    try simp only [Act.put, List.setIfInBounds_toArray, List.set_cons_zero, List.set_cons_succ]
    refine seqS_readG (.string ⟨P2.toArray⟩) rfl (by rfl) (by rintro u hu; have hcv := (H7.out.below hu).conv; clear hu; go_simp; try rfl) ?_
    try simp only [Act.put, List.setIfInBounds_toArray, List.set_cons_zero, List.set_cons_succ]
    refine seqS_moveG rfl (by rfl) (fun K' hK => ?_)
    go_simp
    refine CZ.out.mono ?_
    rintro e w8 ⟨rfl, hb8⟩
    refine hK _ _ (fun u => Below w7.heap.size w7 u) (fun u hu => hu) hb8 ?_
    clear hK K' CZ
    have B8 := Lib.hid ((B6.out.trans (HB7.out.mono B6.out.size)).trans (hb8.mono (Nat.le_trans B6.out.size HB7.out.size)))
    have HB8 := Lib.hid hb8
    clear hb8
    try simp only [Act.put, List.setIfInBounds_toArray, List.set_cons_zero, List.set_cons_succ]
    refine seqS_readG (.bool true) rfl (by rfl) (by rintro u hu; clear hu; go_simp; try simp) ?_
    try simp only [Act.put, List.setIfInBounds_toArray, List.set_cons_zero, List.set_cons_succ]
    refine seqS_read (.bool true) rfl rfl (by rintro u hu; clear hu; go_simp; try simp) ?_
    try simp only [Act.put, List.setIfInBounds_toArray, List.set_cons_zero, List.set_cons_succ]
    refine seqS_read _ rfl rfl (by rintro u hu; clear hu; go_simp; with_reducible rfl) ?_
    try simp only [Act.put, List.setIfInBounds_toArray, List.set_cons_zero, List.set_cons_succ]
    have CA := Lib.hid (awake09 w8)
    refine seqS_moveG rfl (by rfl) (fun K' hK => ?_)
    go_simp
    refine CA.out.mono ?_
    rintro e w9 ⟨rfl, hb9⟩
    refine hK _ _ (fun u => Below w8.heap.size w8 u) (fun u hu => HB8.out.trans (hu.mono HB8.out.size)) hb9 ?_
    clear hK K' CA
    have B9 := Lib.hid (B8.out.trans (hb9.mono B8.out.size))
    clear hb9
    try simp only [Act.put, List.setIfInBounds_toArray, List.set_cons_zero, List.set_cons_succ]
    refine seqS_read (.bool true) rfl rfl (by rintro u hu; clear hu; go_simp; try simp) ?_
    try simp only [Act.put, List.setIfInBounds_toArray, List.set_cons_zero, List.set_cons_succ]
    refine seqS_nil ?_
    go_wp2
    go_ret
    exact ⟨rfl, B9.out⟩

theorem own : ownKnob Try.prog.godebug = none := by kernel_rfl
theorem laidOut : laidOutB Try.prog = true := by kernel_rfl

set_option maxRecDepth 100000 in
theorem lifted (os : Os) (started : os.Started) (H : Type) (enc : TypeId × Value → H) :
    ReturnsInHanded {} Try.checked os 5 .any (Rows.canonPutsSpec.pre6 enc Try.prog Try.f5 Rows.canonPutsRow.domain false) (Rows.canonPutsSpec.post enc Try.prog Try.f5 false true false false) := by
  refine returnsInHanded_of_change (C := Try.checked) own started (by kernel_rfl) Try.func5
    (ChangeSpec.witness6 (enc := enc) (C := Try.checked) false ⟨#[], #[.slice none 0 0, .int .i64 0], []⟩ 8 (by kernel_rfl) (by kernel_rfl) (by kernel_rfl) (by kernel_rfl)) ?_
  intro W base args ds gs before hval0 hW hcnd _
  have hval : ∀ (j : Nat) t v, Try.f5.params[j]? = some t → args[j]? = some v → Value.okWide Try.prog W .any base t v := hval0
  have hW' := hW
  obtain ⟨p, q, hA0, hV, rfl, hfz, hnd⟩ := hW
  have hA : DataW.TrodAll enc Try.prog W 0 (fun _ => true) true Try.f5.params.toList args.toList ds p := hA0
  rw [Try.params5] at hA hval
  obtain ⟨v0, vs0, d0, ds0, p0, q0, hargs, rfl, rfl, h0, r0⟩ := trodAll_cons hA
  obtain ⟨v1, vs1, d1, ds1, p1, q1, rfl, rfl, rfl, h1, r1⟩ := trodAll_cons r0
  obtain ⟨rfl, rfl, rfl⟩ := trodAll_nil r1
  obtain rfl : args = #[v0, v1] := by cases args; simp_all
  obtain ⟨rfl, rfl⟩ := trodVars_none hV
  have k0 := h0
  have lt0 : ∀ x ∈ p0, x.block < W.heap.size := by obtain ⟨m, hm⟩ := k0; exact DataW.trod_lt m _ _ _ hm
  obtain ⟨a0, len0, cap0, l0, rfl, w0, g0⟩ := codes_of (hval 0 25 v0 rfl rfl) h0
  obtain ⟨a1, rfl, rfl, rfl, w1⟩ := open_int Try.underlying3 (hval 1 3 v1 rfl rfl) h1
  clear hA0 hval0
  refine (walk a0 len0 cap0 l0 a1 W w0 g0 w1).mono fun e W' ⟨he, bel⟩ => ?_
  subst he
  exact ⟨_, rfl, _, _, _, [], _, [], hW', trodAll_mk1 (shut_bool Try.underlying4 _), (trodAll_cons_mk (Below.trod laidOut (by kernel_rfl) (of_decide_eq_true (by kernel_rfl)) k0 bel lt0) (trodAll_cons_mk (shut_int Try.underlying3 w1) trodAll_mk0)), rfl, bel.frame _, fun h => by cases h⟩

theorem proved : Rows.CanonPutsSaid :=
  OpenClaim.holds_of_wide 5 Try.f5 rfl rfl rfl rfl rfl rfl rfl ⟨rfl, rfl, rfl, rfl, rfl⟩ rfl rfl rfl rfl rfl (by kernel_rfl) Try.func5 (by kernel_rfl)
    (of_decide_eq_true (by kernel_rfl)) (by unfold Func.isWrapper; first | (rw [if_pos (by decide +kernel)]; kernel_rfl) | (rw [if_neg (by decide +kernel)]; exact ⟨rfl, rfl⟩))
    (fun os started H enc _ => lifted os started H enc)

end Go.Proofs.Ytgfdonmkhmolpaa.canonPuts
