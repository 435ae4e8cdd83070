/-
  Package limit: the heap of coins: Swap.
-/
import Derived.Test.YtklfoafbgniogaaLkG
import Derived.Test.YtklfoafbgniogaaLow
namespace Go.Proofs.Ytklfoafbgniogaa
open Go.RowKit Go.Deep
set_option linter.unusedVariables false
set_option linter.unusedSimpArgs false
set_option maxRecDepth 100000

set_option maxHeartbeats 8000000 in
theorem purSwap_any (w0 w : World) (g rb n cap : Nat) (L : List Itm) (h : PurW w0 w g (some ⟨rb, 0, none⟩) n cap L) (i j : Nat) (hi : i < n) (hj : j < n) :
    Calls Try.prog 49 #[.pointer (some ⟨g, 0, none⟩), .int .i64 (i : Int), .int .i64 (j : Int)] w fun e w' => e = .returned (.tuple #[]) ∧ PurW w0 w' g (some ⟨rb, 0, none⟩) n cap (swapL L i j) ∧ Only (fun q => q = rb) w w' := by
  have hl := h.2.1.2.1
  have hne := h.ne
  have hLi : L[i]? = some (L.getD i default) := by rw [List.getD, List.getElem?_eq_getElem (by omega)]; rfl
  have hLj : L[j]? = some (L.getD j default) := by rw [List.getD, List.getElem?_eq_getElem (by omega)]; rfl
  have hsw : swapL L i j = (L.set i (L.getD j default)).set j (L.getD i default) := rfl
  have hr := h.2.1.1
  have hri := hr.rangeAt i _ hLi
  have hrj := hr.rangeAt j _ hLj
  generalize L.getD i default = x at *
  generalize L.getD j default = y at *
  obtain ⟨wd, hwd⟩ : ∃ u, u = w.drew := ⟨_, rfl⟩
  have hHD : PurW w0 wd g (some ⟨rb, 0, none⟩) n cap L := by rw [hwd]; exact h.below ((Below.refl _ _).drew)
  have hrd := hHD.2.1.1
  obtain ⟨hr1, hg1⟩ := Recs.put hrd i (by omega) y rfl (cnC_one y)
  have htk : wd.there rb (i * 2) 2 := hrd.there i (by omega)
  have htj := hr1.there j (by rw [List.length_set]; omega)
  obtain ⟨hr2, hg2⟩ := Recs.put hr1 j (by rw [List.length_set]; omega) x rfl (cnC_one x)
  rw [← hsw] at hr2
  have hri' : wd.rangeAt rb (i * 2) (cnC x) := by rw [hwd]; exact hri
  have hrj' : wd.rangeAt rb (j * 2) (cnC y) := by rw [hwd]; exact hrj
  obtain ⟨w1, hw1⟩ : ∃ u, u = wd.setCells rb (i * 2) (cnC y) := ⟨_, rfl⟩
  rw [← hw1] at hg1 hr2 hg2 htj
  obtain ⟨w2, hw2⟩ : ∃ u, u = w1.setCells rb (j * 2) (cnC x) := ⟨_, rfl⟩
  rw [← hw2] at hr2 hg2
  have hgl : g < wd.heap.size := (Array.getElem?_eq_some_iff.1 hHD.1).1
  have hb1 := (hg1.block g hgl (by intro e; injection e with e; first | exact hne e | exact hne e.symm)).trans hHD.1
  have hb2 := (hg2.block g (by have := hg1.size; omega) (by intro e; injection e with e; first | exact hne e | exact hne e.symm)).trans hb1
  have HBX := Lib.hid (show ∀ b1 b2 u, revU wd w1 w2 b1 b2 u → u.cell? ⟨g, 0, none⟩ = some (.slice (some ⟨rb, 0, none⟩) n cap) from fun b1 b2 u hu => by
    unfold revU at hu
    split at hu
    · rw [hu, cell_of_row _ g 0 _ _ _ hb2]; rfl
    · split at hu
      · rw [hu, cell_of_row _ g 0 _ _ _ hb1]; rfl
      · rw [hu, cell_of_row _ g 0 _ _ _ hHD.1]; rfl)
  have HLI := Lib.hid hri'
  have HLJ := Lib.hid hrj'
  have HTK := Lib.hid (show wd.there rb (i * 2) (cnC y).toArray.size from htk)
  have HTJ := Lib.hid (show w1.there rb (j * 2) (cnC x).toArray.size from htj)
  have HW1 := Lib.hid (show wd.setCells rb (i * 2) (cnC y).toArray.toList = w1 from hw1.symm)
  have HW2 := Lib.hid (show w1.setCells rb (j * 2) (cnC x).toArray.toList = w2 from hw2.symm)
  have HSX := Lib.hid (show (Try.prog.info? 40).map (·.size) = some (cnC x).toArray.size from sizeCn)
  have HSY := Lib.hid (show (Try.prog.info? 40).map (·.size) = some (cnC y).toArray.size from sizeCn)
  have HOF := Lib.hid (show Only (fun q => q = rb) w w2 by
    have h1 : Only (fun q => q = rb) w wd := by rw [hwd]; exact Only.drew _
    exact h1.trans (Only.of_grown (S := fun q => q = rb) (grown_trans hg1 hg2) (fun q e => by injection e with e; exact e.symm)) fun _ _ e => e)
  have HFIN := Lib.hid (show PurW w0 w2 g (some ⟨rb, 0, none⟩) n cap (swapL L i j) from
    ⟨hb2, ⟨hr2, by rw [swapL_len]; exact hl, h.2.1.2.2.1, hHD.2.1.2.2.2.grown (grown_trans hg1 hg2) hHD.2.1.2.2.2.size (fun k hk => by injection hk with hk; rw [← hk]; exact h.2.1.2.2.1 rb rfl)⟩, h.2.2⟩)
  have HWD := Lib.hid (show revU wd w1 w2 false false w.drew from hwd.symm)
  have hin : (i : Int) < n := by omega
  have hjn : (j : Int) < n := by omega
  clear hl hne hLi hLj hsw hr hri hrj hHD hrd hr1 hg1 htk htj hr2 hg2 hri' hrj' hw1 hw2 hgl hb1 hb2 hwd h
  go_enter Try.func49, Try.ntmps49
  go_upto_region 0 with (fail)
  refine region_inv (fun s act u => ∃ y6 y7 y8 y9 y10 y11 y12 y13 y14 y15 y16 y17 y18 y19 y20 y21 y22 y23 y24 y25 y26 y27, act = { tmps := #[.pointer (some ⟨g, 0, none⟩), .int .i64 (i : Int), .int .i64 (j : Int), undef, undef, undef, y6, y7, y8, y9, y10, y11, y12, y13, y14, y15, y16, y17, y18, y19, y20, y21, y22, y23, y24, y25, y26, y27], defers := [] } ∧ (s 0 = true → y6 = .pointer (some ⟨g, 0, none⟩)) ∧ (s 1 = true → y7 = .pointer (some ⟨g, 0, none⟩)) ∧ (s 2 = true → y8 = .slice (some ⟨rb, 0, none⟩) n cap) ∧ (s 3 = true → y9 = .int .i64 (i : Int)) ∧ (s 4 = true → y10 = .pointer (some ⟨g, 0, none⟩)) ∧ (s 5 = true → y11 = .pointer (some ⟨g, 0, none⟩)) ∧ (s 6 = true → y12 = .slice (some ⟨rb, 0, none⟩) n cap) ∧ (s 7 = true → y13 = .int .i64 (j : Int)) ∧ (s 8 = true → y14 = .pointer (some ⟨g, 0, none⟩)) ∧ (s 9 = true → y15 = .pointer (some ⟨g, 0, none⟩)) ∧ (s 10 = true → y16 = .slice (some ⟨rb, 0, none⟩) n cap) ∧ (s 11 = true → y17 = .int .i64 (j : Int)) ∧ (s 12 = true → y18 = .pointer (some ⟨rb, j * 2, none⟩)) ∧ (s 13 = true → y19 = .agg (cnC y).toArray) ∧ (s 14 = true → y20 = .pointer (some ⟨g, 0, none⟩)) ∧ (s 15 = true → y21 = .pointer (some ⟨g, 0, none⟩)) ∧ (s 16 = true → y22 = .slice (some ⟨rb, 0, none⟩) n cap) ∧ (s 17 = true → y23 = .int .i64 (i : Int)) ∧ (s 18 = true → y24 = .pointer (some ⟨rb, i * 2, none⟩)) ∧ (s 19 = true → y25 = .agg (cnC x).toArray) ∧ (s 20 = true → y26 = .pointer (some ⟨rb, i * 2, none⟩)) ∧ (s 22 = true → y27 = .pointer (some ⟨rb, j * 2, none⟩)) ∧ revU wd w1 w2 (s 21) (s 23) u ∧ (s 21 = true → s 13 = true ∧ s 19 = true) ∧ (s 23 = true → s 21 = true)) (by kernel_rfl) (goesB_low (by kernel_rfl)) ?start ?steps ?done
  case start => exact ⟨_, _, _, _, _, _, _, _, _, _, _, _, _, _, _, _, _, _, _, _, _, _, rfl, fun h => (by cases h), fun h => (by cases h), fun h => (by cases h), fun h => (by cases h), fun h => (by cases h), fun h => (by cases h), fun h => (by cases h), fun h => (by cases h), fun h => (by cases h), fun h => (by cases h), fun h => (by cases h), fun h => (by cases h), fun h => (by cases h), fun h => (by cases h), fun h => (by cases h), fun h => (by cases h), fun h => (by cases h), fun h => (by cases h), fun h => (by cases h), fun h => (by cases h), fun h => (by cases h), fun h => (by cases h), HWD.out, fun h => (by cases h), fun h => (by cases h)⟩
  case steps =>
    refine ⟨?s0, ?s1, ?s2, ?s3, ?s4, ?s5, ?s6, ?s7, ?s8, ?s9, ?s10, ?s11, ?s12, ?s13, ?s14, ?s15, ?s16, ?s17, ?s18, ?s19, ?s20, ?s21, ?s22, ?s23, trivial⟩
    case s0 =>
      rintro s act u hs hd ⟨y6, y7, y8, y9, y10, y11, y12, y13, y14, y15, y16, y17, y18, y19, y20, y21, y22, y23, y24, y25, y26, y27, rfl, h0, h1, h2, h3, h4, h5, h6, h7, h8, h9, h10, h11, h12, h13, h14, h15, h16, h17, h18, h19, h20, h22, hu, i21, i23⟩ K hK
      rw [if_pos (by rfl)]
      go_simp
      exact hK _ _ ⟨_, y7, y8, y9, y10, y11, y12, y13, y14, y15, y16, y17, y18, y19, y20, y21, y22, y23, y24, y25, y26, y27, rfl, fun _ => rfl, h1, h2, h3, h4, h5, h6, h7, h8, h9, h10, h11, h12, h13, h14, h15, h16, h17, h18, h19, h20, h22, hu, i21, i23⟩
    case s1 =>
      rintro s act u hs hd ⟨y6, y7, y8, y9, y10, y11, y12, y13, y14, y15, y16, y17, y18, y19, y20, y21, y22, y23, y24, y25, y26, y27, rfl, h0, h1, h2, h3, h4, h5, h6, h7, h8, h9, h10, h11, h12, h13, h14, h15, h16, h17, h18, h19, h20, h22, hu, i21, i23⟩ K hK
      rw [if_pos (by rfl)]
      have d0 : s 0 = true := by first | (revert hd; simp [Region.binds]; done) | (revert hd; simp [Region.binds]; intros; assumption)
      have e0 := h0 d0
      subst e0
      go_simp
      exact hK _ _ ⟨_, _, y8, y9, y10, y11, y12, y13, y14, y15, y16, y17, y18, y19, y20, y21, y22, y23, y24, y25, y26, y27, rfl, fun _ => rfl, fun _ => rfl, h2, h3, h4, h5, h6, h7, h8, h9, h10, h11, h12, h13, h14, h15, h16, h17, h18, h19, h20, h22, hu, i21, i23⟩
    case s2 =>
      rintro s act u hs hd ⟨y6, y7, y8, y9, y10, y11, y12, y13, y14, y15, y16, y17, y18, y19, y20, y21, y22, y23, y24, y25, y26, y27, rfl, h0, h1, h2, h3, h4, h5, h6, h7, h8, h9, h10, h11, h12, h13, h14, h15, h16, h17, h18, h19, h20, h22, hu, i21, i23⟩ K hK
      rw [if_pos (by rfl)]
      have d1 : s 1 = true := by first | (revert hd; simp [Region.binds]; done) | (revert hd; simp [Region.binds]; intros; assumption)
      have e1 := h1 d1
      subst e1
      have c0 := HBX.out _ _ _ hu
      go_simp
      exact hK _ _ ⟨y6, _, _, y9, y10, y11, y12, y13, y14, y15, y16, y17, y18, y19, y20, y21, y22, y23, y24, y25, y26, y27, rfl, h0, fun _ => rfl, fun _ => rfl, h3, h4, h5, h6, h7, h8, h9, h10, h11, h12, h13, h14, h15, h16, h17, h18, h19, h20, h22, hu, i21, i23⟩
    case s3 =>
      rintro s act u hs hd ⟨y6, y7, y8, y9, y10, y11, y12, y13, y14, y15, y16, y17, y18, y19, y20, y21, y22, y23, y24, y25, y26, y27, rfl, h0, h1, h2, h3, h4, h5, h6, h7, h8, h9, h10, h11, h12, h13, h14, h15, h16, h17, h18, h19, h20, h22, hu, i21, i23⟩ K hK
      rw [if_pos (by rfl)]
      go_simp
      exact hK _ _ ⟨y6, y7, y8, _, y10, y11, y12, y13, y14, y15, y16, y17, y18, y19, y20, y21, y22, y23, y24, y25, y26, y27, rfl, h0, h1, h2, fun _ => rfl, h4, h5, h6, h7, h8, h9, h10, h11, h12, h13, h14, h15, h16, h17, h18, h19, h20, h22, hu, i21, i23⟩
    case s4 =>
      rintro s act u hs hd ⟨y6, y7, y8, y9, y10, y11, y12, y13, y14, y15, y16, y17, y18, y19, y20, y21, y22, y23, y24, y25, y26, y27, rfl, h0, h1, h2, h3, h4, h5, h6, h7, h8, h9, h10, h11, h12, h13, h14, h15, h16, h17, h18, h19, h20, h22, hu, i21, i23⟩ K hK
      rw [if_pos (by rfl)]
      go_simp
      exact hK _ _ ⟨y6, y7, y8, y9, _, y11, y12, y13, y14, y15, y16, y17, y18, y19, y20, y21, y22, y23, y24, y25, y26, y27, rfl, h0, h1, h2, h3, fun _ => rfl, h5, h6, h7, h8, h9, h10, h11, h12, h13, h14, h15, h16, h17, h18, h19, h20, h22, hu, i21, i23⟩
    case s5 =>
      rintro s act u hs hd ⟨y6, y7, y8, y9, y10, y11, y12, y13, y14, y15, y16, y17, y18, y19, y20, y21, y22, y23, y24, y25, y26, y27, rfl, h0, h1, h2, h3, h4, h5, h6, h7, h8, h9, h10, h11, h12, h13, h14, h15, h16, h17, h18, h19, h20, h22, hu, i21, i23⟩ K hK
      rw [if_pos (by rfl)]
      have d4 : s 4 = true := by first | (revert hd; simp [Region.binds]; done) | (revert hd; simp [Region.binds]; intros; assumption)
      have e4 := h4 d4
      subst e4
      go_simp
      exact hK _ _ ⟨y6, y7, y8, y9, _, _, y12, y13, y14, y15, y16, y17, y18, y19, y20, y21, y22, y23, y24, y25, y26, y27, rfl, h0, h1, h2, h3, fun _ => rfl, fun _ => rfl, h6, h7, h8, h9, h10, h11, h12, h13, h14, h15, h16, h17, h18, h19, h20, h22, hu, i21, i23⟩
    case s6 =>
      rintro s act u hs hd ⟨y6, y7, y8, y9, y10, y11, y12, y13, y14, y15, y16, y17, y18, y19, y20, y21, y22, y23, y24, y25, y26, y27, rfl, h0, h1, h2, h3, h4, h5, h6, h7, h8, h9, h10, h11, h12, h13, h14, h15, h16, h17, h18, h19, h20, h22, hu, i21, i23⟩ K hK
      rw [if_pos (by rfl)]
      have d5 : s 5 = true := by first | (revert hd; simp [Region.binds]; done) | (revert hd; simp [Region.binds]; intros; assumption)
      have e5 := h5 d5
      subst e5
      have c0 := HBX.out _ _ _ hu
      go_simp
      exact hK _ _ ⟨y6, y7, y8, y9, y10, _, _, y13, y14, y15, y16, y17, y18, y19, y20, y21, y22, y23, y24, y25, y26, y27, rfl, h0, h1, h2, h3, h4, fun _ => rfl, fun _ => rfl, h7, h8, h9, h10, h11, h12, h13, h14, h15, h16, h17, h18, h19, h20, h22, hu, i21, i23⟩
    case s7 =>
      rintro s act u hs hd ⟨y6, y7, y8, y9, y10, y11, y12, y13, y14, y15, y16, y17, y18, y19, y20, y21, y22, y23, y24, y25, y26, y27, rfl, h0, h1, h2, h3, h4, h5, h6, h7, h8, h9, h10, h11, h12, h13, h14, h15, h16, h17, h18, h19, h20, h22, hu, i21, i23⟩ K hK
      rw [if_pos (by rfl)]
      go_simp
      exact hK _ _ ⟨y6, y7, y8, y9, y10, y11, y12, _, y14, y15, y16, y17, y18, y19, y20, y21, y22, y23, y24, y25, y26, y27, rfl, h0, h1, h2, h3, h4, h5, h6, fun _ => rfl, h8, h9, h10, h11, h12, h13, h14, h15, h16, h17, h18, h19, h20, h22, hu, i21, i23⟩
    case s8 =>
      rintro s act u hs hd ⟨y6, y7, y8, y9, y10, y11, y12, y13, y14, y15, y16, y17, y18, y19, y20, y21, y22, y23, y24, y25, y26, y27, rfl, h0, h1, h2, h3, h4, h5, h6, h7, h8, h9, h10, h11, h12, h13, h14, h15, h16, h17, h18, h19, h20, h22, hu, i21, i23⟩ K hK
      rw [if_pos (by rfl)]
      go_simp
      exact hK _ _ ⟨y6, y7, y8, y9, y10, y11, y12, y13, _, y15, y16, y17, y18, y19, y20, y21, y22, y23, y24, y25, y26, y27, rfl, h0, h1, h2, h3, h4, h5, h6, h7, fun _ => rfl, h9, h10, h11, h12, h13, h14, h15, h16, h17, h18, h19, h20, h22, hu, i21, i23⟩
    case s9 =>
      rintro s act u hs hd ⟨y6, y7, y8, y9, y10, y11, y12, y13, y14, y15, y16, y17, y18, y19, y20, y21, y22, y23, y24, y25, y26, y27, rfl, h0, h1, h2, h3, h4, h5, h6, h7, h8, h9, h10, h11, h12, h13, h14, h15, h16, h17, h18, h19, h20, h22, hu, i21, i23⟩ K hK
      rw [if_pos (by rfl)]
      have d8 : s 8 = true := by first | (revert hd; simp [Region.binds]; done) | (revert hd; simp [Region.binds]; intros; assumption)
      have e8 := h8 d8
      subst e8
      go_simp
      exact hK _ _ ⟨y6, y7, y8, y9, y10, y11, y12, y13, _, _, y16, y17, y18, y19, y20, y21, y22, y23, y24, y25, y26, y27, rfl, h0, h1, h2, h3, h4, h5, h6, h7, fun _ => rfl, fun _ => rfl, h10, h11, h12, h13, h14, h15, h16, h17, h18, h19, h20, h22, hu, i21, i23⟩
    case s10 =>
      rintro s act u hs hd ⟨y6, y7, y8, y9, y10, y11, y12, y13, y14, y15, y16, y17, y18, y19, y20, y21, y22, y23, y24, y25, y26, y27, rfl, h0, h1, h2, h3, h4, h5, h6, h7, h8, h9, h10, h11, h12, h13, h14, h15, h16, h17, h18, h19, h20, h22, hu, i21, i23⟩ K hK
      rw [if_pos (by rfl)]
      have d9 : s 9 = true := by first | (revert hd; simp [Region.binds]; done) | (revert hd; simp [Region.binds]; intros; assumption)
      have e9 := h9 d9
      subst e9
      have c0 := HBX.out _ _ _ hu
      go_simp
      exact hK _ _ ⟨y6, y7, y8, y9, y10, y11, y12, y13, y14, _, _, y17, y18, y19, y20, y21, y22, y23, y24, y25, y26, y27, rfl, h0, h1, h2, h3, h4, h5, h6, h7, h8, fun _ => rfl, fun _ => rfl, h11, h12, h13, h14, h15, h16, h17, h18, h19, h20, h22, hu, i21, i23⟩
    case s11 =>
      rintro s act u hs hd ⟨y6, y7, y8, y9, y10, y11, y12, y13, y14, y15, y16, y17, y18, y19, y20, y21, y22, y23, y24, y25, y26, y27, rfl, h0, h1, h2, h3, h4, h5, h6, h7, h8, h9, h10, h11, h12, h13, h14, h15, h16, h17, h18, h19, h20, h22, hu, i21, i23⟩ K hK
      rw [if_pos (by rfl)]
      go_simp
      exact hK _ _ ⟨y6, y7, y8, y9, y10, y11, y12, y13, y14, y15, y16, _, y18, y19, y20, y21, y22, y23, y24, y25, y26, y27, rfl, h0, h1, h2, h3, h4, h5, h6, h7, h8, h9, h10, fun _ => rfl, h12, h13, h14, h15, h16, h17, h18, h19, h20, h22, hu, i21, i23⟩
    case s12 =>
      rintro s act u hs hd ⟨y6, y7, y8, y9, y10, y11, y12, y13, y14, y15, y16, y17, y18, y19, y20, y21, y22, y23, y24, y25, y26, y27, rfl, h0, h1, h2, h3, h4, h5, h6, h7, h8, h9, h10, h11, h12, h13, h14, h15, h16, h17, h18, h19, h20, h22, hu, i21, i23⟩ K hK
      rw [if_pos (by rfl)]
      have d10 : s 10 = true := by first | (revert hd; simp [Region.binds]; done) | (revert hd; simp [Region.binds]; intros; assumption)
      have d11 : s 11 = true := by first | (revert hd; simp [Region.binds]; done) | (revert hd; simp [Region.binds]; intros; assumption)
      have e10 := h10 d10
      have e11 := h11 d11
      subst e10
      subst e11
      go_simp
      exact hK _ _ ⟨y6, y7, y8, y9, y10, y11, y12, y13, y14, y15, _, _, _, y19, y20, y21, y22, y23, y24, y25, y26, y27, rfl, h0, h1, h2, h3, h4, h5, h6, h7, h8, h9, fun _ => rfl, fun _ => rfl, fun _ => rfl, h13, h14, h15, h16, h17, h18, h19, h20, h22, hu, i21, i23⟩
    case s13 =>
      rintro s act u hs hd ⟨y6, y7, y8, y9, y10, y11, y12, y13, y14, y15, y16, y17, y18, y19, y20, y21, y22, y23, y24, y25, y26, y27, rfl, h0, h1, h2, h3, h4, h5, h6, h7, h8, h9, h10, h11, h12, h13, h14, h15, h16, h17, h18, h19, h20, h22, hu, i21, i23⟩ K hK
      rw [if_pos (by rfl)]
      have d12 : s 12 = true := by first | (revert hd; simp [Region.binds]; done) | (revert hd; simp [Region.binds]; intros; assumption)
      have e12 := h12 d12
      subst e12
      have n21 : s 21 = false := by cases h : s 21 with | false => rfl | true => rw [(i21 h).1] at hs; cases hs
      have n23 : s 23 = false := by cases h : s 23 with | false => rfl | true => rw [i23 h] at n21; cases n21
      have hue : u = wd := by rw [n21, n23] at hu; exact hu
      subst hue
      refine wp_load_mid 40 _ rfl rb (j * 2) rfl (cnC y) _ HLJ.out Try.underlying40 rfl sizeCn ?_
      exact hK _ _ ⟨y6, y7, y8, y9, y10, y11, y12, y13, y14, y15, y16, y17, _, _, y20, y21, y22, y23, y24, y25, y26, y27, rfl, h0, h1, h2, h3, h4, h5, h6, h7, h8, h9, h10, h11, fun _ => rfl, fun _ => rfl, h14, h15, h16, h17, h18, h19, h20, h22, hu, fun h => (by have h' : s 21 = true := h; rw [n21] at h'; cases h'), i23⟩
    case s14 =>
      rintro s act u hs hd ⟨y6, y7, y8, y9, y10, y11, y12, y13, y14, y15, y16, y17, y18, y19, y20, y21, y22, y23, y24, y25, y26, y27, rfl, h0, h1, h2, h3, h4, h5, h6, h7, h8, h9, h10, h11, h12, h13, h14, h15, h16, h17, h18, h19, h20, h22, hu, i21, i23⟩ K hK
      rw [if_pos (by rfl)]
      go_simp
      exact hK _ _ ⟨y6, y7, y8, y9, y10, y11, y12, y13, y14, y15, y16, y17, y18, y19, _, y21, y22, y23, y24, y25, y26, y27, rfl, h0, h1, h2, h3, h4, h5, h6, h7, h8, h9, h10, h11, h12, h13, fun _ => rfl, h15, h16, h17, h18, h19, h20, h22, hu, i21, i23⟩
    case s15 =>
      rintro s act u hs hd ⟨y6, y7, y8, y9, y10, y11, y12, y13, y14, y15, y16, y17, y18, y19, y20, y21, y22, y23, y24, y25, y26, y27, rfl, h0, h1, h2, h3, h4, h5, h6, h7, h8, h9, h10, h11, h12, h13, h14, h15, h16, h17, h18, h19, h20, h22, hu, i21, i23⟩ K hK
      rw [if_pos (by rfl)]
      have d14 : s 14 = true := by first | (revert hd; simp [Region.binds]; done) | (revert hd; simp [Region.binds]; intros; assumption)
      have e14 := h14 d14
      subst e14
      go_simp
      exact hK _ _ ⟨y6, y7, y8, y9, y10, y11, y12, y13, y14, y15, y16, y17, y18, y19, _, _, y22, y23, y24, y25, y26, y27, rfl, h0, h1, h2, h3, h4, h5, h6, h7, h8, h9, h10, h11, h12, h13, fun _ => rfl, fun _ => rfl, h16, h17, h18, h19, h20, h22, hu, i21, i23⟩
    case s16 =>
      rintro s act u hs hd ⟨y6, y7, y8, y9, y10, y11, y12, y13, y14, y15, y16, y17, y18, y19, y20, y21, y22, y23, y24, y25, y26, y27, rfl, h0, h1, h2, h3, h4, h5, h6, h7, h8, h9, h10, h11, h12, h13, h14, h15, h16, h17, h18, h19, h20, h22, hu, i21, i23⟩ K hK
      rw [if_pos (by rfl)]
      have d15 : s 15 = true := by first | (revert hd; simp [Region.binds]; done) | (revert hd; simp [Region.binds]; intros; assumption)
      have e15 := h15 d15
      subst e15
      have c0 := HBX.out _ _ _ hu
      go_simp
      exact hK _ _ ⟨y6, y7, y8, y9, y10, y11, y12, y13, y14, y15, y16, y17, y18, y19, y20, _, _, y23, y24, y25, y26, y27, rfl, h0, h1, h2, h3, h4, h5, h6, h7, h8, h9, h10, h11, h12, h13, h14, fun _ => rfl, fun _ => rfl, h17, h18, h19, h20, h22, hu, i21, i23⟩
    case s17 =>
      rintro s act u hs hd ⟨y6, y7, y8, y9, y10, y11, y12, y13, y14, y15, y16, y17, y18, y19, y20, y21, y22, y23, y24, y25, y26, y27, rfl, h0, h1, h2, h3, h4, h5, h6, h7, h8, h9, h10, h11, h12, h13, h14, h15, h16, h17, h18, h19, h20, h22, hu, i21, i23⟩ K hK
      rw [if_pos (by rfl)]
      go_simp
      exact hK _ _ ⟨y6, y7, y8, y9, y10, y11, y12, y13, y14, y15, y16, y17, y18, y19, y20, y21, y22, _, y24, y25, y26, y27, rfl, h0, h1, h2, h3, h4, h5, h6, h7, h8, h9, h10, h11, h12, h13, h14, h15, h16, fun _ => rfl, h18, h19, h20, h22, hu, i21, i23⟩
    case s18 =>
      rintro s act u hs hd ⟨y6, y7, y8, y9, y10, y11, y12, y13, y14, y15, y16, y17, y18, y19, y20, y21, y22, y23, y24, y25, y26, y27, rfl, h0, h1, h2, h3, h4, h5, h6, h7, h8, h9, h10, h11, h12, h13, h14, h15, h16, h17, h18, h19, h20, h22, hu, i21, i23⟩ K hK
      rw [if_pos (by rfl)]
      have d16 : s 16 = true := by first | (revert hd; simp [Region.binds]; done) | (revert hd; simp [Region.binds]; intros; assumption)
      have d17 : s 17 = true := by first | (revert hd; simp [Region.binds]; done) | (revert hd; simp [Region.binds]; intros; assumption)
      have e16 := h16 d16
      have e17 := h17 d17
      subst e16
      subst e17
      go_simp
      exact hK _ _ ⟨y6, y7, y8, y9, y10, y11, y12, y13, y14, y15, y16, y17, y18, y19, y20, y21, _, _, _, y25, y26, y27, rfl, h0, h1, h2, h3, h4, h5, h6, h7, h8, h9, h10, h11, h12, h13, h14, h15, fun _ => rfl, fun _ => rfl, fun _ => rfl, h19, h20, h22, hu, i21, i23⟩
    case s19 =>
      rintro s act u hs hd ⟨y6, y7, y8, y9, y10, y11, y12, y13, y14, y15, y16, y17, y18, y19, y20, y21, y22, y23, y24, y25, y26, y27, rfl, h0, h1, h2, h3, h4, h5, h6, h7, h8, h9, h10, h11, h12, h13, h14, h15, h16, h17, h18, h19, h20, h22, hu, i21, i23⟩ K hK
      rw [if_pos (by rfl)]
      have d18 : s 18 = true := by first | (revert hd; simp [Region.binds]; done) | (revert hd; simp [Region.binds]; intros; assumption)
      have e18 := h18 d18
      subst e18
      have n21 : s 21 = false := by cases h : s 21 with | false => rfl | true => rw [(i21 h).2] at hs; cases hs
      have n23 : s 23 = false := by cases h : s 23 with | false => rfl | true => rw [i23 h] at n21; cases n21
      have hue : u = wd := by rw [n21, n23] at hu; exact hu
      subst hue
      refine wp_load_mid 40 _ rfl rb (i * 2) rfl (cnC x) _ HLI.out Try.underlying40 rfl sizeCn ?_
      exact hK _ _ ⟨y6, y7, y8, y9, y10, y11, y12, y13, y14, y15, y16, y17, y18, y19, y20, y21, y22, y23, _, _, y26, y27, rfl, h0, h1, h2, h3, h4, h5, h6, h7, h8, h9, h10, h11, h12, h13, h14, h15, h16, h17, fun _ => rfl, fun _ => rfl, h20, h22, hu, fun h => (by have h' : s 21 = true := h; rw [n21] at h'; cases h'), i23⟩
    case s20 =>
      rintro s act u hs hd ⟨y6, y7, y8, y9, y10, y11, y12, y13, y14, y15, y16, y17, y18, y19, y20, y21, y22, y23, y24, y25, y26, y27, rfl, h0, h1, h2, h3, h4, h5, h6, h7, h8, h9, h10, h11, h12, h13, h14, h15, h16, h17, h18, h19, h20, h22, hu, i21, i23⟩ K hK
      rw [if_pos (by rfl)]
      have d2 : s 2 = true := by first | (revert hd; simp [Region.binds]; done) | (revert hd; simp [Region.binds]; intros; assumption)
      have d3 : s 3 = true := by first | (revert hd; simp [Region.binds]; done) | (revert hd; simp [Region.binds]; intros; assumption)
      have e2 := h2 d2
      have e3 := h3 d3
      subst e2
      subst e3
      go_simp
      exact hK _ _ ⟨y6, y7, _, _, y10, y11, y12, y13, y14, y15, y16, y17, y18, y19, y20, y21, y22, y23, y24, y25, _, y27, rfl, h0, h1, fun _ => rfl, fun _ => rfl, h4, h5, h6, h7, h8, h9, h10, h11, h12, h13, h14, h15, h16, h17, h18, h19, fun _ => rfl, h22, hu, i21, i23⟩
    case s21 =>
      rintro s act u hs hd ⟨y6, y7, y8, y9, y10, y11, y12, y13, y14, y15, y16, y17, y18, y19, y20, y21, y22, y23, y24, y25, y26, y27, rfl, h0, h1, h2, h3, h4, h5, h6, h7, h8, h9, h10, h11, h12, h13, h14, h15, h16, h17, h18, h19, h20, h22, hu, i21, i23⟩ K hK
      rw [if_pos (by rfl)]
      have d20 : s 20 = true := by first | (revert hd; simp [Region.binds]; done) | (revert hd; simp [Region.binds]; intros; assumption)
      have d13 : s 13 = true := by first | (revert hd; simp [Region.binds]; done) | (revert hd; simp [Region.binds]; intros; assumption)
      have d19 : s 19 = true := by first | (revert hd; simp [Region.binds]; done) | (revert hd; simp [Region.binds]; intros; assumption)
      have e20 := h20 d20
      have e13 := h13 d13
      have e19 := h19 d19
      subst e20
      subst e13
      subst e19
      have n23 : s 23 = false := by cases h : s 23 with | false => rfl | true => rw [i23 h] at hs; cases hs
      have hue : u = wd := by rw [hs, n23] at hu; exact hu
      subst hue
      refine wp_store_mid 40 _ _ rfl rb (i * 2) (cnC y).toArray rfl rfl HTK.out HSY.out (all_oneCell_toArray (cnC_one y)) ?_
      exact hK _ _ ⟨y6, y7, y8, y9, y10, y11, y12, y13, y14, y15, y16, y17, y18, _, y20, y21, y22, y23, y24, _, _, y27, rfl, h0, h1, h2, h3, h4, h5, h6, h7, h8, h9, h10, h11, h12, fun _ => rfl, h14, h15, h16, h17, h18, fun _ => rfl, fun _ => rfl, h22, (by show revU _ _ _ true (s 23) _; rw [n23]; exact HW1.out), fun _ => ⟨d13, d19⟩, fun _ => rfl⟩
    case s22 =>
      rintro s act u hs hd ⟨y6, y7, y8, y9, y10, y11, y12, y13, y14, y15, y16, y17, y18, y19, y20, y21, y22, y23, y24, y25, y26, y27, rfl, h0, h1, h2, h3, h4, h5, h6, h7, h8, h9, h10, h11, h12, h13, h14, h15, h16, h17, h18, h19, h20, h22, hu, i21, i23⟩ K hK
      rw [if_pos (by rfl)]
      have d6 : s 6 = true := by first | (revert hd; simp [Region.binds]; done) | (revert hd; simp [Region.binds]; intros; assumption)
      have d7 : s 7 = true := by first | (revert hd; simp [Region.binds]; done) | (revert hd; simp [Region.binds]; intros; assumption)
      have e6 := h6 d6
      have e7 := h7 d7
      subst e6
      subst e7
      go_simp
      exact hK _ _ ⟨y6, y7, y8, y9, y10, y11, _, _, y14, y15, y16, y17, y18, y19, y20, y21, y22, y23, y24, y25, y26, _, rfl, h0, h1, h2, h3, h4, h5, fun _ => rfl, fun _ => rfl, h8, h9, h10, h11, h12, h13, h14, h15, h16, h17, h18, h19, h20, fun _ => rfl, hu, i21, i23⟩
    case s23 =>
      rintro s act u hs hd ⟨y6, y7, y8, y9, y10, y11, y12, y13, y14, y15, y16, y17, y18, y19, y20, y21, y22, y23, y24, y25, y26, y27, rfl, h0, h1, h2, h3, h4, h5, h6, h7, h8, h9, h10, h11, h12, h13, h14, h15, h16, h17, h18, h19, h20, h22, hu, i21, i23⟩ K hK
      rw [if_pos (by rfl)]
      have d22 : s 22 = true := by first | (revert hd; simp [Region.binds]; done) | (revert hd; simp [Region.binds]; intros; assumption)
      have d19 : s 19 = true := by first | (revert hd; simp [Region.binds]; done) | (revert hd; simp [Region.binds]; intros; assumption)
      have d13 : s 13 = true := by first | (revert hd; simp [Region.binds]; done) | (revert hd; simp [Region.binds]; intros; assumption)
      have d21 : s 21 = true := by first | (revert hd; simp [Region.binds]; done) | (revert hd; simp [Region.binds]; intros; assumption)
      have e22 := h22 d22
      have e19 := h19 d19
      have e13 := h13 d13
      subst e22
      subst e19
      subst e13
      have hue : u = w1 := by rw [hs, d21] at hu; exact hu
      subst hue
      refine wp_store_mid 40 _ _ rfl rb (j * 2) (cnC x).toArray rfl rfl HTJ.out HSX.out (all_oneCell_toArray (cnC_one x)) ?_
      exact hK _ _ ⟨y6, y7, y8, y9, y10, y11, y12, y13, y14, y15, y16, y17, y18, _, y20, y21, y22, y23, y24, _, y26, _, rfl, h0, h1, h2, h3, h4, h5, h6, h7, h8, h9, h10, h11, h12, fun _ => rfl, h14, h15, h16, h17, h18, fun _ => rfl, h20, fun _ => rfl, HW2.out, i21, fun _ => d21⟩
  case done =>
    rintro s act u hs ⟨y6, y7, y8, y9, y10, y11, y12, y13, y14, y15, y16, y17, y18, y19, y20, y21, y22, y23, y24, y25, y26, y27, rfl, h0, h1, h2, h3, h4, h5, h6, h7, h8, h9, h10, h11, h12, h13, h14, h15, h16, h17, h18, h19, h20, h22, hu, i21, i23⟩
    have hue : u = w2 := by rw [hs 21 (by decide), hs 23 (by decide)] at hu; exact hu
    subst hue
    clear hu i21 i23 h0 h1 h2 h3 h4 h5 h6 h7 h8 h9 h10 h11 h12 h13 h14 h15 h16 h17 h18 h19 h20 h22
    go_wp2
    go_end0
    exact ⟨rfl, HFIN.out, HOF.out⟩
end Go.Proofs.Ytklfoafbgniogaa
