/-
  container/heap over the coins: up, down, Push, Pop.
-/
import Derived.Test.YtklfoafbgniogaaLkH
import Derived.Deep.DeepCutAuto
import Derived.Deep.CutBlock
namespace Go.Proofs.Ytklfoafbgniogaa
open Go.RowKit Go.Deep
set_option linter.unusedVariables false
set_option linter.unusedSimpArgs false
set_option maxRecDepth 100000

theorem m_len (k : Nat) (a : Addr) (w : World) : (method (k + 1) 49 (.pointer (some a)) "Len").run Try.prog w = .ok (22, .pointer (some a)) w := by kernel_rfl
theorem m_less (k : Nat) (a : Addr) (w : World) : (method (k + 1) 49 (.pointer (some a)) "Less").run Try.prog w = .ok (46, .pointer (some a)) w := by kernel_rfl
theorem m_swap (k : Nat) (a : Addr) (w : World) : (method (k + 1) 49 (.pointer (some a)) "Swap").run Try.prog w = .ok (49, .pointer (some a)) w := by kernel_rfl
theorem m_push (k : Nat) (a : Addr) (w : World) : (method (k + 1) 49 (.pointer (some a)) "Push").run Try.prog w = .ok (48, .pointer (some a)) w := by kernel_rfl
theorem m_pop (k : Nat) (a : Addr) (w : World) : (method (k + 1) 49 (.pointer (some a)) "Pop").run Try.prog w = .ok (47, .pointer (some a)) w := by kernel_rfl
/-- a purse whose row stays where it is -/
theorem PurW.only {w0 w w' : World} {g rb n cap : Nat} {L : List Itm} (h : PurW w0 w g (some ⟨rb, 0, none⟩) n cap L) (hb : Below w.heap.size w w') : PurW w0 w' g (some ⟨rb, 0, none⟩) n cap L := h.below hb
theorem upL_zero (f : Nat) (L : List Itm) : upL lexLe (f + 1) L 0 = L := by unfold upL; rw [if_pos (.inl rfl)]
theorem upL_stop (f : Nat) (L : List Itm) (j : Nat) (h : lessB lexLe (L.getD j default) (L.getD ((j - 1) / 2) default) = false) : upL lexLe (f + 1) L j = L := by unfold upL; rw [if_pos (.inr h)]
theorem upL_step (f : Nat) (L : List Itm) (j : Nat) (hj : j ≠ 0) (h : lessB lexLe (L.getD j default) (L.getD ((j - 1) / 2) default) = true) : upL lexLe (f + 1) L j = upL lexLe f (swapL L ((j - 1) / 2) j) ((j - 1) / 2) := by
  conv => lhs; unfold upL
  rw [if_neg (by intro hh; rcases hh with hh | hh; exact hj hh; rw [h] at hh; cases hh)]

set_option maxHeartbeats 4000000 in
theorem heapUp_any (w0 w : World) (g rb n cap : Nat) (L : List Itm) (h : PurW w0 w g (some ⟨rb, 0, none⟩) n cap L) (j f : Nat) (hj : j < n) (hf : j < f) (hn : n ≤ 1000000) :
    Calls Try.prog 28 #[.iface 49 (.pointer (some ⟨g, 0, none⟩)), .int .i64 (j : Int)] w fun e w' => e = .returned (.tuple #[]) ∧ PurW w0 w' g (some ⟨rb, 0, none⟩) n cap (upL lexLe f L j) ∧ Only (fun q => q = rb) w w' := by
  have ml := fun k u => m_less k ⟨g, 0, none⟩ u
  have ms := fun k u => m_swap k ⟨g, 0, none⟩ u
  have H := Lib.hid h
  obtain ⟨R, hR⟩ : ∃ R, R = upL lexLe f L j := ⟨_, rfl⟩
  have HR := Lib.hid hR.symm
  rw [← hR]
  clear h hR
  go_enter Try.func28, Try.ntmps28
  go_wp2
  go_loopw [1] (fun sj wx => ∃ (j f : Nat) (L : List Itm), j < n ∧ j < f ∧ sj = .int .i64 (j : Int) ∧ PurW w0 wx g (some ⟨rb, 0, none⟩) n cap L ∧ upL lexLe f L j = R ∧ Only (fun q => q = rb) w wx) (fun sj _ => (intOf sj).toNat)
  case atStart => exact ⟨j, f, L, hj, hf, rfl, H.out, HR.out, Only.refl _ _⟩
  case round =>
    clear H HR hj hf j f L
    obtain ⟨j, f, L, hj, hf, rfl, h, hr, ho⟩ := hrel
    rename World => wx
    obtain ⟨f, rfl⟩ : ∃ f', f = f' + 1 := ⟨f - 1, by omega⟩
    have H := Lib.hid h
    have HR := Lib.hid hr
    have HO := Lib.hid ho
    clear h hr ho
    by_cases hj0 : j = 0
    · subst hj0
      have HF := Lib.hid (show L = R by rw [← HR.out, upL_zero])
      go_wp2
      go_end0
      exact ⟨rfl, by rw [← HF.out]; exact H.out, HO.out⟩
    · obtain ⟨p, hp⟩ : ∃ p, p = (j - 1) / 2 := ⟨_, rfl⟩
      have hpj : p < j := by omega
      have CL := Lib.hid (purLess_any w0 wx g (some ⟨rb, 0, none⟩) n cap L H.out j p hj (by omega))
      have HZ := Lib.hid (upL_stop f L j)
      have HS := Lib.hid (upL_step f L j hj0)
      have e0 : IntKind.i64.wrap ((j : Int) - 1) = (j : Int) - 1 := IntWalk.i64_in _ (by omega)
      have e1 : ((j : Int) - 1).tdiv 2 = (p : Int) := by
        rw [Int.tdiv_eq_ediv_of_nonneg (by omega)]; omega
      have e2 : IntKind.i64.wrap (p : Int) = (p : Int) := IntWalk.i64_in _ (by omega)
      have hpjb : ((p : Int) == (j : Int)) = false := by rw [beq_eq_false_iff_ne]; omega
      rw [← hp] at HZ HS
      have HP := Lib.hid hp
      clear hp
      generalize hl : lessB lexLe (L.getD j default) (L.getD p default) = bb at *
      clear hl
      go_wp2_with fail
      refine CL.out.mono ?_
      rintro e w2 ⟨rfl, hb2⟩
      have H2 := Lib.hid (H.out.below hb2)
      have HO2 := Lib.hid (HO.out.trans (Only.of_below hb2) fun _ _ e => e)
      clear hb2 CL H HO
      cases bb with
      | false =>
        have HF := Lib.hid (show L = R by rw [← HR.out, HZ.out rfl])
        go_wp2
        go_end0
        exact ⟨rfl, by rw [← HF.out]; exact H2.out, HO2.out⟩
      | true =>
        have CS := Lib.hid (purSwap_any w0 w2 g rb n cap L H2.out p j (by omega) hj)
        have HF := Lib.hid ((HS.out rfl).symm.trans HR.out)
        go_wp2_with fail
        refine CS.out.mono ?_
        rintro e w3 ⟨rfl, hp3, ho3⟩
        have H3 := Lib.hid hp3
        have HO3 := Lib.hid (HO2.out.trans ho3 fun _ _ e => e)
        clear hp3 ho3 CS
        go_wp2
        go_roundw
        case rel => exact ⟨p, f, _, by omega, by omega, rfl, H3.out, HF.out, HO3.out⟩
        case measure => simp [intOf]; omega
theorem downL_end (f : Nat) (L : List Itm) (i m : Nat) (h : m ≤ 2 * i + 1) : downL lexLe f L i m = L := by
  cases f with
  | zero => rfl
  | succ f => unfold downL; rw [if_pos h]
theorem downL_stop (f : Nat) (L : List Itm) (i m : Nat) (h : ¬ m ≤ 2 * i + 1) (h2 : lessB lexLe (L.getD (childL lexLe L i m) default) (L.getD i default) = false) : downL lexLe (f + 1) L i m = L := by
  unfold downL; rw [if_neg h, if_pos h2]
theorem downL_step (f : Nat) (L : List Itm) (i m : Nat) (h : ¬ m ≤ 2 * i + 1) (h2 : lessB lexLe (L.getD (childL lexLe L i m) default) (L.getD i default) = true) : downL lexLe (f + 1) L i m = downL lexLe f (swapL L i (childL lexLe L i m)) (childL lexLe L i m) m := by
  conv => lhs; unfold downL
  rw [if_neg h, if_neg (by rw [h2]; simp)]

set_option maxHeartbeats 8000000 in
theorem heapDown_any (w0 w : World) (g rb n cap : Nat) (L : List Itm) (h : PurW w0 w g (some ⟨rb, 0, none⟩) n cap L) (i m f : Nat) (hi : i < n) (hm : m ≤ n) (hf : m ≤ i + f) (hn : n ≤ 1000000) :
    Calls Try.prog 29 #[.iface 49 (.pointer (some ⟨g, 0, none⟩)), .int .i64 (i : Int), .int .i64 (m : Int)] w fun e w' => (∃ b, e = .returned (.bool b)) ∧ PurW w0 w' g (some ⟨rb, 0, none⟩) n cap (downL lexLe f L i m) ∧ Only (fun q => q = rb) w w' := by
  have ml := fun k u => m_less k ⟨g, 0, none⟩ u
  have ms := fun k u => m_swap k ⟨g, 0, none⟩ u
  have H := Lib.hid h
  obtain ⟨R, hR⟩ : ∃ R, R = downL lexLe f L i m := ⟨_, rfl⟩
  have HR := Lib.hid hR.symm
  rw [← hR]
  clear h hR
  go_enter Try.func29, Try.ntmps29
  go_wp2
  go_loopw [7] (fun si wx => ∃ (i f : Nat) (L : List Itm), i < n ∧ m ≤ i + f ∧ si = .int .i64 (i : Int) ∧ PurW w0 wx g (some ⟨rb, 0, none⟩) n cap L ∧ downL lexLe f L i m = R ∧ Only (fun q => q = rb) w wx) (fun si _ => m - (intOf si).toNat)
  case atStart => exact ⟨i, f, L, hi, hf, rfl, H.out, HR.out, Only.refl _ _⟩
  case round =>
    clear H HR hi hf f L
    obtain ⟨i2, f, L, hi, hf, rfl, h, hr, ho⟩ := hrel
    rename World => wx
    have H := Lib.hid h
    have HR := Lib.hid hr
    have HO := Lib.hid ho
    clear h hr ho
    by_cases hend : m ≤ 2 * i2 + 1
    · have HF := Lib.hid (show L = R by rw [← HR.out, downL_end f L i2 m hend])
      have hei : (m : Int) ≤ 2 * (i2 : Int) + 1 := by omega
      go_wp2
      go_ret
      exact ⟨⟨_, rfl⟩, by rw [← HF.out]; exact H.out, HO.out⟩
    · obtain ⟨f, rfl⟩ : ∃ f', f = f' + 1 := ⟨f - 1, by omega⟩
      obtain ⟨c1, hc1⟩ : ∃ c1, c1 = 2 * i2 + 1 := ⟨_, rfl⟩
      obtain ⟨c2, hc2⟩ : ∃ c2, c2 = 2 * i2 + 2 := ⟨_, rfl⟩
      have hei : ¬ (m : Int) ≤ (c1 : Int) := by omega
      have e1 : 2 * (i2 : Int) + 1 = (c1 : Int) := by omega
      have e2 : IntKind.i64.wrap ((c1 : Int) + 1) = (c2 : Int) := by rw [IntWalk.i64_in _ (by omega)]; omega
      have hc0 : ¬ (c1 : Int) < 0 := by omega
      have hc1m : c1 < m := by omega
      have hc12 : c2 = c1 + 1 := by omega
      have HCH0 := Lib.hid (show childL lexLe L i2 m = if c2 < m ∧ lessB lexLe (L.getD c2 default) (L.getD c1 default) = true then c2 else c1 by rw [hc1, hc2]; rfl)
      have HNE := Lib.hid hend
      have HC1 := Lib.hid hc1
      have HC2 := Lib.hid hc12
      have hi1 : i2 < c1 := by omega
      clear hend hc1 hc2 hc12
      go_upto_region 6 with (fail)
      go_cut [33] (fun s33 wy => Below wx.heap.size wx wy ∧ ∃ bb, s33 = .bool bb ∧ (bb = true → c2 < m) ∧ childL lexLe L i2 m = bif bb then c2 else c1)
      case first =>
        by_cases h2 : c2 < m
        · have h2i : (c2 : Int) < m := by omega
          have CL := Lib.hid (purLess_any w0 wx g (some ⟨rb, 0, none⟩) n cap L H.out c2 c1 (by omega) (by omega))
          have HQ := Lib.hid (show childL lexLe L i2 m = bif lessB lexLe (L.getD c2 default) (L.getD c1 default) then c2 else c1 by
            rw [HCH0.out]
            cases lessB lexLe (L.getD c2 default) (L.getD c1 default) <;> simp [h2])
          generalize hl : lessB lexLe (L.getD c2 default) (L.getD c1 default) = bb at *
          clear hl
          have H2 := Lib.hid h2
          clear h2
          go_wp2_with fail
          refine CL.out.mono ?_
          rintro e w2 ⟨rfl, hb2⟩
          go_wp2
          go_meet
          exact ⟨hb2, bb, rfl, fun _ => H2.out, HQ.out⟩
        · have h2i : ¬ (c2 : Int) < m := by omega
          have HQ := Lib.hid (show childL lexLe L i2 m = bif false then c2 else c1 by rw [HCH0.out, if_neg (by intro h; exact h2 h.1)]; rfl)
          clear h2
          go_wp2
          go_meet
          exact ⟨Below.refl _ _, false, rfl, fun h => (by cases h), HQ.out⟩
      case rest =>
      obtain ⟨hwy, bb0, rfl, hb0, hch⟩ := hcut
      rename World => wy
      have HY := Lib.hid (H.out.below hwy)
      have HOY := Lib.hid (HO.out.trans (Only.of_below hwy) fun _ _ e => e)
      have HCH := Lib.hid hch
      clear hwy hch H HO HCH0
      cases bb0 with
      | true =>
        have hcc := hb0 rfl
        have hic : i2 < c2 := by have := HC2.out; omega
        have hm2 := HNE.out
        clear hb0
        have HCM := Lib.hid (show c1 < c2 by have := HC2.out; omega)
        have CL2 := Lib.hid (purLess_any w0 wy g (some ⟨rb, 0, none⟩) n cap L HY.out c2 i2 (by omega) (by omega))
        have HCL := Lib.hid (show childL lexLe L i2 m = c2 from by rw [HCH.out]; rfl)
        have HS := Lib.hid (fun hb => downL_stop f L i2 m HNE.out (by rw [HCL.out]; exact hb))
        have HT := Lib.hid (fun hb => (downL_step f L i2 m HNE.out (by rw [HCL.out]; exact hb)).trans (by rw [HCL.out]))
        clear HCH
        generalize hl : lessB lexLe (L.getD c2 default) (L.getD i2 default) = bb at *
        clear hl
        go_wp2_with fail
        refine CL2.out.mono ?_
        rintro e w2 ⟨rfl, hb2⟩
        have H2 := Lib.hid (HY.out.below hb2)
        have HO2 := Lib.hid (HOY.out.trans (Only.of_below hb2) fun _ _ e => e)
        clear hb2 CL2
        cases bb with
        | false =>
          have HF := Lib.hid (show L = R by rw [← HR.out, HS.out rfl])
          go_wp2
          go_ret
          exact ⟨⟨_, rfl⟩, by rw [← HF.out]; exact H2.out, HO2.out⟩
        | true =>
          have CS := Lib.hid (purSwap_any w0 w2 g rb n cap L H2.out i2 c2 (by omega) (by omega))
          have HF := Lib.hid ((HT.out rfl).symm.trans HR.out)
          go_wp2_with fail
          refine CS.out.mono ?_
          rintro e w3 ⟨rfl, hp3, ho3⟩
          have H3 := Lib.hid hp3
          have HO3 := Lib.hid (HO2.out.trans ho3 fun _ _ e => e)
          clear hp3 ho3 CS
          go_wp2
          go_roundw
          case rel => exact ⟨c2, f, _, by omega, by omega, rfl, H3.out, HF.out, HO3.out⟩
          case measure => simp [intOf]; omega
      | false =>
        clear hb0
        have CL2 := Lib.hid (purLess_any w0 wy g (some ⟨rb, 0, none⟩) n cap L HY.out c1 i2 (by omega) (by omega))
        have HCL := Lib.hid (show childL lexLe L i2 m = c1 from by rw [HCH.out]; rfl)
        have HS := Lib.hid (fun hb => downL_stop f L i2 m HNE.out (by rw [HCL.out]; exact hb))
        have HT := Lib.hid (fun hb => (downL_step f L i2 m HNE.out (by rw [HCL.out]; exact hb)).trans (by rw [HCL.out]))
        clear HCH
        generalize hl : lessB lexLe (L.getD c1 default) (L.getD i2 default) = bb at *
        clear hl
        go_wp2_with fail
        refine CL2.out.mono ?_
        rintro e w2 ⟨rfl, hb2⟩
        have H2 := Lib.hid (HY.out.below hb2)
        have HO2 := Lib.hid (HOY.out.trans (Only.of_below hb2) fun _ _ e => e)
        clear hb2 CL2
        cases bb with
        | false =>
          have HF := Lib.hid (show L = R by rw [← HR.out, HS.out rfl])
          go_wp2
          go_ret
          exact ⟨⟨_, rfl⟩, by rw [← HF.out]; exact H2.out, HO2.out⟩
        | true =>
          have CS := Lib.hid (purSwap_any w0 w2 g rb n cap L H2.out i2 c1 (by omega) (by omega))
          have HF := Lib.hid ((HT.out rfl).symm.trans HR.out)
          go_wp2_with fail
          refine CS.out.mono ?_
          rintro e w3 ⟨rfl, hp3, ho3⟩
          have H3 := Lib.hid hp3
          have HO3 := Lib.hid (HO2.out.trans ho3 fun _ _ e => e)
          clear hp3 ho3 CS
          go_wp2
          go_roundw
          case rel => exact ⟨c1, f, _, by omega, by omega, rfl, H3.out, HF.out, HO3.out⟩
          case measure => simp [intOf]; omega
end Go.Proofs.Ytklfoafbgniogaa
