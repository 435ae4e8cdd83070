/-
  JournalPlays: whatever is done with a disk of any size, each answer, and all of the disk, is the document's. For every input.
-/
import Derived.Test.YtinfgfgmijjhjaaAwake04
import Derived.Test.YtinfgfgmijjhjaaJnSame
import Derived.Test.YtinfgfgmijjhjaaJnPlay
import Derived.Deep.DeepCutAuto
import Derived.Deep.CutBlock
namespace Go.Proofs.Ytinfgfgmijjhjaa.journalPlays
open Go.Proofs.Ytinfgfgmijjhjaa Go.ChangeShapes Go.WideShapes Go.ChangeAt Go.RowKit Go.Deep
open Go.ChangeMaps (open_string shut_string)
set_option linter.unusedVariables false
set_option linter.unusedSimpArgs false

set_option maxHeartbeats 16000000 in
set_option maxRecDepth 100000 in
theorem walk (n : Int) (a : Option Addr) (len cap : Nat) (L : List ActJ) (w : World) (hn : (Lit.int .i64 n).wf = true) (hL : CameAt actJC 5 w a len cap L) (hg : ∀ x ∈ L, x.Good w) :
    Calls Try.prog 4 #[.int .i64 n, .slice a len cap] w fun e w' => e = .returned (.bool true) ∧ Below w.heap.size w w' := by
  have HL := Lib.hid hL
  have HG := Lib.hid hg
  have hm : len ≤ 9223372036854775807 := by have := hL.2.1; have := hL.2.2.1; unfold maxLen at *; omega
  have hn' : -9223372036854775808 ≤ n ∧ n ≤ 9223372036854775807 := by
    simpa [Lit.wf, IntKind.min, IntKind.max, IntKind.signed, IntKind.bits] using hn
  obtain ⟨hnl, hnh⟩ := hn'
  clear hL hg hn
  by_cases hb1 : n < 1
  · have hb2 : ¬ (100 < n) := by omega
    have HB := Lib.hid hb1
    go_enter Try.func4, Try.ntmps4
    go_wp2_with fail
    refine (new_no n _ (.inl HB.out)).mono ?_
    rintro e w1 ⟨rfl, rfl⟩
    go_wp2_with fail
    refine (awake04 _).mono ?_
    rintro e w11 ⟨rfl, hb11⟩
    go_wp2
    go_ret
    exact ⟨rfl, hb11⟩
  obtain ⟨m, rfl⟩ := Int.eq_ofNat_of_zero_le (show 0 ≤ n by omega)
  have hm1 : 1 ≤ m := by omega
  clear hb1 hnl
  go_enter Try.func4, Try.ntmps4
  go_upto_if 18 with (fail)
  go_cut [0] (fun s0 wx => ∃ q : Nat, 1 ≤ q ∧ q ≤ 100 ∧ s0 = .int .i64 q ∧ w = wx)
  case first =>
    by_cases h100 : 100 < m
    · have h100i : (100 : Int) < (m : Int) := by omega
      go_wp2
      go_meet
      exact ⟨100, by omega, by omega, rfl, rfl⟩
    · have h100i : (m : Int) ≤ 100 := by omega
      go_wp2
      go_meet
      exact ⟨m, by omega, by omega, rfl, rfl⟩
  case rest =>
   obtain ⟨q, hq1, hq2, rfl, rfl⟩ := hcut
   clear hm1 hnh
   go_wp2_with fail
   refine (new_yes q _ hq1 (by omega)).mono ?_
   rintro e w1 ⟨g, S1, rfl, hd1, hb1, hn1⟩
   have R1 := Lib.hid (Run.mk hd1 hb1 hn1)
   clear hd1 hb1 hn1
   go_wp2_with fail
   refine (rnew_any q _ hq1 (by omega)).mono ?_
   rintro e w2 ⟨r, T1, rfl, hr, hb, hn⟩
   have I2 := Lib.hid (show Two _ w2 S1 T1 g r (Dk.new q) (Dk.new q) from ⟨R1.out.quiet hb, hr, fun k hk => Nat.le_trans R1.out.below.size (hn k hk), fun k hS hT => by have := R1.out.disk.lt k hS; have := hn k hT; omega⟩)
   have F2 := Lib.hid (show Fit q (0 * 100) (Dk.new q) from ⟨List.length_replicate, Nat.le_refl _⟩)
   clear hr hb hn R1
   go_wp2
   go_loopw [8] (fun i wr => ∃ (k : Nat) (S T : Nat → Prop) (D : Dk), k ≤ len ∧ k ≤ 14 ∧ i = .int .i64 k ∧ Two w wr S T g r D D ∧ Fit q (k * 100) D) (fun i _ => 14 - (intOf i).toNat)
   case atStart => exact ⟨0, S1, T1, Dk.new q, Nat.zero_le _, by omega, rfl, I2.out, F2.out⟩
   case round =>
    obtain ⟨k, S, T, D, hk, hk14, rfl, hinv, hfit⟩ := hrel
    have HI := Lib.hid hinv
    have HF := Lib.hid hfit
    clear hinv hfit I2 F2
    by_cases hgo : k < len ∧ k < 14
    · obtain ⟨hlt, h14⟩ := hgo
      have hL := HL.out.below (by omega) HI.out.run.below
      obtain ⟨b, off, rfl, hbl, hcell⟩ := hL.at (by omega) (by omega)
      obtain ⟨x, hx⟩ : ∃ x, L[k]? = some x := ⟨L[k]'(by have := hL.1; omega), List.getElem?_eq_getElem _⟩
      have GX := Lib.hid (HG.out x (List.mem_of_getElem? hx))
      have RX := Lib.hid (show wr.rangeAt b (off + k * 5) (actJC x) from fun j v hj => by
        have h5 : j < 5 := by
          have := (List.getElem?_eq_some_iff.1 hj).1
          simpa [actJC] using this
        rw [Nat.add_assoc, hcell k j x hx h5]; exact hj)
      have hlti : (k : Int) < (len : Int) := by omega
      have h14i : (k : Int) < 14 := by omega
      clear hL hcell hx hbl
      go_upto_region 11 with (first
        | (refine wpList_load_mid rfl 40 _ rfl b (off + k * 5) rfl (actJC x) _ RX.out Try.underlying40 rfl (by kernel_rfl) ?_)
        | (refine wpList_store_row rfl _ _ _ rfl wr.heap.size (actJC x).toArray rfl rfl 40 _ (heap_alloc_new wr _) (by kernel_rfl) rfl (by simpa using actJC_one x) ?_
           generalize hwB : World.setRow _ wr.heap.size (actJC x).toArray = wB
           have hsc : SceneJ w wB S T g r wr.heap.size D D x := by
             rw [← hwB]
             exact HI.out.sceneJ rfl (below_setRow ((Below.refl _ _).alloc (Nat.le_refl _) _) (Nat.le_refl _) _) (heap_setRow_same _ _ _ _ _ (heap_alloc_new wr _))
           obtain ⟨c0, c1, c2, c3, c4⟩ := hsc.cells
           have SC := Lib.hid hsc
           clear hsc hwB))
      have CFW := Lib.hid (jfew_any x.la x.ln x.lc x.lm wB (GX.out.puts.below SC.out.run.below))
      go_wp2_with fail
      refine (CFW.out).mono ?_
      rintro e wF ⟨a1, n1, c1', M1, rfl, hp1, hm1, hb1⟩
      have SF := Lib.hid (SC.out.quiet hb1)
      have PF := Lib.hid hp1
      have HM1 := Lib.hid hm1
      have HUS := Lib.hid (show ∀ j, (wB.heap.size ≤ j ∧ j < wF.heap.size) → ¬ S j from fun j hj hS => by have := SC.out.run.disk.lt j hS; omega)
      have HUT := Lib.hid (show ∀ j, (wB.heap.size ≤ j ∧ j < wF.heap.size) → ¬ T j from fun j hj hT => by have := SC.out.ref.lt j hT; omega)
      clear hp1 hm1 hb1 SC CFW RX c0 c1 c2 c3 c4
      generalize fewL (x.lm.map PutM.pt) = A at *
      obtain ⟨c0, c1, c2, c3, c4⟩ := SF.out.cells
      by_cases h0 : x.do_ = 0
      · have e0 : (x.do_ == 0) = true := by simpa using h0
        clear h0
        cases hm : mayB A (q : Int) with
        | true =>
          have h41 : 41 < q := by
            have hmp := (may_iff _ _).1 hm
            cases A with
            | nil => have := hmp.one; simp at this
            | cons p ps => have := hmp.at p (by simp); omega
          have h41i : (41 : Int) < (q : Int) := by omega
          have HM := Lib.hid hm
          clear hm
          as_aux_lemma =>
            have CM := Lib.hid (rmay_any _ a1 n1 c1' M1 q wF PF.out)
            rw [HM1.out, HM.out] at CM
            have HLQ := Lib.hid HF.out.1
            go_wp2_with fail
            refine (CM.out).mono ?_
            rintro e w3 ⟨rfl, hb3⟩
            have Z3 := Lib.hid (SF.out.quiet hb3)
            have P3 := Lib.hid (PF.out.below hb3)
            clear hb3 CM SF PF c0 c1 c2 c3 c4
            have CR := Lib.hid (rcommit_any r D T _ a1 n1 c1' M1 q w3 Z3.out.ref (fun j hj hT => HUT.out j hj hT) P3.out (by rw [HM1.out]; exact HM.out) (by omega) (by have := HF.out.2; omega))
            rw [HM1.out] at CR
            have CCE := Lib.hid (show commitOf D A = cmtOf A D by unfold commitOf; rw [HLQ.out, if_pos HM.out, cmtOf_plays])
            have HFIT := Lib.hid (show Fit q ((k + 1) * 100) (cmtOf A D).2 by rw [← CCE.out]; exact (HF.out.commit A).le (by omega))
            go_wp2_with fail
            refine (CR.out).mono ?_
            rintro e w4 ⟨rfl, T4, hd4, ho4, hs4⟩
            have Z4 := Lib.hid (Z3.out.refd hd4 ho4 hs4)
            have P4 := Lib.hid (P3.out.only ho4 (fun j hj hT => HUT.out j hj hT))
            clear hd4 ho4 hs4 CR Z3 P3
            have CC := Lib.hid (commit_any g D S _ a1 n1 c1' M1 w4 Z4.out.run.disk (fun j hj hS => HUS.out j hj hS) P4.out (by have := HF.out.2; omega))
            rw [HM1.out, CCE.out] at CC
            clear CCE
            generalize cmtOf A D = z at *
            obtain ⟨z1, z2⟩ := z
            dsimp only at CC HFIT
            go_wp2_with fail
            refine (CC.out).mono ?_
            rintro e w5 ⟨rfl, S5, hd5, ho5, hs5⟩
            have FIN := Lib.hid (Z4.out.disk hd5 ho5 hs5)
            clear hd5 ho5 hs5 CC Z4 P4
            have CSM := Lib.hid (same_yes g r (z2) S5 T4 _ FIN.out.run.disk FIN.out.ref)
            go_wp2_with fail
            refine (CSM.out).mono ?_
            rintro e wz ⟨rfl, hbz⟩
            have FZ := Lib.hid (FIN.out.two.quiet hbz)
            clear hbz FIN CSM
            go_wp2
            go_roundw
            case rel => exact ⟨k + 1, S5, T4, z2, by omega, by omega, by go_num, FZ.out, HFIT.out⟩
            case measure => simp [intOf]; omega
        | false =>
          have HM := Lib.hid hm
          clear hm
          by_cases h41 : 41 < q
          · have h41i : (41 : Int) < (q : Int) := by omega
            as_aux_lemma =>
              have CM := Lib.hid (rmay_any _ a1 n1 c1' M1 q wF PF.out)
              rw [HM1.out, HM.out] at CM
              go_wp2_with fail
              refine (CM.out).mono ?_
              rintro e w3 ⟨rfl, hb3⟩
              have Z3 := Lib.hid (SF.out.quiet hb3)
              have P3 := Lib.hid (PF.out.below hb3)
              clear hb3 CM SF PF c0 c1 c2 c3 c4
              have HLQ := Lib.hid HF.out.1
              have CCE := Lib.hid (show commitOf D A = (1, D) by unfold commitOf; rw [HLQ.out, if_neg (by rw [HM.out]; simp)])
              have HFIT := Lib.hid (HF.out.le (show k * 100 ≤ (k + 1) * 100 by omega))
              have CC := Lib.hid (commit_any g D S _ a1 n1 c1' M1 _ Z3.out.run.disk (fun j hj hS => HUS.out j hj hS) P3.out (by have := HF.out.2; omega))
              rw [HM1.out, CCE.out] at CC
              dsimp only at CC
              go_wp2_with fail
              refine (CC.out).mono ?_
              rintro e w5 ⟨rfl, S5, hd5, ho5, hs5⟩
              have FIN := Lib.hid (Z3.out.disk hd5 ho5 hs5)
              clear hd5 ho5 hs5 CC Z3 P3
              have CSM := Lib.hid (same_yes g r (D) S5 T _ FIN.out.run.disk FIN.out.ref)
              go_wp2_with fail
              refine (CSM.out).mono ?_
              rintro e wz ⟨rfl, hbz⟩
              have FZ := Lib.hid (FIN.out.two.quiet hbz)
              clear hbz FIN CSM
              go_wp2
              go_roundw
              case rel => exact ⟨k + 1, S5, T, D, by omega, by omega, by go_num, FZ.out, HFIT.out⟩
              case measure => simp [intOf]; omega
          · have h41i : (q : Int) ≤ 41 := by omega
            as_aux_lemma =>
              have Z3 := SF
              have P3 := PF
              have HLQ := Lib.hid HF.out.1
              have CCE := Lib.hid (show commitOf D A = (1, D) by unfold commitOf; rw [HLQ.out, if_neg (by rw [HM.out]; simp)])
              have HFIT := Lib.hid (HF.out.le (show k * 100 ≤ (k + 1) * 100 by omega))
              have CC := Lib.hid (commit_any g D S _ a1 n1 c1' M1 _ Z3.out.run.disk (fun j hj hS => HUS.out j hj hS) P3.out (by have := HF.out.2; omega))
              rw [HM1.out, CCE.out] at CC
              dsimp only at CC
              go_wp2_with fail
              refine (CC.out).mono ?_
              rintro e w5 ⟨rfl, S5, hd5, ho5, hs5⟩
              have FIN := Lib.hid (Z3.out.disk hd5 ho5 hs5)
              clear hd5 ho5 hs5 CC Z3 P3
              have CSM := Lib.hid (same_yes g r (D) S5 T _ FIN.out.run.disk FIN.out.ref)
              go_wp2_with fail
              refine (CSM.out).mono ?_
              rintro e wz ⟨rfl, hbz⟩
              have FZ := Lib.hid (FIN.out.two.quiet hbz)
              clear hbz FIN CSM
              go_wp2
              go_roundw
              case rel => exact ⟨k + 1, S5, T, D, by omega, by omega, by go_num, FZ.out, HFIT.out⟩
              case measure => simp [intOf]; omega
      · have e0 : (x.do_ == 0) = false := by simpa using h0
        clear h0
        by_cases h1 : x.do_ = 1
        · have e1 : (x.do_ == 1) = true := by simpa using h1
          clear h1
          by_cases h41 : 41 < q
          · have h41i : (41 : Int) < (q : Int) := by omega
            as_aux_lemma =>
              have HFIT := Lib.hid (HF.out.recover.le (show k * 100 + 82 ≤ (k + 1) * 100 by omega))
              have CA := Lib.hid (recover_any g D S wF SF.out.run.disk (by have := HF.out.2; omega))
              have CB := Lib.hid (fun u (T' : Nat → Prop) (hr : RefAt u T' r D) => rrecover_any r D T' u hr (by have := HF.out.1; omega) (by have := HF.out.2; omega))
              unfold RecTo at CA
              unfold RRecTo at CB
              generalize recoverOf D = z at *
              obtain ⟨z0, z1, z2⟩ := z
              dsimp only at CA CB HFIT
              go_wp2_with fail
              refine (CA.out).mono ?_
              rintro e w3 ⟨rfl, S3, hd3, ho3, hs3⟩
              have Z3 := Lib.hid (SF.out.disk hd3 ho3 hs3)
              clear hd3 ho3 hs3 CA SF PF c0 c1 c2 c3 c4
              go_wp2_with fail
              refine (CB.out _ _ Z3.out.ref).mono ?_
              rintro e w4 ⟨rfl, T4, hd4, ho4, hs4⟩
              have FIN := Lib.hid (Z3.out.refd hd4 ho4 hs4)
              clear hd4 ho4 hs4 CB Z3
              have CSM := Lib.hid (same_yes g r (z2) S3 T4 _ FIN.out.run.disk FIN.out.ref)
              go_wp2_with fail
              refine (CSM.out).mono ?_
              rintro e wz ⟨rfl, hbz⟩
              have FZ := Lib.hid (FIN.out.two.quiet hbz)
              clear hbz FIN CSM
              go_wp2
              go_roundw
              case rel => exact ⟨k + 1, S3, T4, z2, by omega, by omega, by go_num, FZ.out, HFIT.out⟩
              case measure => simp [intOf]; omega
          · have h41i : (q : Int) ≤ 41 := by omega
            as_aux_lemma =>
              have HFIT := Lib.hid (HF.out.le (show k * 100 ≤ (k + 1) * 100 by omega))
              have CA := Lib.hid (recover_any g D S wF SF.out.run.disk (by have := HF.out.2; omega))
              unfold RecTo at CA
              rw [recoverOf_small (by rw [HF.out.1]; exact h41)] at CA
              dsimp only at CA
              go_wp2_with fail
              refine (CA.out).mono ?_
              rintro e w3 ⟨rfl, S3, hd3, ho3, hs3⟩
              have FIN := Lib.hid (SF.out.disk hd3 ho3 hs3)
              clear hd3 ho3 hs3 CA SF PF c0 c1 c2 c3 c4
              have CSM := Lib.hid (same_yes g r (D) S3 T _ FIN.out.run.disk FIN.out.ref)
              go_wp2_with fail
              refine (CSM.out).mono ?_
              rintro e wz ⟨rfl, hbz⟩
              have FZ := Lib.hid (FIN.out.two.quiet hbz)
              clear hbz FIN CSM
              go_wp2
              go_roundw
              case rel => exact ⟨k + 1, S3, T, D, by omega, by omega, by go_num, FZ.out, HFIT.out⟩
              case measure => simp [intOf]; omega
        · have e1 : (x.do_ == 1) = false := by simpa using h1
          clear h1
          by_cases h2 : x.do_ = 2
          · have e2 : (x.do_ == 2) = true := by simpa using h2
            clear h2
            by_cases hi1 : x.i < -1
            · as_aux_lemma =>
                have HFIT := Lib.hid (HF.out.le (show k * 100 ≤ (k + 1) * 100 by omega))
                have HI1 := Lib.hid hi1
                clear hi1
                go_wp2_with fail
                refine (budget_no g x.i _ HI1.out).mono ?_
                rintro e w3 ⟨rfl, rfl⟩
                have FIN := SF
                clear SF PF c0 c1 c2 c3 c4
                have CSM := Lib.hid (same_yes g r (D) S T _ FIN.out.run.disk FIN.out.ref)
                go_wp2_with fail
                refine (CSM.out).mono ?_
                rintro e wz ⟨rfl, hbz⟩
                have FZ := Lib.hid (FIN.out.two.quiet hbz)
                clear hbz FIN CSM
                go_wp2
                go_roundw
                case rel => exact ⟨k + 1, S, T, D, by omega, by omega, by go_num, FZ.out, HFIT.out⟩
                case measure => simp [intOf]; omega
            · as_aux_lemma =>
                have HFIT := Lib.hid (show Fit q ((k + 1) * 100) ({ D with budget := x.i } : Dk) from ⟨HF.out.1, Nat.le_trans HF.out.2 (by omega)⟩)
                have HI1 := Lib.hid hi1
                clear hi1
                go_wp2_with fail
                refine (budget_yes g x.i D S _ SF.out.run.disk (by have := HI1.out; omega) GX.out.ihi).mono ?_
                rintro e w3 ⟨rfl, S3, hd3, ho3, hs3⟩
                have Z3 := Lib.hid (SF.out.disk hd3 ho3 hs3)
                clear hd3 ho3 hs3
                clear c0 c1 c2 c3 c4
                obtain ⟨c0, c1, c2, c3, c4⟩ := Z3.out.cells
                obtain ⟨vs, vw, hri⟩ := Z3.out.ref
                obtain ⟨_, _, d2, _, df⟩ := ref_cells hri.blk
                have df2 := df 2
                have HRI := Lib.hid hri
                clear hri df SF PF
                have FIN0 := Lib.hid (Z3.out.refd ⟨vs, vw, HRI.out.setBudget x.i (by have := HI1.out; omega) GX.out.ihi⟩ (Only.setCell _ _ _ HRI.out.self) (fun j hj => .inl hj))
                go_upto_region 45 with fail
                have FIN := FIN0
                clear FIN0 d2 df2 HRI Z3 c0 c1 c2 c3 c4
                have CSM := Lib.hid (same_yes g r ({ D with budget := x.i }) S3 T _ FIN.out.run.disk FIN.out.ref)
                go_wp2_with fail
                refine (CSM.out).mono ?_
                rintro e wz ⟨rfl, hbz⟩
                have FZ := Lib.hid (FIN.out.two.quiet hbz)
                clear hbz FIN CSM
                go_wp2
                go_roundw
                case rel => exact ⟨k + 1, S3, T, { D with budget := x.i }, by omega, by omega, by go_num, FZ.out, HFIT.out⟩
                case measure => simp [intOf]; omega
          · have e2 : (x.do_ == 2) = false := by simpa using h2
            clear h2
            by_cases h3 : x.do_ = 3
            · have e3 : (x.do_ == 3) = true := by simpa using h3
              clear h3
              as_aux_lemma =>
                have HFIT := Lib.hid (show Fit q ((k + 1) * 100) (D.cut x.keep) from ⟨(Dk.laid_length _ D.waits D.secs).trans HF.out.1, Nat.zero_le _⟩)
                obtain ⟨kb, ks, _⟩ := SF.out.keep GX.out
                go_wp2_with fail
                refine (cut_any g D S x.ka x.kn x.kc x.keep wF SF.out.run.disk kb ks).mono ?_
                rintro e w3 ⟨rfl, S3, hd3, ho3, hs3⟩
                have Z3 := Lib.hid (SF.out.disk hd3 ho3 hs3)
                clear hd3 ho3 hs3 kb ks SF PF
                clear c0 c1 c2 c3 c4
                obtain ⟨c0, c1, c2, c3, c4⟩ := Z3.out.cells
                obtain ⟨kb, _, kt⟩ := Z3.out.keep GX.out
                go_wp2_with fail
                refine (rcut_any r D T x.ka x.kn x.kc x.keep w3 Z3.out.ref kb kt).mono ?_
                rintro e w4 ⟨rfl, T4, hd4, ho4, hs4⟩
                have FIN := Lib.hid (Z3.out.refd hd4 ho4 hs4)
                clear hd4 ho4 hs4 kb kt Z3 c0 c1 c2 c3 c4
                have CSM := Lib.hid (same_yes g r (D.cut x.keep) S3 T4 _ FIN.out.run.disk FIN.out.ref)
                go_wp2_with fail
                refine (CSM.out).mono ?_
                rintro e wz ⟨rfl, hbz⟩
                have FZ := Lib.hid (FIN.out.two.quiet hbz)
                clear hbz FIN CSM
                go_wp2
                go_roundw
                case rel => exact ⟨k + 1, S3, T4, D.cut x.keep, by omega, by omega, by go_num, FZ.out, HFIT.out⟩
                case measure => simp [intOf]; omega
            · have e3 : (x.do_ == 3) = false := by simpa using h3
              clear h3
              by_cases h4 : x.do_ = 4
              · have e4 : (x.do_ == 4) = true := by simpa using h4
                clear h4
                as_aux_lemma =>
                  have HFIT := Lib.hid (show Fit q ((k + 1) * 100) D.on from ⟨(Dk.laid_length (fun _ => false) D.waits D.secs).trans HF.out.1, Nat.zero_le _⟩)
                  go_wp2_with fail
                  refine (on_any g D S wF SF.out.run.disk).mono ?_
                  rintro e w3 ⟨rfl, S3, hd3, ho3, hs3⟩
                  have Z3 := Lib.hid (SF.out.disk hd3 ho3 hs3)
                  clear hd3 ho3 hs3 SF PF c0 c1 c2 c3 c4
                  go_wp2_with fail
                  refine (ron_any r D T w3 Z3.out.ref).mono ?_
                  rintro e w4 ⟨rfl, T4, hd4, ho4, hs4⟩
                  have FIN := Lib.hid (Z3.out.refd hd4 ho4 hs4)
                  clear hd4 ho4 hs4 Z3
                  have CSM := Lib.hid (same_yes g r (D.on) S3 T4 _ FIN.out.run.disk FIN.out.ref)
                  go_wp2_with fail
                  refine (CSM.out).mono ?_
                  rintro e wz ⟨rfl, hbz⟩
                  have FZ := Lib.hid (FIN.out.two.quiet hbz)
                  clear hbz FIN CSM
                  go_wp2
                  go_roundw
                  case rel => exact ⟨k + 1, S3, T4, D.on, by omega, by omega, by go_num, FZ.out, HFIT.out⟩
                  case measure => simp [intOf]; omega
              · have e4 : (x.do_ == 4) = false := by simpa using h4
                clear h4
                by_cases h5 : x.do_ = 5
                · have e5 : (x.do_ == 5) = true := by simpa using h5
                  clear h5
                  by_cases h41 : 41 < q
                  · have h41i : (41 : Int) < (q : Int) := by omega
                    as_aux_lemma =>
                      have HFM := Lib.hid (show formatOf D = fmtOf D by unfold formatOf; rw [if_pos (by rw [HF.out.1]; exact h41), fmtOf_plays])
                      have HFIT := Lib.hid (show Fit q ((k + 1) * 100) (fmtOf D).2 by rw [← HFM.out]; exact HF.out.format.le (by omega))
                      have CA := Lib.hid (fun u (S' : Nat → Prop) (hd : DiskAt u S' g D) => format_any g D S' u hd (by have := HF.out.2; omega))
                      have CB := Lib.hid (rformat_any r D T wF SF.out.ref (by have := HF.out.2; omega))
                      rw [HFM.out] at CA
                      clear HFM
                      generalize fmtOf D = z at *
                      obtain ⟨z1, z2⟩ := z
                      dsimp only at CA CB HFIT
                      go_wp2_with fail
                      refine (CB.out).mono ?_
                      rintro e w3 ⟨rfl, T3, hd3, ho3, hs3⟩
                      have Z3 := Lib.hid (SF.out.refd hd3 ho3 hs3)
                      clear hd3 ho3 hs3 CB SF PF c0 c1 c2 c3 c4
                      go_wp2_with fail
                      refine (CA.out _ _ Z3.out.run.disk).mono ?_
                      rintro e w4 ⟨rfl, S4, hd4, ho4, hs4⟩
                      have FIN := Lib.hid (Z3.out.disk hd4 ho4 hs4)
                      clear hd4 ho4 hs4 CA Z3
                      have CSM := Lib.hid (same_yes g r (z2) S4 T3 _ FIN.out.run.disk FIN.out.ref)
                      go_wp2_with fail
                      refine (CSM.out).mono ?_
                      rintro e wz ⟨rfl, hbz⟩
                      have FZ := Lib.hid (FIN.out.two.quiet hbz)
                      clear hbz FIN CSM
                      go_wp2
                      go_roundw
                      case rel => exact ⟨k + 1, S4, T3, z2, by omega, by omega, by go_num, FZ.out, HFIT.out⟩
                      case measure => simp [intOf]; omega
                  · have h41i : (q : Int) ≤ 41 := by omega
                    as_aux_lemma =>
                      have HFM := Lib.hid (show formatOf D = (1, D) by unfold formatOf; rw [if_neg (by rw [HF.out.1]; exact h41)])
                      have HFIT := Lib.hid (HF.out.le (show k * 100 ≤ (k + 1) * 100 by omega))
                      have CA := Lib.hid (format_any g D S wF SF.out.run.disk (by have := HF.out.2; omega))
                      rw [HFM.out] at CA
                      dsimp only at CA
                      go_wp2_with fail
                      refine (CA.out).mono ?_
                      rintro e w4 ⟨rfl, S4, hd4, ho4, hs4⟩
                      have FIN := Lib.hid (SF.out.disk hd4 ho4 hs4)
                      clear hd4 ho4 hs4 CA SF PF HFM c0 c1 c2 c3 c4
                      have CSM := Lib.hid (same_yes g r (D) S4 T _ FIN.out.run.disk FIN.out.ref)
                      go_wp2_with fail
                      refine (CSM.out).mono ?_
                      rintro e wz ⟨rfl, hbz⟩
                      have FZ := Lib.hid (FIN.out.two.quiet hbz)
                      clear hbz FIN CSM
                      go_wp2
                      go_roundw
                      case rel => exact ⟨k + 1, S4, T, D, by omega, by omega, by go_num, FZ.out, HFIT.out⟩
                      case measure => simp [intOf]; omega
                · have e5 : (x.do_ == 5) = false := by simpa using h5
                  clear h5
                  as_aux_lemma =>
                    have HFIT := Lib.hid (show Fit q ((k + 1) * 100) (flOf (wrOf D x.i 128 (sec x.c)).2).2 from ((HF.out.wr x.i 128 (sec x.c)).fl).le (by omega))
                    have SD := Lib.hid (SF.out.quiet ((Below.refl wF.heap.size wF).drew))
                    have hS0 : wF.drew.cell? ⟨wr.heap.size, 1, none⟩ = some (.int .i64 x.i) ∧ wF.drew.cell? ⟨wr.heap.size, 2, none⟩ = some (.int .u8 x.c.toNat) := ⟨c1, c2⟩
                    clear PF SF
                    go_wp2_with fail
                    clear c0 c1 c2 c3 c4
                    refine region_head 7 [0, 1, 2, 3, 4, 5, 6] [5, 6] (fun u => u.cell? ⟨wr.heap.size, 1, none⟩ = some (.int .i64 x.i) ∧ u.cell? ⟨wr.heap.size, 2, none⟩ = some (.int .u8 x.c.toNat)) (by kernel_rfl) (by kernel_rfl) hS0 ?_
                    clear hS0
                    simp only [pickO, List.append_eq, List.cons_append, List.nil_append, List.filterMap_cons, List.filterMap_nil, List.getElem?_cons_zero, List.getElem?_cons_succ, Option.map_some, List.drop_succ_cons, List.drop_zero]
                    iterate 5
                      refine seqH_readG _ rfl (by rfl) (by rintro u ⟨hu1, hu2⟩; go_simp; with_reducible rfl) ?_
                      try simp only [Act.put, List.setIfInBounds_toArray, List.set_cons_zero, List.set_cons_succ]
                    refine seqH_moveG rfl (by rfl) (fun K hK => ?_)
                    go_simp
                    refine (all_any x.c _).mono ?_
                    rintro e w3 ⟨a3, c3, rfl, hr3, hb3, hn3⟩
                    have Z3 := Lib.hid (SD.out.quiet hb3)
                    have K3 := Lib.hid (Kept.new (S := S) hr3 hn3 SD.out.run.disk.lt)
                    refine hK _ _ ⟨Z3.out.cells.2.1, Z3.out.cells.2.2.1⟩ ?_
                    clear hK K hr3 hb3 hn3 SD
                    dsimp only [id]
                    try simp only [Act.put, List.setIfInBounds_toArray, List.set_cons_zero, List.set_cons_succ]
                    refine seqH_moveG rfl (by rfl) (fun K hK => ?_)
                    go_simp
                    refine (write_all g x.i D S a3 128 c3 (sec x.c) w3 Z3.out.run.disk K3.out.at_ (by have := HF.out.2; omega) (fun p hp => (K3.out.off p hp).1)).mono ?_
                    rintro e w4 ⟨rfl, S4, hd4, ho4, hs4⟩
                    have Z4 := Lib.hid (Z3.out.disk hd4 ho4 hs4)
                    refine hK _ _ ⟨Z4.out.cells.2.1, Z4.out.cells.2.2.1⟩ ?_
                    clear hK K hd4 ho4 hs4 Z3 K3
                    try simp only [Act.put, List.setIfInBounds_toArray, List.set_cons_zero, List.set_cons_succ]
                    refine seqH_nil ?_
                    have S4d := Lib.hid (Z4.out.quiet ((Below.refl w4.heap.size w4).drew))
                    have hS1 : w4.drew.cell? ⟨wr.heap.size, 1, none⟩ = some (.int .i64 x.i) ∧ w4.drew.cell? ⟨wr.heap.size, 2, none⟩ = some (.int .u8 x.c.toNat) := ⟨S4d.out.cells.2.1, S4d.out.cells.2.2.1⟩
                    clear Z4
                    go_wp2_with fail
                    refine region_head 8 [0, 1, 2, 3, 4, 5, 6, 7] [5, 6, 7] (fun u => u.cell? ⟨wr.heap.size, 1, none⟩ = some (.int .i64 x.i) ∧ u.cell? ⟨wr.heap.size, 2, none⟩ = some (.int .u8 x.c.toNat)) (by kernel_rfl) (by kernel_rfl) hS1 ?_
                    clear hS1
                    simp only [pickO, List.append_eq, List.cons_append, List.nil_append, List.filterMap_cons, List.filterMap_nil, List.getElem?_cons_zero, List.getElem?_cons_succ, Option.map_some, List.drop_succ_cons, List.drop_zero]
                    iterate 5
                      refine seqH_readG _ rfl (by rfl) (by rintro u ⟨hu1, hu2⟩; go_simp; with_reducible rfl) ?_
                      try simp only [Act.put, List.setIfInBounds_toArray, List.set_cons_zero, List.set_cons_succ]
                    refine seqH_moveG rfl (by rfl) (fun K hK => ?_)
                    go_simp
                    refine (all_any x.c _).mono ?_
                    rintro e w5 ⟨a5, c5, rfl, hr5, hb5, hn5⟩
                    have Z5 := Lib.hid (S4d.out.quiet hb5)
                    have v5 := hr5.conv
                    refine hK _ _ ⟨Z5.out.cells.2.1, Z5.out.cells.2.2.1⟩ ?_
                    clear hK K hr5 hb5 hn5 S4d
                    dsimp only [id]
                    try simp only [Act.put, List.setIfInBounds_toArray, List.set_cons_zero, List.set_cons_succ]
                    refine seqH_moveG rfl (by rfl) (fun K hK => ?_)
                    go_simp
                    refine hK _ _ ⟨Z5.out.cells.2.1, Z5.out.cells.2.2.1⟩ ?_
                    clear hK K v5
                    try simp only [Act.put, List.setIfInBounds_toArray, List.set_cons_zero, List.set_cons_succ]
                    refine seqH_moveG rfl (by rfl) (fun K hK => ?_)
                    go_simp
                    refine (rwrite_all r x.i D T 128 (sec x.c) w5 Z5.out.ref (sec_length _) (by omega) (by have := HF.out.2; omega)).mono ?_
                    rintro e w6 ⟨rfl, T6, hd6, ho6, hs6⟩
                    have Z6 := Lib.hid (Z5.out.refd hd6 ho6 hs6)
                    refine hK _ _ ⟨Z6.out.cells.2.1, Z6.out.cells.2.2.1⟩ ?_
                    clear hK K hd6 ho6 hs6 Z5
                    try simp only [Act.put, List.setIfInBounds_toArray, List.set_cons_zero, List.set_cons_succ]
                    refine seqH_nil ?_
                    generalize (wrOf D x.i 128 (sec x.c)).2 = D6 at *
                    go_wp2_with fail
                    refine (flush_all g D6 S4 w6 Z6.out.run.disk).mono ?_
                    rintro e w7 ⟨rfl, S7, hd7, ho7, hs7⟩
                    have Z7 := Lib.hid (Z6.out.disk hd7 ho7 hs7)
                    clear hd7 ho7 hs7 Z6
                    go_wp2_with fail
                    refine (rflush_all r D6 T6 w7 Z7.out.ref).mono ?_
                    rintro e w8 ⟨rfl, T8, hd8, ho8, hs8⟩
                    have FIN := Lib.hid (Z7.out.refd hd8 ho8 hs8)
                    clear hd8 ho8 hs8 Z7
                    have CSM := Lib.hid (same_yes g r ((flOf D6).2) S7 T8 _ FIN.out.run.disk FIN.out.ref)
                    go_wp2_with fail
                    refine (CSM.out).mono ?_
                    rintro e wz ⟨rfl, hbz⟩
                    have FZ := Lib.hid (FIN.out.two.quiet hbz)
                    clear hbz FIN CSM
                    go_wp2
                    go_roundw
                    case rel => exact ⟨k + 1, S7, T8, (flOf D6).2, by omega, by omega, by go_num, FZ.out, HFIT.out⟩
                    case measure => simp [intOf]; omega
    · by_cases hlt : k < len
      · obtain rfl : k = 14 := by omega
        have hlti : (14 : Int) < (len : Int) := by omega
        clear hgo
        go_wp2_with fail
        refine (awake04 _).mono ?_
        rintro e w9 ⟨rfl, hb9⟩
        go_wp2
        go_ret
        exact ⟨rfl, HI.out.run.below.trans (hb9.mono HI.out.run.below.size)⟩
      · obtain rfl : k = len := by omega
        clear hgo
        go_wp2_with fail
        refine (awake04 _).mono ?_
        rintro e w9 ⟨rfl, hb9⟩
        go_wp2
        go_ret
        exact ⟨rfl, HI.out.run.below.trans (hb9.mono HI.out.run.below.size)⟩

theorem own : ownKnob Try.prog.godebug = none := by kernel_rfl
theorem laidOut : laidOutB Try.prog = true := by kernel_rfl

set_option maxRecDepth 100000 in
theorem lifted (os : Os) (started : os.Started) (H : Type) (enc : TypeId × Value → H) :
    ReturnsInHanded {} Try.checked os 4 .any (Rows.journalPlaysSpec.pre6 enc Try.prog Try.f4 Rows.journalPlaysRow.domain false) (Rows.journalPlaysSpec.post enc Try.prog Try.f4 false true false false) := by
  refine returnsInHanded_of_change (C := Try.checked) own started (by kernel_rfl) Try.func4
    (ChangeSpec.witness6 (enc := enc) (C := Try.checked) false ⟨#[], #[.int .i64 0, .slice none 0 0], []⟩ 8 (by kernel_rfl) (by kernel_rfl) (by kernel_rfl) (by kernel_rfl)) ?_
  intro W base args ds gs before hval0 hW hcnd _
  have hval : ∀ (j : Nat) t v, Try.f4.params[j]? = some t → args[j]? = some v → Value.okWide Try.prog W .any base t v := hval0
  have hW' := hW
  obtain ⟨p, q, hA0, hV, rfl, hfz, hnd⟩ := hW
  have hA : DataW.TrodAll enc Try.prog W 0 (fun _ => true) true Try.f4.params.toList args.toList ds p := hA0
  rw [Try.params4] at hA hval
  obtain ⟨v0, vs0, d0, ds0, p0, q0, hargs, rfl, rfl, h0, r0⟩ := trodAll_cons hA
  obtain ⟨v1, vs1, d1, ds1, p1, q1, rfl, rfl, rfl, h1, r1⟩ := trodAll_cons r0
  obtain ⟨rfl, rfl, rfl⟩ := trodAll_nil r1
  obtain rfl : args = #[v0, v1] := by cases args; simp_all
  obtain ⟨rfl, rfl⟩ := trodVars_none hV
  obtain ⟨a0, rfl, rfl, rfl, w0⟩ := open_int Try.underlying3 (hval 0 3 v0 rfl rfl) h0
  have k1 := h1
  have lt1 : ∀ x ∈ p1, x.block < W.heap.size := by obtain ⟨m, hm⟩ := k1; exact DataW.trod_lt m _ _ _ hm
  obtain ⟨a1, len1, cap1, l1, rfl, w1, g1⟩ := actsJ_of (hval 1 32 v1 rfl rfl) h1
  clear hA0 hval0
  refine (walk a0 a1 len1 cap1 l1 W w0 w1 g1).mono fun e W' ⟨he, bel⟩ => ?_
  subst he
  exact ⟨_, rfl, _, _, _, [], _, [], hW', trodAll_mk1 (shut_bool Try.underlying4 _), (trodAll_cons_mk (shut_int Try.underlying3 w0) (trodAll_cons_mk (Below.trod laidOut (by kernel_rfl) (of_decide_eq_true (by kernel_rfl)) k1 bel lt1) trodAll_mk0)), rfl, bel.frame _, fun h => by cases h⟩

theorem proved : Rows.JournalPlaysSaid :=
  OpenClaim.holds_of_wide 4 Try.f4 rfl rfl rfl rfl rfl rfl rfl ⟨rfl, rfl, rfl, rfl, rfl⟩ rfl rfl rfl rfl rfl (by kernel_rfl) Try.func4 (by kernel_rfl)
    (of_decide_eq_true (by kernel_rfl)) (by unfold Func.isWrapper; first | (rw [if_pos (by decide +kernel)]; kernel_rfl) | (rw [if_neg (by decide +kernel)]; exact ⟨rfl, rfl⟩))
    (fun os started H enc _ => lifted os started H enc)
end Go.Proofs.Ytinfgfgmijjhjaa.journalPlays
