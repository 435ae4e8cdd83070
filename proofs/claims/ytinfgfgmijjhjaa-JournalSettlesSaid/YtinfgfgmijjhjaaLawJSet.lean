/-
  JournalSettles: whatever a disk's first sectors have, behind recovering the head is empty, recovering again does nothing, and no sector at home was changed but those that were told. For every input.
-/
import Derived.Test.YtinfgfgmijjhjaaAwake04
import Derived.Test.YtinfgfgmijjhjaaJnAll
import Derived.Deep.DeepCutAuto
import Derived.Deep.CutBlock
namespace Go.Proofs.Ytinfgfgmijjhjaa.journalSettles
open Go.Proofs.Ytinfgfgmijjhjaa Go.ChangeShapes Go.WideShapes Go.ChangeAt Go.RowKit Go.Deep
open Go.ChangeMaps (open_string shut_string)
set_option linter.unusedVariables false
set_option linter.unusedSimpArgs false

/-- power, and no budget -/
structure FreeD (D : Dk) : Prop where
  on : D.power = true
  free : D.budget = -1
theorem FreeD.can {D : Dk} (h : FreeD D) : D.can = true := by simp [Dk.can, h.on, h.free]
theorem FreeD.wr {D : Dk} (h : FreeD D) (i : Int) (m : Nat) (l : List UInt8) : FreeD (wrOf D i m l).2 := by
  unfold wrOf
  split
  · exact h
  · split
    · exact h
    · rw [if_pos h.can]
      exact ⟨h.on, by show (if D.budget = -1 then (-1 : Int) else _) = -1; rw [if_pos h.free]⟩
theorem FreeD.fl {D : Dk} (h : FreeD D) (hl : D.secs.length = 50) : ∃ s, flOf D = (0, ⟨s, [], true, -1⟩) ∧ s.length = 50 := by
  refine ⟨Dk.laid (fun _ => true) D.waits D.secs, ?_, (Dk.laid_length _ _ _).trans hl⟩
  obtain ⟨s, ws, p, b⟩ := D
  obtain ⟨h1, h2⟩ := h
  dsimp only at h1 h2
  subst h1; subst h2
  exact fl_rec s ws (-1) (by omega)
theorem may_2048 {A : List Pt} (h : mayB A 50 = true) : mayB A 2048 = true := (may_iff _ _).2 (((may_iff _ _).1 h).more (by omega))
theorem drop_next (s : List (List UInt8)) (k : Nat) (hk : 41 ≤ k) (h : k < s.length) : (s.drop 41).take (k + 1 - 41) = (s.drop 41).take (k - 41) ++ [s.getD k []] := by
  rw [show k + 1 - 41 = (k - 41) + 1 by omega, List.take_add_one, List.getElem?_drop, show 41 + (k - 41) = k by omega, List.getElem?_eq_getElem h, List.getD, List.getElem?_eq_getElem h]
  rfl
/-- a sector that is not as it was is named -/
theorem named_at {L : List Pt} {s s' : List (List UInt8)} (hh : ∀ j, 41 ≤ j → j < s.length → (∀ x ∈ asW L, x.1 ≠ j) → s'.getD j [] = s.getD j []) (k : Nat) (hk : 41 ≤ k) (hl : k < s.length) (hne : s'.getD k [] ≠ s.getD k []) : countAt L (k + 1 - 41) = countAt L (k - 41) + 1 := by
  rw [show k + 1 - 41 = (k - 41) + 1 by omega, countAt_succ, show 41 + (k - 41) = k by omega, if_pos]
  by_cases h : namesAt L k = true
  · exact h
  · refine absurd (hh k hk hl fun x hx e => h ?_) hne
    exact List.any_eq_true.2 ⟨x, hx, by simpa using e⟩
theorem count_more (L : List Pt) (k : Nat) (hk : 41 ≤ k) : countAt L (k - 41) ≤ countAt L (k + 1 - 41) := by
  rw [show k + 1 - 41 = (k - 41) + 1 by omega, countAt_succ]; omega

set_option maxRecDepth 100000 in
set_option maxHeartbeats 8000000 in
theorem walk (a : Option Addr) (n c : Nat) (L0 : List ActJ) (w : World) (hc : CameAt actJC 5 w a n c L0) (hg : ∀ x ∈ L0, x.Good w) :
    Calls Try.prog 6 #[.slice a n c] w fun e w' => e = .returned (.bool true) ∧ Below w.heap.size w w' := by
  have hn63 : n ≤ 9223372036854775807 := by have := hc.2.1; have := hc.2.2.1; unfold maxLen at *; omega
  have HL := Lib.hid hc
  have HG := Lib.hid hg
  clear hc hg
  go_enter Try.func6, Try.ntmps6
  go_wp2_with fail
  refine (made_any 50 w (by omega) (by omega)).mono ?_
  rintro e w1 ⟨g, S1, rfl, hd1, hb1, hn1⟩
  have R1 := Lib.hid (Run.mk hd1 hb1 hn1)
  clear hd1 hb1 hn1
  dsimp only [id]
  go_upto_block 0 with (fail)
  go_cut [4] (fun s4 wx => ∃ (S : Nat → Prop) (D : Dk), Run w wx S g D ∧ FreeD D ∧ Fit 50 2000 D)
  case first =>
    go_wp2
    go_loopw [4] (fun s4 wr => ∃ (k : Nat) (S : Nat → Prop) (D : Dk), k ≤ n ∧ k ≤ 20 ∧ s4 = .int .i64 k ∧ Run w wr S g D ∧ FreeD D ∧ Fit 50 (k * 50) D) (fun s4 _ => n - (intOf s4).toNat)
    case atStart => exact ⟨0, S1, Dk.new 50, Nat.zero_le _, by omega, rfl, R1.out, ⟨rfl, rfl⟩, ⟨new_len 50, Nat.le_refl _⟩⟩
    case round =>
      obtain ⟨k, S, D, hk, hk20, rfl, hrun, hfr, hfi⟩ := hrel
      have HR := Lib.hid hrun
      have HFR := Lib.hid hfr
      have HFI := Lib.hid hfi
      clear hrun hfr hfi R1
      by_cases hgo : k < n ∧ k < 20
      · obtain ⟨hlt, h20⟩ := hgo
        have hlti : (k : Int) < (n : Int) := by omega
        have h20i : (k : Int) < 20 := by omega
        obtain ⟨b1, off1, rfl, hbl, _⟩ := HL.out.at (by omega) (by omega)
        obtain ⟨x, hx⟩ : ∃ x, L0[k]? = some x := ⟨L0[k]'(by have := HL.out.1; omega), List.getElem?_eq_getElem _⟩
        have HCE := Lib.hid (show ∀ u, Below w.heap.size w u → u.cell? ⟨b1, off1 + k * 5, none⟩ = some (.int .i64 x.do_) ∧ u.cell? ⟨b1, off1 + k * 5 + 1, none⟩ = some (.int .i64 x.i) ∧ u.cell? ⟨b1, off1 + k * 5 + 2, none⟩ = some (.int .u8 x.c.toNat) ∧ u.cell? ⟨b1, off1 + k * 5 + 3, none⟩ = some (.slice x.la x.ln x.lc) from fun u hu => by
          obtain ⟨b', off', he, _, hc'⟩ := (HL.out.below (by omega) hu).at (by omega) (by omega)
          cases he
          exact ⟨hc' k 0 x hx (by omega), by rw [Nat.add_assoc]; exact hc' k 1 x hx (by omega), by rw [Nat.add_assoc]; exact hc' k 2 x hx (by omega), by rw [Nat.add_assoc]; exact hc' k 3 x hx (by omega)⟩)
        have HPU := Lib.hid (HG.out x (List.mem_of_getElem? hx)).puts
        have CFW := Lib.hid (fun u (hu : Below w.heap.size w u) => jfew_any x.la x.ln x.lc x.lm u (HPU.out.below hu))
        clear hx hbl HPU
        generalize fewL (x.lm.map PutM.pt) = A at *
        go_upto_region 7 with fail
        go_cut [50] (fun s50 wx => ∃ bb : Bool, s50 = .bool bb ∧ (bb = true → mayB A 50 = true) ∧ Below wr.heap.size wr wx)
        case first =>
          obtain ⟨k0, _, _, k3⟩ := HCE.out _ HR.out.below
          by_cases h0 : x.do_ = 0
          · have e0 : (x.do_ == 0) = true := by simpa using h0
            clear h0
            go_wp2_with fail
            refine (CFW.out _ HR.out.below).mono ?_
            rintro e w2 ⟨p, m, d, M, rfl, hp, hM, hb⟩
            have CM := Lib.hid (rmay_any _ p m d M 50 w2 hp)
            rw [hM] at CM
            have HB := Lib.hid hb
            clear hp hM hb k0 k3
            go_wp2_with fail
            refine (CM.out).mono ?_
            rintro e w3 ⟨rfl, hb3⟩
            have HB3 := Lib.hid (HB.out.trans (hb3.mono HB.out.size))
            clear hb3 CM HB
            generalize hbb : mayB A 50 = bb
            have HBB := Lib.hid hbb
            clear hbb
            go_wp2
            go_meet
            exact ⟨bb, rfl, fun h => by rw [HBB.out]; exact h, HB3.out⟩
          · have e0 : (x.do_ == 0) = false := by simpa using h0
            go_wp2
            go_meet
            exact ⟨false, rfl, (fun h => by cases h), Below.refl _ _⟩
        case rest =>
        obtain ⟨bb, rfl, hbb, hb⟩ := hcut
        obtain ⟨wq, rfl⟩ : ∃ wq : World, wq = wc := ⟨_, rfl⟩
        have R2 := Lib.hid (HR.out.quiet hb)
        have HBB := Lib.hid hbb
        clear hb hbb HR
        cases bb with
        | true =>
          have HMB := Lib.hid (HBB.out rfl)
          have hml := ((may_iff _ _).1 HMB.out).few
          obtain ⟨_, _, _, k3⟩ := HCE.out _ R2.out.below
          go_wp2_with fail
          refine (CFW.out _ R2.out.below).mono ?_
          rintro e w2 ⟨p1, m1, d1, M1, rfl, hp, hM, hb2⟩
          have SA := Lib.hid (SceneA.mk' R2.out hb2 hp (fun j hj => hj.1))
          generalize (fun k => wq.heap.size ≤ k ∧ k < w2.heap.size) = U at SA
          have HM1 := Lib.hid hM
          have hm1 : m1 ≤ 40 := by rw [← hp.mlen]; have := congrArg List.length hM; rw [List.length_map] at this; omega
          clear hp hM hb2 k3 R2
          have CH := Lib.hid (headf_any _ p1 m1 d1 M1 w2 SA.out.puts)
          unfold HeadTo at CH
          rw [HM1.out, may_2048 HMB.out] at CH
          simp only [if_true] at CH
          go_wp2_with fail
          refine (CH.out).mono ?_
          rintro e w3 ⟨ah, nh, ch, rfl, hy, hb3, hn3⟩
          obtain rfl : nh = 128 := by rw [← hy.1]; exact hdL_length A hml
          have KH := Lib.hid (Kept.new (S := S) hy hn3 SA.out.run.disk.lt)
          have SB := Lib.hid (SA.out.quiet hb3)
          clear hy hb3 hn3 SA CH
          go_wp2
          go_loopw [8] (fun s8 wv => ∃ (m : Nat) (S : Nat → Prop) (D : Dk), m ≤ m1 ∧ s8 = .int .i64 m ∧ SceneA w wv S g D U p1 m1 d1 M1 ∧ Kept wv S ah 128 ch (hdL A) ∧ FreeD D ∧ Fit 50 (k * 50 + m) D) (fun s8 _ => m1 - (intOf s8).toNat)
          case atStart => exact ⟨0, S, D, Nat.zero_le _, rfl, SB.out, KH.out, HFR.out, HFI.out⟩
          case round =>
            obtain ⟨m, S3, D3, hm, rfl, hsc, hkh, hfr3, hfi3⟩ := hrel
            have SC := Lib.hid hsc
            have KC := Lib.hid hkh
            have FC := Lib.hid hfr3
            have FI := Lib.hid hfi3
            clear hsc hkh hfr3 hfi3 SB KH HFR HFI
            by_cases hlt : m < m1
            · have hlti : (m : Int) < (m1 : Int) := by omega
              obtain ⟨b3, off3, rfl, _, hcell⟩ := SC.out.puts.at (by omega)
              obtain ⟨_, d1c, _⟩ := hcell m hlt
              have hmem := SC.out.puts.mem m hlt
              have CW := Lib.hid (write_all g (1 + (m : Int)) D3 S3 _ _ _ _ _ SC.out.run.disk (SC.out.puts.bytes _ hmem) (by have := FI.out.2; omega) (fun p hp => SC.out.offU _ (SC.out.puts.inB _ hmem p hp)))
              clear hcell hmem
              generalize M1.getD m default = x3 at *
              go_wp2_with fail
              refine (CW.out).mono ?_
              rintro e w4 ⟨rfl, S4, hd, ho, hs⟩
              have SE := Lib.hid (SC.out.disk hd ho hs)
              have KE := Lib.hid (KC.out.step ho hs)
              clear hd ho hs CW SC KC d1c
              go_wp2
              go_roundw
              case rel => exact ⟨m + 1, S4, _, by omega, by go_num, SE.out, KE.out, FC.out.wr _ _ _, (FI.out.wr _ _ _).le (by omega)⟩
              case measure => simp [intOf]; omega
            · obtain rfl : m = m1 := by omega
              clear hlt
              go_wp2_with fail
              refine (write_all g 0 D3 S3 ah 128 ch (hdL A) _ SC.out.run.disk KC.out.at_ (by have := FI.out.2; omega) (fun p hp => (KC.out.off p hp).1)).mono ?_
              rintro e w4 ⟨rfl, S4, hd, ho, hs⟩
              have SE := Lib.hid (SC.out.disk hd ho hs)
              clear hd ho hs SC KC
              go_wp2
              go_roundw
              case rel => exact ⟨k + 1, S4, _, by omega, by omega, by go_num, SE.out.run, FC.out.wr _ _ _, (FI.out.wr _ _ _).le (by omega)⟩
              case measure => simp [intOf]; omega
        | false =>
          obtain ⟨_, k1, k2, _⟩ := HCE.out _ R2.out.below
          go_wp2_with fail
          refine region_head 13 [0, 1, 2, 3, 4, 5, 6, 7, 8, 9, 10, 11, 12] [11, 12] (fun u => u.cell? ⟨b1, off1 + k * 5 + 1, none⟩ = some (.int .i64 x.i) ∧ u.cell? ⟨b1, off1 + k * 5 + 2, none⟩ = some (.int .u8 x.c.toNat)) (by kernel_rfl) (by kernel_rfl) ⟨k1, k2⟩ ?_
          clear k1 k2
          simp only [pickO, List.append_eq, List.cons_append, List.nil_append, List.filterMap_cons, List.filterMap_nil, List.getElem?_cons_zero, List.getElem?_cons_succ, Option.map_some, List.drop_succ_cons, List.drop_zero]
          iterate 11
            refine seqH_readG _ rfl (by rfl) (by rintro u ⟨hu1, hu2⟩; go_simp; with_reducible rfl) ?_
            try simp only [Act.put, List.setIfInBounds_toArray, List.set_cons_zero, List.set_cons_succ]
          refine seqH_moveG rfl (by rfl) (fun K hK => ?_)
          go_simp
          refine (all_any x.c _).mono ?_
          rintro e w5 ⟨a5, cc5, rfl, hr, hb5, hn5⟩
          have R5 := Lib.hid (R2.out.drew.quiet hb5)
          have K5 := Lib.hid (Kept.new (S := S) hr hn5 R2.out.drew.disk.lt)
          refine hK _ _ ⟨(HCE.out _ R5.out.below).2.1, (HCE.out _ R5.out.below).2.2.1⟩ ?_
          clear hK K hr hb5 hn5 R2
          dsimp only [id]
          try simp only [Act.put, List.setIfInBounds_toArray, List.set_cons_zero, List.set_cons_succ]
          refine seqH_moveG rfl (by rfl) (fun K hK => ?_)
          go_simp
          refine (write_all g x.i D S a5 128 cc5 (sec x.c) _ R5.out.disk K5.out.at_ (by have := HFI.out.2; omega) (fun p hp => (K5.out.off p hp).1)).mono ?_
          rintro e w6 ⟨rfl, S6, hd, ho, hs⟩
          have R6 := Lib.hid (R5.out.to hd ho hs)
          refine hK _ _ ⟨(HCE.out _ R6.out.below).2.1, (HCE.out _ R6.out.below).2.2.1⟩ ?_
          clear hK K hd ho hs R5 K5
          try simp only [Act.put, List.setIfInBounds_toArray, List.set_cons_zero, List.set_cons_succ]
          refine seqH_nil ?_
          go_wp2
          go_roundw
          case rel => exact ⟨k + 1, S6, _, by omega, by omega, by go_num, R6.out, HFR.out.wr _ _ _, (HFI.out.wr _ _ _).le (by omega)⟩
          case measure => simp [intOf]; omega
      · by_cases hlt : k < n
        · obtain rfl : k = 20 := by omega
          have hlti : (20 : Int) < (n : Int) := by omega
          clear hgo
          go_wp2
          go_meet
          exact ⟨S, D, HR.out, HFR.out, HFI.out.le (by omega)⟩
        · obtain rfl : k = n := by omega
          clear hgo hlt
          go_wp2
          go_meet
          exact ⟨S, D, HR.out, HFR.out, HFI.out.le (by omega)⟩
  case rest =>
  obtain ⟨S2, D2, hrun, hfr, hfi⟩ := hcut
  obtain ⟨wa, rfl⟩ : ∃ wa : World, wa = wc := ⟨_, rfl⟩
  obtain ⟨s, hfl, hsl⟩ := hfr.fl hfi.1
  have R2 := Lib.hid hrun
  have CF := Lib.hid (flush_all g D2 S2 wa hrun.disk)
  rw [hfl] at CF
  dsimp only at CF
  have HSL := Lib.hid hsl
  clear hrun hfr hfi hfl hsl R1
  go_wp2_with fail
  refine (CF.out).mono ?_
  rintro e w3 ⟨rfl, S3, hd, ho, hs⟩
  have R3 := Lib.hid (R2.out.to hd ho hs)
  clear hd ho hs CF R2
  go_upto_block 4 with (fail)
  go_cut [9, 10] (fun s9 s10 wx => ∃ (aw : Option Addr) (cw : Nat), s9 = .slice aw 9 cw ∧ StrsAt w wx S3 (.slice aw 9 cw) (s.drop 41) ∧ Run w wx S3 g ⟨s, [], true, -1⟩)
  case first =>
    go_wp2
    go_loopw [9, 10] (fun s9 s10 wr => ∃ (k : Nat) (R : List (List UInt8)), 41 ≤ k ∧ k ≤ 50 ∧ s10 = .int .i64 k ∧ R = (s.drop 41).take (k - 41) ∧ StrsAt w wr S3 s9 R ∧ Run w wr S3 g ⟨s, [], true, -1⟩) (fun _ s10 _ => 50 - (intOf s10).toNat)
    case atStart => exact ⟨41, [], by omega, by omega, rfl, by simp, StrsAt.nil _ _ _, R3.out⟩
    case round =>
      obtain ⟨k, R, hk1, hk2, rfl, hR, hst, hrun⟩ := hrel
      have HST := Lib.hid hst
      have HRU := Lib.hid hrun
      have HR := Lib.hid hR
      obtain ⟨aw, cw, rfl, _, _⟩ := hst.recs.form
      have hRl : R.length ≤ 9 := by rw [hR, List.length_take, List.length_drop, HSL.out]; omega
      clear hst hrun hR R3
      by_cases h5 : k < 50
      · have h5i : (k : Int) < 50 := by omega
        go_wp2_with fail
        refine (read_yes g k _ S3 _ HRU.out.disk (by rw [HSL.out]; exact h5) rfl).mono ?_
        rintro e w5 ⟨a4, c4, rfl, hr, hb, hn⟩
        rw [content_still] at hr
        have HGD := Lib.hid (drop_next s k hk1 (by rw [HSL.out]; exact h5))
        have v4 := hr.conv
        have HB4 := Lib.hid hb
        obtain ⟨i0, hi0, hz0, hz1, hz2⟩ := info_parts infoStr
        have Hi0 := Lib.hid hi0
        have Hz0 := Lib.hid hz0
        have Hz1 := Lib.hid hz1
        have Hz2 := Lib.hid hz2
        clear hr hb hn hi0 hz0 hz1 hz2
        generalize s.getD k [] = l4 at *
        go_wp2_with (at_builtin; refine wpList_append_recs (f := strC) rfl _ _ 48 rfl 9 i0 _ 1 16 Try.underlying48 Hi0.out Hz0.out Hz1.out Hz2.out rfl (by omega) _ R rfl (HST.out.recs.below (HB4.out.alloc (Below.size HB4.out) _)) ⟨w5.heap.size, 0, none⟩ 1 1 [l4] rfl rfl (fun _ _ => rfl) (fun y _ => strC_one y) (one_rec (heap_alloc_new w5 _)) (by unfold maxLen; omega) (by omega) ?_; intro v' w6 hr' hg' hv'; obtain ⟨av5, cv5, rfl, _, _⟩ := hr'.form)
        go_roundw
        case rel =>
          have hm := HST.out.more HRU.out (HB4.out.alloc (Below.size HB4.out) _) hr' hg' hv'
          rw [List.length_append, List.length_singleton] at hm
          exact ⟨k + 1, R ++ [l4], by omega, by omega, by go_num, by rw [HGD.out, ← HR.out], hm.1, hm.2⟩
        case measure => simp [intOf]; omega
      · obtain rfl : k = 50 := by omega
        go_wp2
        go_meet
        have hRs : R = s.drop 41 := by rw [HR.out, List.take_of_length_le (by rw [List.length_drop, HSL.out]; omega)]
        have hst := HST.out
        have hl9 : (s.drop 41).length = 9 := by rw [List.length_drop, HSL.out]
        rw [hRs, hl9] at hst
        exact ⟨aw, cw, by rw [hRs, hl9], hst, HRU.out⟩
  case rest =>
  obtain ⟨aw, cw, rfl, hst, hrun⟩ := hcut
  obtain ⟨wb, rfl⟩ : ∃ wb : World, wb = wc := ⟨_, rfl⟩
  have ST := Lib.hid hst
  have R4 := Lib.hid hrun
  clear hst hrun R3
  obtain ⟨L, s', hr1, hr2, hl2, hz2, hll, hho⟩ := settles s (by rw [HSL.out]; omega) (by rw [HSL.out]; omega)
  have CR := Lib.hid (recover_any g _ S3 wb R4.out.disk (by simp))
  unfold RecTo at CR
  rw [hr1] at CR
  dsimp only at CR
  have HR2 := Lib.hid hr2
  have HL2 := Lib.hid (show s'.length = 50 by rw [hl2, HSL.out])
  have HZ2 := Lib.hid hz2
  have HHO := Lib.hid hho
  clear hr1 hr2 hl2 hz2 hho
  go_wp2_with fail
  refine (CR.out).mono ?_
  rintro e w4 ⟨rfl, S4, hd, ho, hs⟩
  have R5 := Lib.hid (R4.out.to hd ho hs)
  have SU := Lib.hid (ST.out.step ho hs)
  clear hd ho hs CR R4 ST
  have HL9 := Lib.hid (show (s.drop 41).length = 9 by rw [List.length_drop, HSL.out])
  go_wp2
  go_loopw [15, 16] (fun s15 s16 wr => ∃ (k ch : Nat), 41 ≤ k ∧ k ≤ 50 ∧ s16 = .int .i64 k ∧ s15 = .int .i64 ch ∧ ch ≤ countAt L (k - 41) ∧ StrsAt w wr S4 (.slice aw 9 cw) (s.drop 41) ∧ Run w wr S4 g ⟨s', [], true, -1⟩) (fun _ s16 _ => 50 - (intOf s16).toNat)
  case atStart => exact ⟨41, 0, by omega, by omega, rfl, rfl, Nat.zero_le _, SU.out, R5.out⟩
  case round =>
    obtain ⟨k, ch, hk1, hk2, rfl, rfl, hch, hst, hrun⟩ := hrel
    have HST := Lib.hid hst
    have HRU := Lib.hid hrun
    have HCH := Lib.hid hch
    have hch40 : ch ≤ 40 := by have := countAt_le L (k - 41); omega
    clear hst hrun hch SU R5
    by_cases h5 : k < 50
    · have h5i : (k : Int) < 50 := by omega
      go_wp2_with fail
      refine (read_yes g k _ S4 _ HRU.out.disk (by rw [HL2.out]; exact h5) rfl).mono ?_
      rintro e w5 ⟨a9, c9, rfl, hr, hb, hn⟩
      rw [content_still] at hr
      have HC9 := Lib.hid hr
      have RV := Lib.hid (HRU.out.quiet hb)
      have SV := Lib.hid (HST.out.below hb)
      obtain ⟨gw, cw', hvw, hcw⟩ := SV.out.cell (by rw [HL9.out]; omega)
      rw [HL9.out] at hvw
      simp only [Value.slice.injEq, true_and] at hvw
      obtain ⟨rfl, rfl⟩ := hvw
      obtain ⟨q, hq⟩ : ∃ q, q = k - 41 := ⟨_, rfl⟩
      have cwk := hcw q (by rw [HL9.out]; omega)
      have hwi : (s.drop 41)[q]'(by rw [HL9.out]; omega) = s.getD k [] := by
        rw [List.getElem_drop, List.getD, List.getElem?_eq_getElem (by rw [HSL.out]; exact h5)]
        simp only [hq, show 41 + (k - 41) = k by omega]
        rfl
      rw [hwi] at cwk
      have CWK := Lib.hid cwk
      have hsub : (k : Int) - 41 = (q : Int) := by omega
      have hq9 : q < 9 := by omega
      have hq9i : (q : Int) < 9 := by omega
      have hwq : IntKind.i64.wrap (q : Int) = (q : Int) := IntWalk.i64_in _ (by omega)
      have HNA := Lib.hid (fun hne => named_at HHO.out k hk1 (by rw [HSL.out]; exact h5) hne)
      have HCM := Lib.hid (count_more L k hk1)
      clear hr hb hn hcw cwk hwi hq HST HRU
      generalize s'.getD k [] = c at *
      generalize s.getD k [] = wi at *
      go_wp2
      refine region_head 8 [0, 1, 2, 3, 4, 5, 6, 7] [] (fun u : World => BytesAt u a9 128 c9 c ∧ u.cell? ⟨gw, q, none⟩ = some (.string ⟨wi.toArray⟩)) (by kernel_rfl) (by kernel_rfl) ⟨HC9.out, CWK.out⟩ ?_
      simp only [pickO, List.append_eq, List.cons_append, List.nil_append, List.filterMap_cons, List.filterMap_nil, List.getElem?_cons_zero, List.getElem?_cons_succ, Option.map_some, List.drop_succ_cons, List.drop_zero]
      by_cases hne : c = wi
      · have e1 : (c == wi) = true := by simpa using hne
        iterate 8
          refine seqH_readG _ rfl (by rfl) (by rintro u ⟨hu0, hu1⟩; have vb := hu0.conv; clear hu0; go_simp; with_reducible rfl) ?_
          try simp only [Act.put, List.setIfInBounds_toArray, List.set_cons_zero, List.set_cons_succ]
        refine seqH_nil ?_
        go_wp2
        go_roundw
        case rel => exact ⟨k + 1, ch, by omega, by omega, by go_num, rfl, Nat.le_trans HCH.out HCM.out, SV.out.below ((Below.refl _ _).drew), RV.out.drew⟩
        case measure => simp [intOf]; omega
      · have e1 : (c == wi) = false := by simpa using hne
        have HCN := Lib.hid (HNA.out hne)
        iterate 8
          refine seqH_readG _ rfl (by rfl) (by rintro u ⟨hu0, hu1⟩; have vb := hu0.conv; clear hu0; go_simp; with_reducible rfl) ?_
          try simp only [Act.put, List.setIfInBounds_toArray, List.set_cons_zero, List.set_cons_succ]
        refine seqH_nil ?_
        go_wp2
        go_roundw
        case rel => exact ⟨k + 1, ch + 1, by omega, by omega, by go_num, by go_num, by have := HCN.out; have := HCH.out; omega, SV.out.below ((Below.refl _ _).drew), RV.out.drew⟩
        case measure => simp [intOf]; omega
    · obtain rfl : k = 50 := by omega
      have hle : (ch : Int) ≤ (L.length : Int) := by have := HCH.out; have := countAt_le L (50 - 41); omega
      go_wp2_with fail
      refine (has_yes g 0 _ S4 _ HRU.out.disk (by rw [HL2.out]; omega)).mono ?_
      rintro e w5 ⟨ah, cah, rfl, hr, hb, hn⟩
      rw [show ({ secs := s', waits := [], power := true, budget := -1 } : Dk).secs.getD 0 [] = sec 0 from HZ2.out] at hr
      have RV := Lib.hid (HRU.out.quiet hb)
      have KH := Lib.hid (Kept.new (S := S4) hr hn HRU.out.disk.lt)
      have CR := Lib.hid (recover_any g _ S4 w5 RV.out.disk (by simp))
      unfold RecTo at CR
      rw [HR2.out] at CR
      dsimp only at CR
      clear hr hb hn HRU HST
      go_wp2_with fail
      refine (CR.out).mono ?_
      rintro e w6 ⟨rfl, S6, hd, ho, hs⟩
      have RW := Lib.hid (RV.out.to hd ho hs)
      have KW := Lib.hid (KH.out.step ho hs)
      clear hd ho hs RV KH CR
      go_wp2
      refine region_head 30 [0, 1, 2, 3, 4, 5, 6, 7, 8, 9, 10, 11, 12, 13, 14, 15, 16, 17, 18, 19, 20, 21, 22, 23, 24, 25, 26, 27, 28, 29] [10, 11, 27] (fun u : World => BytesAt u ah 128 cah (sec 0)) (by kernel_rfl) (by kernel_rfl) (KW.out.at_) ?_
      simp only [pickO, List.append_eq, List.cons_append, List.nil_append, List.filterMap_cons, List.filterMap_nil, List.getElem?_cons_zero, List.getElem?_cons_succ, Option.map_some, List.drop_succ_cons, List.drop_zero]
      iterate 10
        refine seqH_readG _ rfl (by rfl) (by rintro u hu0; have vb := hu0.conv; clear hu0; go_simp; with_reducible rfl) ?_
        try simp only [Act.put, List.setIfInBounds_toArray, List.set_cons_zero, List.set_cons_succ]
      refine seqH_moveG rfl (by rfl) (fun K hK => ?_)
      go_simp
      refine (all_any 0 _).mono ?_
      rintro e w7 ⟨a7, c7, rfl, hr7, hb7, _⟩
      have RX := Lib.hid (RW.out.drew.quiet hb7)
      have KX := Lib.hid ((KW.out.below ((Below.refl _ _).drew)).below hb7)
      have HR7 := Lib.hid hr7
      refine hK _ _ KX.out.at_ ?_
      clear hK K hr7 hb7 RW KW
      dsimp only [id]
      try simp only [Act.put, List.setIfInBounds_toArray, List.set_cons_zero, List.set_cons_succ]
      refine seqH_moveG rfl (by rfl) (fun K hK => ?_)
      have hv7 := HR7.out.conv
      go_simp
      refine hK _ _ KX.out.at_ ?_
      clear hK K hv7
      try simp only [Act.put, List.setIfInBounds_toArray, List.set_cons_zero, List.set_cons_succ]
      iterate 15
        refine seqH_readG _ rfl (by rfl) (by rintro u hu; clear hu; go_simp; with_reducible rfl) ?_
        try simp only [Act.put, List.setIfInBounds_toArray, List.set_cons_zero, List.set_cons_succ]
      refine seqH_moveG rfl (by rfl) (fun K hK => ?_)
      go_simp
      refine (awake04 _).mono ?_
      rintro e w8 ⟨rfl, hb8⟩
      have RY := Lib.hid (RX.out.quiet hb8)
      refine hK _ _ (KX.out.below hb8).at_ ?_
      clear hK K hb8
      try simp only [Act.put, List.setIfInBounds_toArray, List.set_cons_zero, List.set_cons_succ]
      iterate 2
        refine seqH_readG _ rfl (by rfl) (by rintro u hu; clear hu; go_simp; with_reducible rfl) ?_
        try simp only [Act.put, List.setIfInBounds_toArray, List.set_cons_zero, List.set_cons_succ]
      refine seqH_nil ?_
      go_wp2
      go_ret
      exact ⟨rfl, RY.out.below⟩

theorem own : ownKnob Try.prog.godebug = none := by kernel_rfl
theorem laidOut : laidOutB Try.prog = true := by kernel_rfl

set_option maxRecDepth 100000 in
theorem lifted (os : Os) (started : os.Started) (H : Type) (enc : TypeId × Value → H) :
    ReturnsInHanded {} Try.checked os 6 .any (Rows.journalSettlesSpec.pre6 enc Try.prog Try.f6 Rows.journalSettlesRow.domain false) (Rows.journalSettlesSpec.post enc Try.prog Try.f6 false true false false) := by
  refine returnsInHanded_of_change (C := Try.checked) own started (by kernel_rfl) Try.func6
    (ChangeSpec.witness6 (enc := enc) (C := Try.checked) false ⟨#[], #[.slice none 0 0], []⟩ 8 (by kernel_rfl) (by kernel_rfl) (by kernel_rfl) (by kernel_rfl)) ?_
  intro W base args ds gs before hval0 hW hcnd _
  have hval : ∀ (j : Nat) t v, Try.f6.params[j]? = some t → args[j]? = some v → Value.okWide Try.prog W .any base t v := hval0
  have hW' := hW
  obtain ⟨p, q, hA0, hV, rfl, hfz, hnd⟩ := hW
  have hA : DataW.TrodAll enc Try.prog W 0 (fun _ => true) true Try.f6.params.toList args.toList ds p := hA0
  rw [Try.params6] at hA hval
  obtain ⟨v0, vs0, d0, ds0, p0, q0, hargs, rfl, rfl, h0, r0⟩ := trodAll_cons hA
  obtain ⟨rfl, rfl, rfl⟩ := trodAll_nil r0
  obtain rfl : args = #[v0] := by cases args; simp_all
  obtain ⟨rfl, rfl⟩ := trodVars_none hV
  have k0 := h0
  have lt0 : ∀ x ∈ p0, x.block < W.heap.size := by obtain ⟨m, hm⟩ := k0; exact DataW.trod_lt m _ _ _ hm
  obtain ⟨a0, len0, cap0, l0, rfl, w0, g0⟩ := actsJ_of (hval 0 32 v0 rfl rfl) h0
  clear hA0 hval0
  refine (walk a0 len0 cap0 l0 W w0 g0).mono fun e W' ⟨he, bel⟩ => ?_
  subst he
  exact ⟨_, rfl, _, _, _, [], _, [], hW', trodAll_mk1 (shut_bool Try.underlying4 _), (trodAll_cons_mk (Below.trod laidOut (by kernel_rfl) (of_decide_eq_true (by kernel_rfl)) k0 bel lt0) trodAll_mk0), rfl, bel.frame _, fun h => by cases h⟩

theorem proved : Rows.JournalSettlesSaid :=
  OpenClaim.holds_of_wide 6 Try.f6 rfl rfl rfl rfl rfl rfl rfl ⟨rfl, rfl, rfl, rfl, rfl⟩ rfl rfl rfl rfl rfl (by kernel_rfl) Try.func6 (by kernel_rfl)
    (of_decide_eq_true (by kernel_rfl)) (by unfold Func.isWrapper; first | (rw [if_pos (by decide +kernel)]; kernel_rfl) | (rw [if_neg (by decide +kernel)]; exact ⟨rfl, rfl⟩))
    (fun os started H enc _ => lifted os started H enc)
end Go.Proofs.Ytinfgfgmijjhjaa.journalSettles
