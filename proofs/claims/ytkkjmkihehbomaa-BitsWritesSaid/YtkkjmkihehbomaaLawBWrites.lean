/-
  Whatever comes, one thing behind the other, what was written is the document's, or it is refused (P8.1).
  No condition: every slice of steps.
-/
import Derived.Test.YtkkjmkihehbomaaBtV
import Derived.Test.YtkkjmkihehbomaaBtO
import Derived.Test.YtkkjmkihehbomaaHdS
import Derived.Deep.DeepCutAuto
import Derived.Deep.CutBlock
namespace Go.Proofs.Ytkkjmkihehbomaa.bitsWrites
open Go.ChangeShapes Go.WideShapes Go.ChangeAt Go.RowKit Go.Deep
set_option linter.unusedVariables false
set_option linter.unusedSimpArgs false
set_option maxRecDepth 100000

/-- the writer beside the document's bits -/
structure Bw (w wr : World) (B : Nat) (F : List Bool) (a : Option Addr) (n c : Nat) : Prop where
  ws : WrS w.heap.size wr B F
  bo : BoI w wr a n c F
theorem Bw.below {w wr w' : World} {B : Nat} {F : List Bool} {a : Option Addr} {n c : Nat} (h : Bw w wr B F a n c) (hb : Below wr.heap.size wr w') : Bw w w' B F a n c :=
  ⟨h.ws.below hb, h.bo.below hb⟩

theorem _root_.Go.Proofs.Ytkkjmkihehbomaa.BoI.keepW {w wr w2 : World} {n0 B : Nat} {F G : List Bool} {a : Option Addr} {n c : Nat} (h : BoI w wr a n c F) (hB : ∃ c, wr.heap[B]? = some (.cells c 55 (0, 0))) (hk : WrK n0 B G wr w2) (hn : w.heap.size ≤ n0 := by omega) : BoI w w2 a n c F :=
  ⟨keep_bools hk.2.2 h.1 hB, h.2.1, h.2.2.1, h.2.2.2.trans (hk.2.1.mono hn)⟩
/-- flags are laid behind: the writer stays -/
theorem _root_.Go.Proofs.Ytkkjmkihehbomaa.WrS.grownBo {w wr : World} {n0 B : Nat} {G : List Bool} {v : Value} {F : List Bool} (h : WrS n0 w B G) (hb : BoO w v F) (hg : w.grownBy wr v.ownBlock) : WrS n0 wr B G := by
  obtain ⟨u, h1, h2, h3⟩ := h
  have hne : ∀ k, v.ownBlock = some k → k ≠ B := hb.ne_of h1.1 (by decide)
  refine ⟨u, ⟨(hg.block B h1.lt (fun e => hne B e.symm rfl)).trans h1.1, h1.2.keep fun k hk => hg.block k (h1.2.lt k hk) fun e => ?_⟩, h2, h3⟩
  obtain ⟨cur, hc⟩ := h1.2.blk k hk
  exact hb.ne_of hc (by decide) k e.symm rfl

theorem step_cells {w : World} {g : Nat} {x : StepM} (h : w.heap[g]? = some (.cells (stepC x).toArray 29 (0, 0))) :
    w.cell? ⟨g, 0, none⟩ = some (.int .i64 x.act) ∧ w.cell? ⟨g, 1, none⟩ = some (.int .i64 x.n) ∧ w.cell? ⟨g, 2, none⟩ = some (.int .u64 (x.v : Int)) ∧ w.cell? ⟨g, 3, none⟩ = some (.slice x.a x.m x.c) :=
  ⟨by rw [cell_of_row _ _ _ _ _ _ h]; rfl, by rw [cell_of_row _ _ _ _ _ _ h]; rfl, by rw [cell_of_row _ _ _ _ _ _ h]; rfl, by rw [cell_of_row _ _ _ _ _ _ h]; rfl⟩

set_option maxHeartbeats 4000000 in
theorem walk (a : Option Addr) (n cap : Nat) (L : List StepM) (w : World) (h : CameAt stepC 4 w a n cap L) (hg : ∀ x ∈ L, x.Good w) :
    Calls Try.prog 3 #[.slice a n cap] w fun e w' => e = .returned (.bool true) ∧ Below w.heap.size w w' := by
  have HL := Lib.hid h
  have HG := Lib.hid hg
  have CN := Lib.hid (newS w w.heap.size (Nat.le_refl _))
  clear h hg
  go_enter Try.func3, Try.ntmps3
  go_wp2_with fail
  refine CN.out.mono ?_
  rintro e w1 ⟨rfl, hs1, hb1⟩
  have I1 := Lib.hid (show Bw w w1 w.heap.size [] none 0 0 from ⟨hs1, Recs.nil _ _ _ _, rfl, fun k hk => by simp [Value.ownBlock] at hk, hb1⟩)
  clear hs1 hb1 CN
  generalize hB : w.heap.size = B at I1
  have HB := Lib.hid hB
  clear hB
  go_wp2
  go_loopw [4, 5] (fun s4 s5 wr => ∃ (k : Nat) (F : List Bool) (av : Option Addr) (nv cv : Nat), k ≤ n ∧ k ≤ 60 ∧ s5 = .int .i64 k ∧ s4 = .slice av nv cv ∧ Bw w wr B F av nv cv ∧ nv ≤ k * 900) (fun _ s5 _ => 60 - (intOf s5).toNat)
  case atStart => exact ⟨0, [], none, 0, 0, Nat.zero_le _, by omega, rfl, rfl, I1.out, by omega⟩
  case round =>
    obtain ⟨k, F, av, nv, cv, hk, hk60, rfl, rfl, hinv, hnv⟩ := hrel
    have HI := Lib.hid hinv
    clear hinv
    by_cases hgo : k < n ∧ k < 60
    · obtain ⟨hlt, h60⟩ := hgo
      have hL := HL.out.below (by omega) HI.out.bo.2.2.2
      obtain ⟨b, off, rfl, hbl, hcell⟩ := steps_at hL (by omega)
      obtain ⟨_, _, _, _, hrx⟩ := hcell k hlt
      have GX := Lib.hid (HG.out _ (cameD HL.out k hlt))
      have RX := Lib.hid hrx
      have hlti : (k : Int) < (n : Int) := by omega
      have h60i : (k : Int) < 60 := by omega
      clear hL hcell hrx hbl
      generalize L.getD k default = x at *
      go_upto_region 10 with (first
        | (refine wpList_load_mid rfl 29 _ rfl b (off + k * 4) rfl (stepC x) _ RX.out Try.underlying29 rfl sizeStep ?_)
        | (refine wpList_store_row rfl _ _ _ rfl wr.heap.size (stepC x).toArray rfl rfl 29 _ (heap_alloc_new wr _) sizeStep rfl (by simpa using stepC_one x) ?_
           generalize hwB : World.setRow _ wr.heap.size (stepC x).toArray = wB
           have hsc : Bw w wB B F av nv cv ∧ wB.heap[wr.heap.size]? = some (.cells (stepC x).toArray 29 (0, 0)) := by
             rw [← hwB]
             exact ⟨HI.out.below (below_setRow ((Below.refl _ _).alloc (Nat.le_refl _) _) (Nat.le_refl _) _), heap_setRow_same _ _ _ _ _ (heap_alloc_new wr _)⟩
           have SC := Lib.hid hsc.1
           have SX := Lib.hid hsc.2
           clear hsc hwB))
      obtain ⟨Bx, hBx⟩ : ∃ Bx, Bx = wr.heap.size := ⟨_, rfl⟩
      rw [← hBx] at SX ⊢
      obtain ⟨c0, c1, c2, c3⟩ := step_cells SX.out
      have hxv := GX.out.v
      have HBB := Lib.hid (show Bx ≠ B from fun e => by obtain ⟨cc, hc⟩ := SC.out.ws.box; rw [← e, SX.out] at hc; injection hc with hc; injection hc with _ hc; exact absurd hc (by decide))
      clear hBx
      go_cut [34] (fun s34 wx => wx = wB ∧ s34 = .bool (!mayN x.n))
      case first =>
        by_cases hn0 : x.n < 0
        · go_wp2
          go_meet
          exact ⟨rfl, by simp [mayN]; omega⟩
        · have hn1 : 0 ≤ x.n := by omega
          go_wp2
          go_meet
          exact ⟨rfl, by by_cases h2 : x.n ≤ 32 <;> simp [mayN, hn1, h2] <;> omega⟩
      case rest =>
       obtain ⟨hwc, rfl⟩ := hcut
       subst hwc
       go_upto_if 34 with (fail)
       go_cut [8] (fun s8 wx => wx = wc ∧ s8 = .int .i64 (fitE x.v x.n))
       case first =>
        cases hm : mayN x.n with
        | false =>
          have HM := Lib.hid hm
          clear hm
          go_wp2
          go_meet
          exact ⟨rfl, by rw [show fitE x.v x.n = 1 from if_pos HM.out]⟩
        | true =>
          have hmm : 0 ≤ x.n ∧ x.n ≤ 32 := by unfold mayN at hm; simpa using hm
          obtain ⟨m, hxm⟩ : ∃ m : Nat, x.n = m := ⟨x.n.toNat, by omega⟩
          have HM := Lib.hid hm
          have HXM := Lib.hid hxm
          have CF := Lib.hid (rfits_any x.v m wc hxv (by omega))
          rw [hxm] at c1
          clear hm hmm hxm
          by_cases hf : x.v < 2 ^ m
          · have HF := Lib.hid hf
            rw [decide_eq_true hf] at CF
            clear hf
            go_wp2_with fail
            refine CF.out.mono ?_
            rintro e w' ⟨rfl, rfl⟩
            go_wp2
            go_meet
            exact ⟨rfl, by rw [show fitE x.v x.n = 0 by unfold fitE; rw [if_neg (by rw [HM.out]; simp), if_pos (by rw [HXM.out, Int.toNat_natCast]; exact HF.out)]]⟩
          · have HF := Lib.hid hf
            rw [decide_eq_false hf] at CF
            clear hf
            go_wp2_with fail
            refine CF.out.mono ?_
            rintro e w' ⟨rfl, rfl⟩
            go_wp2
            go_meet
            exact ⟨rfl, by rw [show fitE x.v x.n = 8 by unfold fitE; rw [if_neg (by rw [HM.out]; simp), if_neg (by rw [HXM.out, Int.toNat_natCast]; exact HF.out)]]⟩
       case rest =>
        obtain ⟨hwc, rfl⟩ := hcut
        subst hwc
        go_upto_block 2 with (fail)
        go_cut [4, 7, 8] (fun s4 s7 s8 wx => ∃ (E : Int) (F2 : List Bool) (av2 : Option Addr) (nv2 cv2 : Nat), s7 = .int .i64 E ∧ s8 = .int .i64 E ∧ s4 = .slice av2 nv2 cv2 ∧ Bw w wx B F2 av2 nv2 cv2 ∧ nv2 ≤ (k + 1) * 900)
        case first =>
          by_cases h0 : x.act = 0
          · have e0 : (x.act == 0) = true := by rw [beq_iff_eq]; exact h0
            clear h0
            have CP := Lib.hid (putS SC.out.ws x.v x.n hxv (by rw [SC.out.bo.2.1]; omega))
            have hlen : F.length = nv := SC.out.bo.2.1
            have HLEN := Lib.hid hlen
            clear hlen
            go_wp2_with fail
            refine CP.out.mono ?_
            rintro e w2 ⟨rfl, hk2⟩
            obtain ⟨c0, c1, c2, c3⟩ := step_cells (hk2.2.2 _ _ _ SX.out HBB.out (by decide))
            have SB2 := Lib.hid (SC.out.bo.keepW SC.out.ws.box hk2)
            have SW2 := Lib.hid hk2.1
            clear hk2 CP
            by_cases hz : fitE x.v x.n = 0
            · obtain ⟨m, hxm, hm32, hvm⟩ := fitE_ok hz
              have HR := Lib.hid (show putL x.v x.n F = F ++ bitsL x.v m by unfold putL; rw [if_pos hz, hxm, Int.toNat_natCast])
              rw [HR.out] at SW2
              rw [hxm] at c1
              have CB := Lib.hid (rbits_any x.v m w2 hxv (by omega))
              have HFZ := Lib.hid hz
              rw [hz]
              clear hz hxm hvm HR
              go_wp2_with fail
              refine CB.out.mono ?_
              rintro e w3 ⟨a3, n3, c3', rfl, hB3⟩
              have hn3 : n3 = m := by rw [← hB3.2.1, bitsL_length]
              subst hn3
              have HB3 := Lib.hid hB3
              have SB3 := Lib.hid (SB2.out.below hB3.2.2.2)
              have SW3 := Lib.hid (SW2.out.below hB3.2.2.2)
              clear hB3 CB
              go_wp2_with (at_builtin; refine wpList_append_bo rfl _ _ rfl _ F rfl SB3.out.1 a3 n3 c3' _ rfl HB3.out.came (by rw [HLEN.out]; omega) ?_; intro v' w' hr hg hbk; obtain ⟨a', cap', hv', hI2⟩ := BoI.more0 SB3.out hr hg hbk; rw [bitsL_length] at hv' hI2; subst hv'; have HI2 := Lib.hid hI2; have SW5 := Lib.hid (SW3.out.grownBo SB3.out.1 hg); clear hr hg hbk hI2)
              go_meet
              exact ⟨0, _, a', nv + n3, cap', rfl, HFZ.out ▸ rfl, rfl, ⟨SW5.out, HI2.out⟩, by omega⟩
            · have HR := Lib.hid (show putL x.v x.n F = F by unfold putL; rw [if_neg hz])
              rw [HR.out] at SW2
              have hzb : (fitE x.v x.n == 0) = false := by rw [beq_eq_false_iff_ne]; exact hz
              clear hz HR
              go_wp2
              go_meet
              exact ⟨_, F, av, nv, cv, rfl, rfl, rfl, ⟨SW2.out, SB2.out⟩, by omega⟩
          · by_cases h1 : x.act = 1
            · have e0 : (x.act == 0) = false := by rw [beq_eq_false_iff_ne]; exact h0
              have e1 : (x.act == 1) = true := by rw [beq_iff_eq]; exact h1
              clear h0 h1
              have CP := Lib.hid (turnS SC.out.ws x.v x.n hxv (by rw [SC.out.bo.2.1]; omega))
              have hlen : F.length = nv := SC.out.bo.2.1
              have HLEN := Lib.hid hlen
              clear hlen
              go_wp2_with fail
              refine CP.out.mono ?_
              rintro e w2 ⟨rfl, hk2⟩
              obtain ⟨c0, c1, c2, c3⟩ := step_cells (hk2.2.2 _ _ _ SX.out HBB.out (by decide))
              have SB2 := Lib.hid (SC.out.bo.keepW SC.out.ws.box hk2)
              have SW2 := Lib.hid hk2.1
              clear hk2 CP
              by_cases hz : fitE x.v x.n = 0
              · obtain ⟨m, hxm, hm32, hvm⟩ := fitE_ok hz
                have HR := Lib.hid (show turnL x.v x.n F = F ++ (bitsL x.v m).reverse by unfold turnL; rw [if_pos hz, hxm, Int.toNat_natCast])
                rw [HR.out] at SW2
                rw [hxm] at c1
                have CB := Lib.hid (rbits_any x.v m w2 hxv (by omega))
                have HFZ := Lib.hid hz
                rw [hz]
                clear hz hxm hvm HR
                go_wp2_with fail
                refine CB.out.mono ?_
                rintro e w3 ⟨a3, n3, c3', rfl, hB3⟩
                have hn3 : n3 = m := by rw [← hB3.2.1, bitsL_length]
                subst hn3
                have HB3 := Lib.hid hB3
                have SB3 := Lib.hid (SB2.out.below hB3.2.2.2)
                have SW3 := Lib.hid (SW2.out.below hB3.2.2.2)
                clear hB3 CB
                have CK := Lib.hid (rback_any a3 n3 c3' _ w3 HB3.out.came (by omega))
                go_wp2_with fail
                refine CK.out.mono ?_
                rintro e w4 ⟨a4, n4, c4', rfl, hB4⟩
                have hn4 : n4 = n3 := by rw [← hB4.2.1, List.length_reverse, bitsL_length]
                subst hn4
                have HB4 := Lib.hid hB4
                have SB4 := Lib.hid (SB3.out.below hB4.2.2.2)
                have SW4 := Lib.hid (SW3.out.below hB4.2.2.2)
                clear hB4 CK
                go_wp2_with (at_builtin; refine wpList_append_bo rfl _ _ rfl _ F rfl SB4.out.1 a4 n4 c4' _ rfl HB4.out.came (by rw [HLEN.out]; omega) ?_; intro v' w' hr hg hbk; obtain ⟨a', cap', hv', hI2⟩ := BoI.more0 SB4.out hr hg hbk; rw [List.length_reverse, bitsL_length] at hv' hI2; subst hv'; have HI2 := Lib.hid hI2; have SW5 := Lib.hid (SW4.out.grownBo SB4.out.1 hg); clear hr hg hbk hI2)
                go_meet
                exact ⟨0, _, a', nv + n4, cap', rfl, HFZ.out ▸ rfl, rfl, ⟨SW5.out, HI2.out⟩, by omega⟩
              · have HR := Lib.hid (show turnL x.v x.n F = F by unfold turnL; rw [if_neg hz])
                rw [HR.out] at SW2
                have hzb : (fitE x.v x.n == 0) = false := by rw [beq_eq_false_iff_ne]; exact hz
                clear hz HR
                go_wp2
                go_meet
                exact ⟨_, F, av, nv, cv, rfl, rfl, rfl, ⟨SW2.out, SB2.out⟩, by omega⟩

            · have e0 : (x.act == 0) = false := by rw [beq_eq_false_iff_ne]; exact h0
              have e1 : (x.act == 1) = false := by rw [beq_eq_false_iff_ne]; exact h1
              have HXB := Lib.hid (GX.out.b)
              have HLEN := Lib.hid (show F.length = nv from SC.out.bo.2.1)
              clear h0 h1
              go_upto_region 16 with (fail)
              go_upto_if 47 with (fail)
              go_cut [9] (fun s9 wx => wx = wc ∧ ∃ (ba : Option Addr) (bm bc : Nat) (bl : List UInt8), s9 = .slice ba bm bc ∧ BytesAt w ba bm bc bl ∧ bm ≤ 100)
              case first =>
                by_cases h100 : 100 < x.m
                · have h100i : (100 : Int) < (x.m : Int) := by omega
                  have hcap : x.m ≤ x.c := HXB.out.2.1
                  go_wp2
                  go_meet
                  exact ⟨rfl, _, _, _, _, rfl, HXB.out.head (by omega), by omega⟩
                · have h100i : ¬ (100 : Int) < (x.m : Int) := by omega
                  go_wp2
                  go_meet
                  exact ⟨rfl, _, _, _, _, rfl, HXB.out, by omega⟩
              case rest =>
                obtain ⟨hwc, ba, bm, bc, bl, rfl, hbl, hbm⟩ := hcut
                subst hwc
                have HBL := Lib.hid hbl
                have HBLEN := Lib.hid hbl.1
                have CP := Lib.hid (octsS SC.out.ws ba bm bc bl (hbl.below SC.out.bo.2.2.2) (by rw [HLEN.out]; omega) (by omega))
                clear hbl
                go_wp2_with fail
                refine CP.out.mono ?_
                rintro e w2 ⟨rfl, hk2⟩
                have SB2 := Lib.hid (SC.out.bo.keepW SC.out.ws.box hk2)
                have SW2 := Lib.hid hk2.1
                clear hk2 CP
                have CW := Lib.hid (rwhole_any av nv cv F w2 SB2.out.came (by omega))
                go_wp2_with fail
                refine CW.out.mono ?_
                rintro e w3 ⟨a3, n3, c3', rfl, hB3⟩
                have hn3 : n3 = octN nv * 8 := by rw [← hB3.2.1, wholeL_length, HLEN.out]
                have hn3b : n3 ≤ nv + 7 := by rw [hn3]; unfold octN; omega
                have HB3 := Lib.hid hB3
                have SW3 := Lib.hid (SW2.out.below hB3.2.2.2)
                have HBW3 := Lib.hid (SB2.out.2.2.2.trans (hB3.2.2.2.mono SB2.out.2.2.2.size))
                clear hB3 CW hn3
                have CO := Lib.hid (rofb_any ba bm bc bl w3 (HBL.out.below HBW3.out) (by omega))
                go_wp2_with fail
                refine CO.out.mono ?_
                rintro e w4 ⟨a4, n4, c4', rfl, hB4⟩
                have hn4 : n4 = 8 * bm := by rw [← hB4.2.1, ofL_length, HBLEN.out]
                have hn4b : n4 ≤ 800 := by omega
                have HB4 := Lib.hid hB4
                have SW4 := Lib.hid (SW3.out.below hB4.2.2.2)
                have HB34 := Lib.hid (show BoI w w4 a3 n3 c3' (wholeL F) from ⟨HB3.out.1.below hB4.2.2.2, HB3.out.2.1, fun k hk => Nat.le_trans SB2.out.2.2.2.size (HB3.out.2.2.1 k hk), HBW3.out.trans (hB4.2.2.2.mono HBW3.out.size)⟩)
                clear hB4 CO hn4
                go_wp2_with (at_builtin; refine wpList_append_bo rfl _ _ rfl _ (wholeL F) rfl HB34.out.1 a4 n4 c4' (ofL bl) rfl HB4.out.came (by rw [HB34.out.2.1]; omega) ?_; intro v' w' hr hg hbk; obtain ⟨a', cap', hv', hI2⟩ := BoI.more0 HB34.out hr hg hbk; rw [HB4.out.2.1] at hv' hI2; subst hv'; have HI2 := Lib.hid hI2; have SW5 := Lib.hid (SW4.out.grownBo HB34.out.1 hg); clear hr hg hbk hI2)
                go_meet
                exact ⟨0, _, a', n3 + n4, cap', rfl, rfl, rfl, ⟨SW5.out, HI2.out⟩, by omega⟩
        case rest =>
          obtain ⟨E, F2, av2, nv2, cv2, rfl, rfl, rfl, hb2, hn2⟩ := hcut
          go_upto_region 29 with (fail)
          have HB2 := Lib.hid hb2
          clear hb2
          have hlen : F2.length = nv2 := HB2.out.bo.2.1
          have HD := Lib.hid (HB2.out.below ((Below.refl _ wc).drew))
          have CC := Lib.hid (countS HD.out.ws)
          have CY := Lib.hid (bytesS HD.out.ws (by rw [hlen]; omega))
          rw [hlen] at CC
          have HLEN := Lib.hid hlen
          clear hlen
          refine region_headS 18 [0, 1, 2, 3, 4, 6, 7, 5, 8, 9, 10, 11, 14, 12, 13, 15, 16, 17] [5, 12, 15] (fun u => Below wc.heap.size wc u) (by kernel_rfl) (by kernel_rfl) ((Below.refl _ _).drew) ?_
          simp only [pickO, List.filterMap_cons, List.filterMap_nil, List.getElem?_cons_zero, List.getElem?_cons_succ, Option.map_some, List.drop_succ_cons, List.drop_zero]
          iterate 2
            refine seqS_read _ rfl rfl (by rintro u hu; clear hu; go_simp; with_reducible rfl) ?_
            try simp only [Act.put, List.setIfInBounds_toArray, List.set_cons_zero, List.set_cons_succ]
          refine seqS_read (.bool false) rfl rfl (by rintro u hu; clear hu; go_simp; try simp) ?_
          try simp only [Act.put, List.setIfInBounds_toArray, List.set_cons_zero, List.set_cons_succ]
          refine seqS_read _ rfl rfl (by rintro u hu; clear hu; go_simp; with_reducible rfl) ?_
          try simp only [Act.put, List.setIfInBounds_toArray, List.set_cons_zero, List.set_cons_succ]
          iterate 3
            refine seqS_readG _ rfl (by rfl) (by rintro u hu; clear hu; go_simp; with_reducible rfl) ?_
            try simp only [Act.put, List.setIfInBounds_toArray, List.set_cons_zero, List.set_cons_succ]
          refine seqS_moveG rfl (by rfl) (fun K' hK => ?_)
          go_simp
          refine CC.out.mono ?_
          rintro e w5 ⟨rfl, rfl⟩
          refine hK _ _ _ (fun u hu => hu) ((Below.refl _ _).drew) ?_
          clear hK K' CC
          try simp only [Act.put, List.setIfInBounds_toArray, List.set_cons_zero, List.set_cons_succ]
          refine seqS_readG (.bool false) rfl (by rfl) (by rintro u hu; clear hu; go_simp; try simp) ?_
          try simp only [Act.put, List.setIfInBounds_toArray, List.set_cons_zero, List.set_cons_succ]
          refine seqS_read (.bool false) rfl rfl (by rintro u hu; clear hu; go_simp; try simp) ?_
          try simp only [Act.put, List.setIfInBounds_toArray, List.set_cons_zero, List.set_cons_succ]
          refine seqS_read _ rfl rfl (by rintro u hu; clear hu; go_simp; with_reducible rfl) ?_
          try simp only [Act.put, List.setIfInBounds_toArray, List.set_cons_zero, List.set_cons_succ]
          iterate 2
            refine seqS_readG _ rfl (by rfl) (by rintro u hu; clear hu; go_simp; with_reducible rfl) ?_
            try simp only [Act.put, List.setIfInBounds_toArray, List.set_cons_zero, List.set_cons_succ]
          refine seqS_moveG rfl (by rfl) (fun K' hK => ?_)
          go_simp
          refine CY.out.mono ?_
          rintro e w6 ⟨a6, c6, rfl, h6, hb6⟩
          have hb6w : Below wc.heap.size wc w6 := ((Below.refl _ wc).drew).trans hb6
          refine hK _ _ (fun u => Below w6.heap.size w6 u) (fun u hu => hb6w.trans (hu.mono hb6w.size)) (Below.refl _ _) ?_
          clear hK K' CY
          have H6 := Lib.hid h6
          have HD6 := Lib.hid (HD.out.below hb6)
          have CZ := Lib.hid (rbytes_any av2 nv2 cv2 F2 w6 HD6.out.bo.came (by omega))
          have HB6 := Lib.hid hb6w
          clear h6 hb6 hb6w
          generalize packB F2 = P2 at *
          generalize octN F2.length = q2 at *
          try dsimp only [id]
          try simp only [Act.put, List.setIfInBounds_toArray, List.set_cons_zero, List.set_cons_succ]
          refine seqS_readG (.string ⟨P2.toArray⟩) rfl (by rfl) (by rintro u hu; have hcv := (H6.out.below hu).conv; clear hu; go_simp; try rfl) ?_
          try simp only [Act.put, List.setIfInBounds_toArray, List.set_cons_zero, List.set_cons_succ]
          refine seqS_moveG rfl (by rfl) (fun K' hK => ?_)
          go_simp
          refine CZ.out.mono ?_
          rintro e w7 ⟨rfl, hb7⟩
          refine hK _ _ (fun u => Below w6.heap.size w6 u) (fun u hu => hu) hb7 ?_
          clear hK K' CZ
          have HD7 := Lib.hid (HD6.out.below hb7)
          clear hb7
          try simp only [Act.put, List.setIfInBounds_toArray, List.set_cons_zero, List.set_cons_succ]
          refine seqS_readG (.bool false) rfl (by rfl) (by rintro u hu; clear hu; go_simp; try simp) ?_
          try simp only [Act.put, List.setIfInBounds_toArray, List.set_cons_zero, List.set_cons_succ]
          refine seqS_read (.bool false) rfl rfl (by rintro u hu; clear hu; go_simp; try simp) ?_
          try simp only [Act.put, List.setIfInBounds_toArray, List.set_cons_zero, List.set_cons_succ]
          refine seqS_nil ?_
          go_wp2
          go_roundw
          case rel => exact ⟨k + 1, F2, av2, nv2, cv2, by omega, by omega, by go_num, rfl, HD7.out, by omega⟩
          case measure => simp [intOf]; omega
    · have CA := Lib.hid (awake08 wr)
      have HBL := Lib.hid (HI.out.bo.2.2.2)
      have hex : Hid (¬ (k < n ∧ k < 60)) := hgo
      by_cases hlt : k < n
      · have h60 : ¬ k < 60 := fun hh => hex.out ⟨hlt, hh⟩
        have hlti : (k : Int) < (n : Int) := by omega
        have h60i : ¬ (k : Int) < 60 := by omega
        clear hgo
        go_wp2_with fail
        refine CA.out.mono ?_
        rintro e w2 ⟨rfl, hb2⟩
        go_wp2
        go_ret
        exact ⟨rfl, HBL.out.trans (hb2.mono HBL.out.size)⟩
      · have hlti : ¬ (k : Int) < (n : Int) := by omega
        clear hgo
        go_wp2_with fail
        refine CA.out.mono ?_
        rintro e w2 ⟨rfl, hb2⟩
        go_wp2
        go_ret
        exact ⟨rfl, HBL.out.trans (hb2.mono HBL.out.size)⟩

theorem own : ownKnob Try.prog.godebug = none := by kernel_rfl
theorem laidOut : laidOutB Try.prog = true := by kernel_rfl

set_option maxRecDepth 100000 in
theorem lifted (os : Os) (started : os.Started) (H : Type) (enc : TypeId × Value → H) :
    ReturnsInHanded {} Try.checked os 3 .any (Rows.bitsWritesSpec.pre6 enc Try.prog Try.f3 Rows.bitsWritesRow.domain false) (Rows.bitsWritesSpec.post enc Try.prog Try.f3 false true false false) := by
  refine returnsInHanded_of_change (C := Try.checked) own started (by kernel_rfl) Try.func3
    (ChangeSpec.witness6 (enc := enc) (C := Try.checked) false ⟨#[], #[.slice none 0 0], []⟩ 8 (by kernel_rfl) (by kernel_rfl) (by kernel_rfl) (by kernel_rfl)) ?_
  intro W base args ds gs before hval0 hW hcnd _
  have hval : ∀ (j : Nat) t v, Try.f3.params[j]? = some t → args[j]? = some v → Value.okWide Try.prog W .any base t v := hval0
  have hW' := hW
  obtain ⟨p, q, hA0, hV, rfl, hfz, hnd⟩ := hW
  have hA : DataW.TrodAll enc Try.prog W 0 (fun _ => true) true Try.f3.params.toList args.toList ds p := hA0
  rw [Try.params3] at hA hval
  obtain ⟨v0, vs0, d0, ds0, p0, q0, hargs, rfl, rfl, h0, r0⟩ := trodAll_cons hA
  obtain ⟨rfl, rfl, rfl⟩ := trodAll_nil r0
  obtain rfl : args = #[v0] := by cases args; simp_all
  obtain ⟨rfl, rfl⟩ := trodVars_none hV
  have k0 := h0
  have lt0 : ∀ x ∈ p0, x.block < W.heap.size := by obtain ⟨m, hm⟩ := k0; exact DataW.trod_lt m _ _ _ hm
  obtain ⟨a0, len0, cap0, l0, rfl, w0, g0⟩ := steps_of (hval 0 22 v0 rfl rfl) h0
  clear hA0 hval0
  refine (walk a0 len0 cap0 l0 W w0 g0).mono fun e W' ⟨he, bel⟩ => ?_
  subst he
  exact ⟨_, rfl, _, _, _, [], _, [], hW', trodAll_mk1 (shut_bool Try.underlying4 _), (trodAll_cons_mk (Below.trod laidOut (by kernel_rfl) (of_decide_eq_true (by kernel_rfl)) k0 bel lt0) trodAll_mk0), rfl, bel.frame _, fun h => by cases h⟩

theorem proved : Rows.BitsWritesSaid :=
  OpenClaim.holds_of_wide 3 Try.f3 rfl rfl rfl rfl rfl rfl rfl ⟨rfl, rfl, rfl, rfl, rfl⟩ rfl rfl rfl rfl rfl (by kernel_rfl) Try.func3 (by kernel_rfl)
    (of_decide_eq_true (by kernel_rfl)) (by unfold Func.isWrapper; first | (rw [if_pos (by decide +kernel)]; kernel_rfl) | (rw [if_neg (by decide +kernel)]; exact ⟨rfl, rfl⟩))
    (fun os started H enc _ => lifted os started H enc)

end Go.Proofs.Ytkkjmkihehbomaa.bitsWrites
