/-
  What is put is taken as it was; what is put turned comes the highest bit first (P8.3).
  No condition: every slice of steps.
-/
import Derived.Test.YtkkjmkihehbomaaBtW
import Derived.Test.YtkkjmkihehbomaaHdS
import Derived.Deep.DeepCutAuto
import Derived.Deep.CutBlock
namespace Go.Proofs.Ytkkjmkihehbomaa.bitsBack
open Go.ChangeShapes Go.WideShapes Go.ChangeAt Go.RowKit Go.Deep
set_option linter.unusedVariables false
set_option linter.unusedSimpArgs false
set_option maxRecDepth 100000

/-- the writer beside the steps that were kept -/
structure Bk (w wr : World) (B : Nat) (K : List StepM) (a : Option Addr) (n c : Nat) : Prop where
  ws : WrS w.heap.size wr B (allL K)
  st : StI w wr a n c K
  ok : ∀ x ∈ K, fitE x.v x.n = 0
theorem Bk.below {w wr w' : World} {B : Nat} {K : List StepM} {a : Option Addr} {n c : Nat} (h : Bk w wr B K a n c) (hb : Below wr.heap.size wr w') : Bk w w' B K a n c :=
  ⟨h.ws.below hb, h.st.below hb, h.ok⟩
theorem Bk.len {w wr : World} {B : Nat} {K : List StepM} {a : Option Addr} {n c : Nat} (h : Bk w wr B K a n c) : (allL K).length ≤ n * 32 := by
  have := allL_len K fun x hx => by obtain ⟨m, hm, h32, _⟩ := fitE_ok (h.ok x hx); omega
  rwa [h.st.2.1] at this

set_option maxHeartbeats 4000000 in
theorem walk (a : Option Addr) (n cap : Nat) (L : List StepM) (w : World) (h : CameAt stepC 4 w a n cap L) (hg : ∀ x ∈ L, x.Good w) :
    Calls Try.prog 5 #[.slice a n cap] w fun e w' => e = .returned (.bool true) ∧ Below w.heap.size w w' := by
  have HL := Lib.hid h
  have HG := Lib.hid hg
  have CN := Lib.hid (newS w w.heap.size (Nat.le_refl _))
  clear h hg
  go_enter Try.func5, Try.ntmps5
  go_wp2_with fail
  refine CN.out.mono ?_
  rintro e w1 ⟨rfl, hs1, hb1⟩
  have I1 := Lib.hid (show Bk w w1 w.heap.size [] none 0 0 from ⟨hs1, ⟨Recs.nil _ _ _ _, rfl, fun k hk => by simp [Value.ownBlock] at hk, hb1⟩, by simp⟩)
  clear hs1 hb1 CN
  generalize hB : w.heap.size = B at I1
  have HB := Lib.hid hB
  clear hB
  go_wp2
  go_loopw [4, 5] (fun s4 s5 wr => ∃ (k : Nat) (K : List StepM) (av : Option Addr) (nv cv : Nat), k ≤ n ∧ k ≤ 60 ∧ s5 = .int .i64 k ∧ s4 = .slice av nv cv ∧ Bk w wr B K av nv cv ∧ nv ≤ k) (fun _ s5 _ => 60 - (intOf s5).toNat)
  case atStart => exact ⟨0, [], none, 0, 0, Nat.zero_le _, by omega, rfl, rfl, I1.out, by omega⟩
  case round =>
    obtain ⟨k, K, av, nv, cv, hk, hk60, rfl, rfl, hinv, hnv⟩ := hrel
    have HI := Lib.hid hinv
    clear hinv
    by_cases hgo : k < n ∧ k < 60
    · obtain ⟨hlt, h60⟩ := hgo
      have hL := HL.out.below (by omega) HI.out.st.2.2.2
      obtain ⟨b, off, rfl, hbl, hcell⟩ := steps_at hL (by omega)
      obtain ⟨_, _, _, _, hrx⟩ := hcell k hlt
      have GX := Lib.hid (HG.out _ (cameD HL.out k hlt))
      have RX := Lib.hid hrx
      have hlti : (k : Int) < (n : Int) := by omega
      have h60i : (k : Int) < 60 := by omega
      clear hL hcell hrx hbl
      generalize L.getD k default = x at *
      go_upto_region 10 with (first
        | (refine wpList_load_mid rfl 29 _ rfl b (off + k * 4) rfl (stepC x) _ RX.out Try.underlying29 rfl sizeStep ?_)
        | (refine wpList_store_row rfl _ _ _ rfl wr.heap.size (stepC x).toArray rfl rfl 29 _ (heap_alloc_new wr _) sizeStep rfl (by simpa using stepC_one x) ?_
           generalize hwB : World.setRow _ wr.heap.size (stepC x).toArray = wB
           have hsc : Bk w wB B K av nv cv ∧ wB.heap[wr.heap.size]? = some (.cells (stepC x).toArray 29 (0, 0)) ∧ ∀ k, (Value.slice av nv cv).ownBlock = some k → k ≠ wr.heap.size := by
             rw [← hwB]
             exact ⟨HI.out.below (below_setRow ((Below.refl _ _).alloc (Nat.le_refl _) _) (Nat.le_refl _) _), heap_setRow_same _ _ _ _ _ (heap_alloc_new wr _), fun k hk => by have := HI.out.st.1.lt k hk; omega⟩
           have SC := Lib.hid hsc.1
           have SX := Lib.hid hsc.2.1
           have SO := Lib.hid hsc.2.2
           clear hsc hwB))
      obtain ⟨Bx, hBx⟩ : ∃ Bx, Bx = wr.heap.size := ⟨_, rfl⟩
      rw [← hBx] at SX SO ⊢
      obtain ⟨c0, c1, c2, c3, c4⟩ := step_cells SX.out
      have hxv := GX.out.v
      have HBB := Lib.hid (show Bx ≠ B from fun e => by obtain ⟨cc, hc⟩ := SC.out.ws.box; rw [← e, SX.out] at hc; injection hc with hc; injection hc with _ hc; exact absurd hc (by decide))
      clear hBx
      go_upto_if 36 with (fail)
      go_cut [7] (fun s7 wx => ∃ F2 : List Bool, s7 = .int .i64 (fitE x.v x.n) ∧ F2 = (if fitE x.v x.n = 0 then allL (K ++ [x]) else allL K) ∧ WrK w.heap.size B F2 wB wx)
      case first =>
        have hlen := SC.out.len
        by_cases h0 : x.act = 0
        · have e0 : (x.act == 0) = true := by rw [beq_iff_eq]; exact h0
          have CP := Lib.hid (putS SC.out.ws x.v x.n hxv (by omega))
          have HR := Lib.hid (show putL x.v x.n (allL K) = (if fitE x.v x.n = 0 then allL (K ++ [x]) else allL K) by
            by_cases hz : fitE x.v x.n = 0
            · rw [if_pos hz, allL_put h0 hz]
            · rw [if_neg hz]; unfold putL; rw [if_neg hz])
          clear h0
          go_wp2_with fail
          refine CP.out.mono ?_
          rintro e w2 ⟨rfl, hk2⟩
          have HK2 := Lib.hid hk2
          clear hk2
          go_wp2
          go_meet
          exact ⟨_, rfl, HR.out, HK2.out⟩
        · have e0 : (x.act == 0) = false := by rw [beq_eq_false_iff_ne]; exact h0
          have CP := Lib.hid (turnS SC.out.ws x.v x.n hxv (by omega))
          have HR := Lib.hid (show turnL x.v x.n (allL K) = (if fitE x.v x.n = 0 then allL (K ++ [x]) else allL K) by
            by_cases hz : fitE x.v x.n = 0
            · rw [if_pos hz, allL_turn h0 hz]
            · rw [if_neg hz]; unfold turnL; rw [if_neg hz])
          clear h0
          go_wp2_with fail
          refine CP.out.mono ?_
          rintro e w2 ⟨rfl, hk2⟩
          have HK2 := Lib.hid hk2
          clear hk2
          go_wp2
          go_meet
          exact ⟨_, rfl, HR.out, HK2.out⟩
      case rest =>
        obtain ⟨F2, rfl, hF2, hk2⟩ := hcut
        have SX2 := Lib.hid (hk2.2.2 _ _ _ SX.out HBB.out (by decide))
        have ST2 := Lib.hid (SC.out.st.keepW SC.out.ws.box hk2)
        obtain ⟨d0, d1, d2, d3, d4⟩ := step_cells SX2.out
        by_cases hz : fitE x.v x.n = 0
        · rw [if_pos hz] at hF2
          subst hF2
          have HZ := Lib.hid hz
          have SW2 := Lib.hid hk2.1
          have HD4 := Lib.hid d4
          rw [hz]
          obtain ⟨i0, hi, hz0, hz1, hz2⟩ := info_parts infoStep
          have hal : Below wc.heap.size wc (wc.alloc (.cells (stepC x).toArray 29)) := (Below.refl _ _).alloc (Nat.le_refl _) _
          have HAL := Lib.hid hal
          have HNW := Lib.hid (heap_alloc_new wc (.cells (stepC x).toArray 29))
          clear hz hk2 c0 c1 c2 c3 c4 d0 d1 d2 d3 d4 hal
          go_wp2_with (first
            | (refine wpList_load_mid rfl 29 _ rfl Bx 0 rfl (stepC x) _ HD4.out Try.underlying29 rfl sizeStep ?_)
            | (refine wpList_buildSliceV rfl 22 1 _ rfl #[(0, .agg (stepC x).toArray)] (by simp [go_sem]) _ _ (built_step _ rfl _) ?_)
            | (at_builtin; refine wpList_append_recs (f := stepC) rfl _ _ 22 rfl 29 i0 (.agg #[.int .i64 0, .int .i64 0, .int .u64 0, .slice none 0 0]) 4 48 Try.underlying22 hi hz0 hz1 hz2 rfl (by omega) (.slice av nv cv) K rfl (ST2.out.1.below HAL.out) ⟨wc.heap.size, 0, none⟩ 1 1 [x] rfl rfl (fun y _ => rfl) (fun y _ => stepC_one y) (one_rec HNW.out) (by rw [ST2.out.2.1]; unfold maxLen; omega) (by rw [ST2.out.2.1]; omega) ?_; intro v8 w8' hr8 hg8 hv8; obtain ⟨a8, c8, hv9, hI8⟩ := StI.more ST2.out hr8 hg8 hv8; simp only [List.length_singleton] at hv9 hI8; subst hv9; have HI8 := Lib.hid hI8; have SW8 := Lib.hid ((SW2.out.below HAL.out).grownSt (ST2.out.1.below HAL.out) hg8); clear hr8 hg8 hv8 hI8))
          go_roundw
          case rel => exact ⟨k + 1, K ++ [x], a8, nv + 1, c8, by omega, by omega, by go_num, rfl, ⟨SW8.out, HI8.out, fun y hy => by
            rcases List.mem_append.1 hy with hy | hy
            · exact SC.out.ok y hy
            · rw [List.mem_singleton.1 hy]; exact HZ.out⟩, by omega⟩
          case measure => simp [intOf]; omega
        · rw [if_neg hz] at hF2
          subst hF2
          have SW2 := Lib.hid hk2.1
          have hzb : (fitE x.v x.n == 0) = false := by rw [beq_eq_false_iff_ne]; exact hz
          clear hz hk2 c0 c1 c2 c3 c4 d0 d1 d2 d3 d4
          go_wp2
          go_roundw
          case rel => exact ⟨k + 1, K, av, nv, cv, by omega, by omega, by go_num, rfl, ⟨SW2.out, ST2.out, SC.out.ok⟩, by omega⟩
          case measure => simp [intOf]; omega
    · have hex : Hid (¬ (k < n ∧ k < 60)) := hgo
      clear hgo
      go_upto_region 6 with (fail)
      go_cut [27] (fun s27 wx => wx = wr ∧ s27 = .bool false)
      case first =>
        by_cases hlt : k < n
        · have h60 : ¬ k < 60 := fun hh => hex.out ⟨hlt, hh⟩
          have hlti : (k : Int) < (n : Int) := by omega
          have h60i : ¬ (k : Int) < 60 := by omega
          go_wp2
          go_meet
          exact ⟨rfl, rfl⟩
        · have hlti : ¬ (k : Int) < (n : Int) := by omega
          go_wp2
          go_meet
          exact ⟨rfl, rfl⟩
      case rest =>
        obtain ⟨hwc, rfl⟩ := hcut
        subst hwc
        have hlen := HI.out.len
        have CY := Lib.hid (bytesS HI.out.ws (by omega))
        obtain ⟨F, hF⟩ : ∃ F, F = allL K := ⟨_, rfl⟩
        rw [← hF] at CY hlen
        have HF := Lib.hid hF
        have hFl : F.length ≤ 1920 := by omega
        clear hF hlen
        go_wp2_with fail
        refine CY.out.mono ?_
        rintro e w2 ⟨a2, c2, rfl, h2, hb2⟩
        have HI2 := Lib.hid (HI.out.below hb2)
        have CR := Lib.hid (readS a2 _ c2 _ w2 h2 (by unfold octN; omega))
        clear CY h2 hb2
        try dsimp only [id]
        go_wp2_with fail
        refine CR.out.mono ?_
        rintro e w3 ⟨Br, rfl, hr3, hb3⟩
        have HR3 := Lib.hid (show RdS w2.heap.size w3 Br (packB F) (allL (K.take 0)).length ∧ Below w2.heap.size w2 w3 from ⟨hr3, hb3⟩)
        have HKL := Lib.hid (HI2.out.st.2.1)
        have HOK := Lib.hid (HI2.out.ok)
        have HPL := Lib.hid (show (packB F).length ≤ 1920 by rw [packB_len]; unfold octN; omega)
        clear CR hr3 hb3
        go_wp2
        go_loopw [9] (fun s9 wx => ∃ i : Nat, i ≤ nv ∧ s9 = .int .i64 i ∧ RdS w2.heap.size wx Br (packB F) (allL (K.take i)).length ∧ Below w2.heap.size w2 wx) (fun s9 _ => nv - (intOf s9).toNat)
        case atStart => exact ⟨0, Nat.zero_le _, rfl, HR3.out⟩
        case round =>
          obtain ⟨i, hi, rfl, hr, hbx⟩ := hrel
          rename World => wx
          have HR := Lib.hid hr
          have HBX := Lib.hid hbx
          clear hr hbx
          by_cases hilt : i < nv
          · have hL := CameAt.below (recs_came2 HI2.out.st.1) (by omega) HBX.out
            obtain ⟨b, off, rfl, hbl, hcell⟩ := steps_at hL (by omega)
            obtain ⟨_, _, _, _, hrx⟩ := hcell i hilt
            have RX := Lib.hid hrx
            obtain ⟨m, hxm, hm32, hvm⟩ := fitE_ok (HOK.out _ (cameD hL i hilt))
            have HSP := Lib.hid (allL_split K i (by rw [HKL.out]; exact hilt))
            have HTK := Lib.hid (allL_take K i (by rw [HKL.out]; exact hilt))
            rw [← HF.out] at HSP
            have hilti : (i : Int) < (nv : Int) := by omega
            clear hL hcell hrx hbl
            generalize K.getD i default = x at *
            generalize allL (K.take i) = A at *
            generalize allL (K.drop (i + 1)) = G at *
            have hx64 : x.v < 18446744073709551616 := Nat.lt_of_lt_of_le hvm (Nat.le_trans (Nat.pow_le_pow_right (n := 2) (by omega) hm32) (by decide))
            have HXM := Lib.hid hxm
            have HVM := Lib.hid hvm
            clear hxm hvm
            go_upto_region 22 with (first
              | (refine wpList_load_mid rfl 29 _ rfl b (off + i * 4) rfl (stepC x) _ RX.out Try.underlying29 rfl sizeStep ?_)
              | (refine wpList_store_row rfl _ _ _ rfl wx.heap.size (stepC x).toArray rfl rfl 29 _ (heap_alloc_new wx _) sizeStep rfl (by simpa using stepC_one x) ?_
                 generalize hwB : World.setRow _ wx.heap.size (stepC x).toArray = wB
                 have hsc : Below wx.heap.size wx wB ∧ wB.heap[wx.heap.size]? = some (.cells (stepC x).toArray 29 (0, 0)) := by
                   rw [← hwB]
                   exact ⟨below_setRow ((Below.refl _ _).alloc (Nat.le_refl _) _) (Nat.le_refl _) _, heap_setRow_same _ _ _ _ _ (heap_alloc_new wx _)⟩
                 have SB := Lib.hid hsc.1
                 have SX := Lib.hid hsc.2
                 clear hsc hwB))
            have HRB := Lib.hid (HR.out.below SB.out)
            have HBB2 := Lib.hid (HBX.out.trans (SB.out.mono HBX.out.size))
            obtain ⟨Bx, hBx⟩ : ∃ Bx, Bx = wx.heap.size := ⟨_, rfl⟩
            rw [← hBx] at SX ⊢
            have HBR := Lib.hid (show Bx ≠ Br from fun e => by
              obtain ⟨_, _, h1, _⟩ := HR.out
              have := h1.lt
              omega)
            obtain ⟨c0, c1, c2, c3, c4⟩ := step_cells SX.out
            rw [HXM.out] at c1
            clear hBx c3 c4
            by_cases h0 : x.act = 0
            · have e0 : (x.act == 0) = true := by rw [beq_iff_eq]; exact h0
              have HPX := Lib.hid (show partL x = bitsL x.v m by unfold partL; rw [if_pos h0, HXM.out, Int.toNat_natCast])
              clear h0
              have CT := takeS HRB.out m (by have := HPL.out; omega) (by rw [packB_len]; have := octN_le F.length; have : A.length ≤ F.length := by rw [HSP.out]; simp only [List.length_append]; omega
                                                                         omega)
              rw [HSP.out, HPX.out, takeR_put A G x.v m hm32 HVM.out, ← HPX.out, ← HSP.out] at CT
              have CT := Lib.hid CT
              go_wp2_with fail
              refine CT.out.mono ?_
              rintro e w5 ⟨rfl, hr5, hb5, ho5⟩
              obtain ⟨d0, d1, d2, d3, d4⟩ := step_cells ((ho5.block Bx (Array.getElem?_eq_some_iff.1 SX.out).1 HBR.out).trans SX.out)
              have R5 := Lib.hid hr5
              have B5 := Lib.hid (HBB2.out.trans hb5)
              clear CT hr5 hb5 ho5 c0 c1 c2 d0 d1 d3 d4
              go_wp2
              go_roundw
              case rel => exact ⟨i + 1, by omega, by go_num, by rw [HTK.out, List.length_append, HPX.out, bitsL_length]; exact R5.out, B5.out⟩
              case measure => simp [intOf]; omega
            · have e0 : (x.act == 0) = false := by rw [beq_eq_false_iff_ne]; exact h0
              have HPX := Lib.hid (show partL x = (bitsL x.v m).reverse by unfold partL; rw [if_neg h0, HXM.out, Int.toNat_natCast])
              clear h0
              go_wp2
              go_loopw [13, 14] (fun s13 s14 wy => ∃ k2 q : Nat, k2 ≤ m ∧ s14 = .int .i64 k2 ∧ s13 = .int .u64 q ∧ q = x.v / 2 ^ (m - k2) ∧ RdS w2.heap.size wy Br (packB F) (A.length + k2) ∧ Below w2.heap.size w2 wy ∧ wy.heap[Bx]? = some (.cells (stepC x).toArray 29 (0, 0))) (fun _ s14 _ => m - (intOf s14).toNat)
              case atStart => exact ⟨0, 0, Nat.zero_le _, rfl, rfl, (turn_start x.v m HVM.out).symm, HRB.out, HBB2.out, SX.out⟩
              case round =>
                obtain ⟨k2, q, hk2, rfl, rfl, hq, hry, hby, hsy⟩ := hrel
                rename World => wy
                obtain ⟨d0, d1, d2, d3, d4⟩ := step_cells hsy
                rw [HXM.out] at d1
                have HQ := Lib.hid hq
                have hqb : q ≤ 4294967296 := by
                  rw [hq]
                  have h1 := Nat.div_le_self x.v (2 ^ (m - k2))
                  have h2 : 2 ^ m ≤ 2 ^ 32 := Nat.pow_le_pow_right (by omega) hm32
                  have h3 : (2 : Nat) ^ 32 = 4294967296 := by decide
                  have := HVM.out
                  omega
                have RY := Lib.hid hry
                have BY := Lib.hid hby
                have SY := Lib.hid hsy
                clear hq hry hby hsy d3 d4 c0 c1 c2
                by_cases hklt : k2 < m
                · have hFl2 : A.length + k2 < F.length := by rw [HSP.out, HPX.out]; simp [bitsL_length]; omega
                  have CT := takeS RY.out 1 (by have := HPL.out; omega) (by rw [packB_len]; have := octN_le F.length; omega)
                  rw [takeR_one F _ hFl2] at CT
                  have hgd : F.getD (A.length + k2) false = x.v.testBit (m - 1 - k2) := by
                    rw [HSP.out, HPX.out, appD, if_pos (by simp [bitsL_length]; omega), appD, if_neg (by omega), Nat.add_sub_cancel_left, rev_at _ _ _ hklt]
                  have HST := Lib.hid (turn_step x.v m k2 hklt)
                  rw [hgd] at CT
                  rw [← HQ.out] at HST
                  have ht1 : (x.v.testBit (m - 1 - k2)).toNat ≤ 1 := Bool.toNat_le _
                  generalize (x.v.testBit (m - 1 - k2)).toNat = t at *
                  have CT := Lib.hid CT
                  have e2 : IntKind.u64.wrap (2 * (q : Int)) = 2 * (q : Int) := by rw [IntKind.wrap_u64]; omega
                  have e3 : IntKind.u64.wrap (2 * (q : Int) + (t : Int)) = 2 * (q : Int) + (t : Int) := by rw [IntKind.wrap_u64]; omega
                  have hk2i : (k2 : Int) < (m : Int) := by omega
                  have ht2 : ¬ (1 : Int) < (t : Int) := by omega
                  clear hgd hFl2
                  go_wp2_with fail
                  refine CT.out.mono ?_
                  rintro e w5 ⟨rfl, hr5, hb5, ho5⟩
                  have R5 := Lib.hid hr5
                  have B5 := Lib.hid (BY.out.trans hb5)
                  have S5 := Lib.hid ((ho5.block Bx (Array.getElem?_eq_some_iff.1 SY.out).1 HBR.out).trans SY.out)
                  clear CT hr5 hb5 ho5 d0 d1 d2
                  go_wp2
                  go_roundw
                  case rel => exact ⟨k2 + 1, 2 * q + t, by omega, by go_num, by go_num, HST.out, R5.out, B5.out, S5.out⟩
                  case measure => simp [intOf]; omega
                · obtain rfl : k2 = m := by omega
                  have hqe : q = x.v := by rw [HQ.out, turn_end]
                  subst hqe
                  have hk2i : ¬ (k2 : Int) < (k2 : Int) := by omega
                  go_wp2
                  go_roundw
                  case rel => exact ⟨i + 1, by omega, by go_num, by rw [HTK.out, List.length_append, HPX.out, List.length_reverse, bitsL_length]; exact RY.out, BY.out⟩
                  case measure => simp [intOf]; omega
          · obtain rfl : i = nv := by omega
            have hili : ¬ (i : Int) < (i : Int) := by omega
            have HTA := Lib.hid (show allL (K.take i) = F by rw [List.take_of_length_le (by rw [HKL.out]; omega), HF.out])
            have hr := HR.out
            rw [HTA.out] at hr
            have CL := Lib.hid (leftS hr (by have := HPL.out; omega) (by rw [packB_len]; have := octN_le F.length; omega))
            have hlt8 : 8 * (packB F).length - F.length < 8 := by rw [packB_len]; unfold octN; omega
            have HB5 := Lib.hid (HI2.out.st.2.2.2.trans (HBX.out.mono HI2.out.st.2.2.2.size))
            clear hr
            generalize 8 * (packB F).length - F.length = z at *
            have hlt8i : (z : Int) < 8 := by omega
            go_wp2_with fail
            refine CL.out.mono ?_
            rintro e w5 ⟨rfl, nq, rfl⟩
            have CA := Lib.hid (awake08 (wx.drewN nq))
            go_wp2_with fail
            refine CA.out.mono ?_
            rintro e w6 ⟨rfl, hb6⟩
            have HB6 := Lib.hid (HB5.out.trans ((below_drewN (Below.refl _ _) nq).trans (hb6.mono HB5.out.size)))
            go_wp2
            go_ret
            exact ⟨rfl, HB6.out⟩

theorem own : ownKnob Try.prog.godebug = none := by kernel_rfl
theorem laidOut : laidOutB Try.prog = true := by kernel_rfl

set_option maxRecDepth 100000 in
theorem lifted (os : Os) (started : os.Started) (H : Type) (enc : TypeId × Value → H) :
    ReturnsInHanded {} Try.checked os 5 .any (Rows.bitsBackSpec.pre6 enc Try.prog Try.f5 Rows.bitsBackRow.domain false) (Rows.bitsBackSpec.post enc Try.prog Try.f5 false true false false) := by
  refine returnsInHanded_of_change (C := Try.checked) own started (by kernel_rfl) Try.func5
    (ChangeSpec.witness6 (enc := enc) (C := Try.checked) false ⟨#[], #[.slice none 0 0], []⟩ 8 (by kernel_rfl) (by kernel_rfl) (by kernel_rfl) (by kernel_rfl)) ?_
  intro W base args ds gs before hval0 hW hcnd _
  have hval : ∀ (j : Nat) t v, Try.f5.params[j]? = some t → args[j]? = some v → Value.okWide Try.prog W .any base t v := hval0
  have hW' := hW
  obtain ⟨p, q, hA0, hV, rfl, hfz, hnd⟩ := hW
  have hA : DataW.TrodAll enc Try.prog W 0 (fun _ => true) true Try.f5.params.toList args.toList ds p := hA0
  rw [Try.params5] at hA hval
  obtain ⟨v0, vs0, d0, ds0, p0, q0, hargs, rfl, rfl, h0, r0⟩ := trodAll_cons hA
  obtain ⟨rfl, rfl, rfl⟩ := trodAll_nil r0
  obtain rfl : args = #[v0] := by cases args; simp_all
  obtain ⟨rfl, rfl⟩ := trodVars_none hV
  have k0 := h0
  have lt0 : ∀ x ∈ p0, x.block < W.heap.size := by obtain ⟨m, hm⟩ := k0; exact DataW.trod_lt m _ _ _ hm
  obtain ⟨a0, len0, cap0, l0, rfl, w0, g0⟩ := steps_of (hval 0 22 v0 rfl rfl) h0
  clear hA0 hval0
  refine (walk a0 len0 cap0 l0 W w0 g0).mono fun e W' ⟨he, bel⟩ => ?_
  subst he
  exact ⟨_, rfl, _, _, _, [], _, [], hW', trodAll_mk1 (shut_bool Try.underlying4 _), (trodAll_cons_mk (Below.trod laidOut (by kernel_rfl) (of_decide_eq_true (by kernel_rfl)) k0 bel lt0) trodAll_mk0), rfl, bel.frame _, fun h => by cases h⟩

theorem proved : Rows.BitsBackSaid :=
  OpenClaim.holds_of_wide 5 Try.f5 rfl rfl rfl rfl rfl rfl rfl ⟨rfl, rfl, rfl, rfl, rfl⟩ rfl rfl rfl rfl rfl (by kernel_rfl) Try.func5 (by kernel_rfl)
    (of_decide_eq_true (by kernel_rfl)) (by unfold Func.isWrapper; first | (rw [if_pos (by decide +kernel)]; kernel_rfl) | (rw [if_neg (by decide +kernel)]; exact ⟨rfl, rfl⟩))
    (fun os started H enc _ => lifted os started H enc)

end Go.Proofs.Ytkkjmkihehbomaa.bitsBack
