/-
  Octets that come stand whole, from a whole octet on, whatever came ahead, and are read so (P8.1, P8.2).
  No condition: every slice of steps, all octets.
-/
import Derived.Test.YtkkjmkihehbomaaBtW
import Derived.Test.YtkkjmkihehbomaaHdS
import Derived.Deep.DeepCutAuto
import Derived.Deep.CutBlock
namespace Go.Proofs.Ytkkjmkihehbomaa.bitsOctets
open Go.ChangeShapes Go.WideShapes Go.ChangeAt Go.RowKit Go.Deep
set_option linter.unusedVariables false
set_option linter.unusedSimpArgs false
set_option maxRecDepth 100000

theorem octN_eight (q : Nat) : octN (q * 8) = q := by unfold octN; omega
theorem putL_len (x : Nat) (n : Int) (F : List Bool) : (putL x n F).length ≤ F.length + 32 := by
  unfold putL
  split
  · rename_i h; obtain ⟨m, rfl, hm, _⟩ := fitE_ok h; rw [List.length_append, bitsL_length]; omega
  · omega
theorem octs_back (F : List Bool) (bl : List UInt8) (m : Nat) (hm : m = bl.length) : octsR (packB F ++ bl) F.length m = (bl, 0, (octN F.length + m) * 8) := by
  unfold octsR
  rw [if_neg (by omega), Int.toNat_natCast, if_neg (by rw [List.length_append, packB_len]; omega)]
  have h1 : (packB F ++ bl).drop (octN F.length) = bl := by rw [← packB_len, List.drop_left]
  rw [h1, hm, List.take_length]

set_option maxHeartbeats 4000000 in
theorem walk (a : Option Addr) (n cap : Nat) (L : List StepM) (a1 : Option Addr) (n1 cap1 : Nat) (l1 : List UInt8) (w : World) (h : CameAt stepC 4 w a n cap L) (hg : ∀ x ∈ L, x.Good w) (hb : BytesAt w a1 n1 cap1 l1) :
    Calls Try.prog 6 #[.slice a n cap, .slice a1 n1 cap1] w fun e w' => e = .returned (.bool true) ∧ Below w.heap.size w w' := by
  have HL := Lib.hid h
  have HG := Lib.hid hg
  have HB1 := Lib.hid hb
  have hcap1 : n1 ≤ cap1 := hb.2.1
  have CN := Lib.hid (newS w w.heap.size (Nat.le_refl _))
  clear h hg hb
  go_enter Try.func6, Try.ntmps6
  go_upto_region 1 with (fail)
  go_upto_if 17 with (fail)
  go_cut [1] (fun s1 wx => wx = w ∧ ∃ (ba : Option Addr) (bm bc : Nat) (bl : List UInt8), s1 = .slice ba bm bc ∧ BytesAt w ba bm bc bl ∧ bm ≤ 100)
  case first =>
    by_cases h100 : 100 < n1
    · have h100i : (100 : Int) < (n1 : Int) := by omega
      go_wp2
      go_meet
      exact ⟨rfl, _, _, _, _, rfl, HB1.out.head (by omega), by omega⟩
    · have h100i : ¬ (100 : Int) < (n1 : Int) := by omega
      go_wp2
      go_meet
      exact ⟨rfl, _, _, _, _, rfl, HB1.out, by omega⟩
  case rest =>
  obtain ⟨hwc, ba, bm, bc, bl, rfl, hbl, hbm⟩ := hcut
  subst hwc
  have HBL := Lib.hid hbl
  have HBLEN := Lib.hid hbl.1
  clear hbl
  go_wp2_with fail
  refine CN.out.mono ?_
  rintro e w1 ⟨rfl, hs1, hb1⟩
  have I1 := Lib.hid (And.intro hs1 hb1)
  clear hs1 hb1 CN
  generalize hB : wc.heap.size = B at I1
  have HB := Lib.hid hB
  clear hB
  go_wp2
  go_loopw [6] (fun s6 wr => ∃ (k : Nat) (F : List Bool), k ≤ n ∧ k ≤ 20 ∧ s6 = .int .i64 k ∧ WrS wc.heap.size wr B F ∧ Below wc.heap.size wc wr ∧ F.length ≤ k * 32) (fun s6 _ => 20 - (intOf s6).toNat)
  case atStart => exact ⟨0, [], Nat.zero_le _, by omega, rfl, by rw [HB.out]; exact I1.out.1, by rw [HB.out]; exact I1.out.2, by simp⟩
  case round =>
    obtain ⟨k, F, hk, hk20, rfl, hs, hbw, hFl⟩ := hrel
    rename World => wr
    have HS := Lib.hid hs
    have HBW := Lib.hid hbw
    clear hs hbw
    by_cases hgo : k < n ∧ k < 20
    · obtain ⟨hlt, h20⟩ := hgo
      have hL := HL.out.below (by omega) HBW.out
      obtain ⟨b, off, rfl, hbl, hcell⟩ := steps_at hL (by omega)
      obtain ⟨c0, c1, c2, c3, hrx⟩ := hcell k hlt
      have GX := Lib.hid (HG.out _ (cameD HL.out k hlt))
      have hlti : (k : Int) < (n : Int) := by omega
      have h20i : (k : Int) < 20 := by omega
      clear hL hcell hrx hbl c0 c3
      generalize L.getD k default = x at *
      have hxv := GX.out.v
      have CP := Lib.hid (putS (HS.out.below ((Below.refl _ wr).drew)) x.v x.n hxv (by omega))
      have HPL := Lib.hid (putL_len x.v x.n F)
      go_upto_region 9 with (fail)
      have d1 : wr.drew.cell? ⟨b, off + k * 4 + 1, none⟩ = some (.int .i64 x.n) := c1
      have d2 : wr.drew.cell? ⟨b, off + k * 4 + 2, none⟩ = some (.int .u64 (x.v : Int)) := c2
      refine region_still_tail 11 (by kernel_rfl) (by kernel_rfl) ?_
      simp only [List.take_succ_cons, List.take_zero, List.drop_succ_cons, List.drop_zero]
      repeat still_step
      refine wpStill_nil ?_
      go_wp2_with fail
      refine CP.out.mono ?_
      rintro e w2 ⟨rfl, hs2, hb2, -⟩
      have HS2 := Lib.hid hs2
      have HB2 := Lib.hid ((HBW.out.trans (((Below.refl _ wr).drew).mono HBW.out.size)).trans hb2)
      clear hs2 hb2 CP
      go_wp2
      go_roundw
      case rel => exact ⟨k + 1, _, by omega, by omega, by go_num, HS2.out, HB2.out, by have := HPL.out; omega⟩
      case measure => simp [intOf]; omega
    · have hex : Hid (¬ (k < n ∧ k < 20)) := hgo
      clear hgo
      go_upto_region 7 with (fail)
      go_cut [30] (fun s30 wx => wx = wr ∧ s30 = .bool false)
      case first =>
        by_cases hlt : k < n
        · have h20 : ¬ k < 20 := fun hh => hex.out ⟨hlt, hh⟩
          have hlti : (k : Int) < (n : Int) := by omega
          have h20i : ¬ (k : Int) < 20 := by omega
          go_wp2
          go_meet
          exact ⟨rfl, rfl⟩
        · have hlti : ¬ (k : Int) < (n : Int) := by omega
          go_wp2
          go_meet
          exact ⟨rfl, rfl⟩
      case rest =>
        obtain ⟨hwc, rfl⟩ := hcut
        subst hwc
        have hFl2 : F.length ≤ 640 := by omega
        have CC := Lib.hid (countS HS.out)
        have CP := Lib.hid (octsS HS.out ba bm bc bl (HBL.out.below HBW.out) (by omega) (by omega))
        go_wp2_with fail
        refine CC.out.mono ?_
        rintro e w2 ⟨rfl, rfl⟩
        go_wp2_with fail
        refine CP.out.mono ?_
        rintro e w2 ⟨rfl, hs2, hb2, -⟩
        have HS2 := Lib.hid hs2
        have HB2 := Lib.hid (HBW.out.trans hb2)
        have HF2 := Lib.hid (wholeOf_length F bl)
        have hF2 : (wholeL F ++ ofL bl).length ≤ 1600 := by rw [wholeOf_length, HBLEN.out]; unfold octN; omega
        have hFF : F.length ≤ (wholeL F ++ ofL bl).length := by rw [wholeOf_length]; have := octN_le F.length; omega
        have HPK := Lib.hid (pack_octets F bl)
        have HOB := Lib.hid (octs_back F bl bm HBLEN.out.symm)
        have HO8 := Lib.hid (show octN (wholeL F ++ ofL bl).length = octN F.length + bm by rw [wholeOf_length, octN_eight, HBLEN.out])
        have hcount : (wholeL F ++ ofL bl).length = (octN F.length + bm) * 8 := by rw [wholeOf_length, HBLEN.out]
        have HCN := Lib.hid hcount
        clear CC CP hs2 hb2 hcount
        generalize wholeL F ++ ofL bl = F2 at *
        have CY := bytesS HS2.out (by omega)
        rw [HO8.out] at CY
        have CY := Lib.hid CY
        have hom : octN F.length + bm ≤ 200 := by have := HCN.out; omega
        obtain ⟨o, ho⟩ : ∃ o, o = octN F.length + bm := ⟨_, rfl⟩
        rw [← ho] at CY hom HCN HO8 HOB
        have HO := Lib.hid ho
        clear ho
        go_wp2_with fail
        refine CY.out.mono ?_
        rintro e w3 ⟨a3, c3, rfl, h3, hb3⟩
        have HS3 := Lib.hid (HS2.out.below hb3)
        have HB3 := Lib.hid (HB2.out.trans (hb3.mono HB2.out.size))
        have CR := Lib.hid (readS a3 o c3 _ w3 h3 (by omega))
        have HPL := Lib.hid h3.1
        clear CY h3 hb3
        try dsimp only [id]
        go_wp2_with fail
        refine CR.out.mono ?_
        rintro e w4 ⟨Br, rfl, hr4, hb4⟩
        have HR4 := Lib.hid (And.intro hr4 hb4)
        clear CR hr4 hb4
        obtain ⟨q, hq⟩ : ∃ q, q = F.length := ⟨_, rfl⟩
        rw [← hq] at hFF hFl2 HOB
        have HQ := Lib.hid hq
        rw [← hq]
        clear hq
        go_wp2
        go_loopw [10] (fun s10 wx => ∃ i : Nat, i ≤ q ∧ s10 = .int .i64 i ∧ RdS w3.heap.size wx Br (packB F2) i ∧ Below w3.heap.size w3 wx) (fun s10 _ => q - (intOf s10).toNat)
        case atStart => exact ⟨0, Nat.zero_le _, rfl, HR4.out⟩
        case round =>
          obtain ⟨i, hi, rfl, hr, hbx⟩ := hrel
          rename World => wx
          have HR := Lib.hid hr
          have HBX := Lib.hid hbx
          clear hr hbx
          by_cases hilt : i < q
          · have CT := takeS HR.out 1 (by rw [HPL.out]; omega) (by rw [HPL.out]; have := HCN.out; omega)
            rw [takeR_one F2 i (by omega)] at CT
            have CT := Lib.hid CT
            have hilti : (i : Int) < (q : Int) := by omega
            generalize (F2.getD i false).toNat = t at *
            go_wp2_with fail
            refine CT.out.mono ?_
            rintro e w5 ⟨rfl, hr5, hb5, -⟩
            have R5 := Lib.hid hr5
            have B5 := Lib.hid (HBX.out.trans hb5)
            clear CT hr5 hb5
            go_wp2
            go_roundw
            case rel => exact ⟨i + 1, by omega, by go_num, R5.out, B5.out⟩
            case measure => simp [intOf]; omega
          · obtain rfl : i = q := by omega
            have hilti : ¬ (i : Int) < (i : Int) := by omega
            have CT := octsRS HR.out bm (by rw [HPL.out]; omega) (by rw [HPL.out]; have := HCN.out; omega)
            rw [HPK.out, HOB.out, ← HPK.out] at CT
            have CT := Lib.hid CT
            go_wp2_with fail
            refine CT.out.mono ?_
            rintro e w5 ⟨a5, c5, rfl, h5, hr5, hb5, -⟩
            have HL5 := Lib.hid (show bl.length = bm from HBLEN.out)
            dsimp only at h5 hr5
            rw [HL5.out] at h5
            dsimp only
            rw [HL5.out]
            have B5 := Lib.hid (HBX.out.trans hb5)
            have HW5 := Lib.hid (HB3.out.trans (B5.out.mono HB3.out.size))
            have hcv := h5.conv
            have hcb := (HBL.out.below HW5.out).conv
            have CL := leftS hr5 (by rw [HPL.out]; omega) (by rw [HPL.out]; omega)
            rw [show 8 * (packB F2).length - o * 8 = 0 by rw [HPL.out]; omega] at CL
            have CL := Lib.hid CL
            have HS5 := Lib.hid (HS3.out.below B5.out)
            clear CT h5 hr5 hb5
            go_wp2_with fail
            refine CL.out.mono ?_
            rintro e w6 ⟨rfl, nq, rfl⟩
            have CC := countS (HS5.out.below (below_drewN (Below.refl _ _) nq))
            rw [HCN.out] at CC
            have CC := Lib.hid CC
            go_wp2_with fail
            refine CC.out.mono ?_
            rintro e w6 ⟨rfl, rfl⟩
            have he8 : (((o * 8 : Nat) : Int) == 8 * (o : Int)) = true := by rw [beq_iff_eq]; omega
            have CA := Lib.hid (awake08 (w5.drewN nq))
            clear CC CL hcv hcb
            go_wp2_with fail
            refine CA.out.mono ?_
            rintro e w7 ⟨rfl, hb7⟩
            have HB7 := Lib.hid (HW5.out.trans ((below_drewN (Below.refl _ _) nq).trans (hb7.mono HW5.out.size)))
            go_wp2
            go_ret
            exact ⟨rfl, HB7.out⟩

theorem own : ownKnob Try.prog.godebug = none := by kernel_rfl
theorem laidOut : laidOutB Try.prog = true := by kernel_rfl

set_option maxRecDepth 100000 in
theorem lifted (os : Os) (started : os.Started) (H : Type) (enc : TypeId × Value → H) :
    ReturnsInHanded {} Try.checked os 6 .any (Rows.bitsOctetsSpec.pre6 enc Try.prog Try.f6 Rows.bitsOctetsRow.domain false) (Rows.bitsOctetsSpec.post enc Try.prog Try.f6 false true false false) := by
  refine returnsInHanded_of_change (C := Try.checked) own started (by kernel_rfl) Try.func6
    (ChangeSpec.witness6 (enc := enc) (C := Try.checked) false ⟨#[], #[.slice none 0 0, .slice none 0 0], []⟩ 8 (by kernel_rfl) (by kernel_rfl) (by kernel_rfl) (by kernel_rfl)) ?_
  intro W base args ds gs before hval0 hW hcnd _
  have hval : ∀ (j : Nat) t v, Try.f6.params[j]? = some t → args[j]? = some v → Value.okWide Try.prog W .any base t v := hval0
  have hW' := hW
  obtain ⟨p, q, hA0, hV, rfl, hfz, hnd⟩ := hW
  have hA : DataW.TrodAll enc Try.prog W 0 (fun _ => true) true Try.f6.params.toList args.toList ds p := hA0
  rw [Try.params6] at hA hval
  obtain ⟨v0, vs0, d0, ds0, p0, q0, hargs, rfl, rfl, h0, r0⟩ := trodAll_cons hA
  obtain ⟨v1, vs1, d1, ds1, p1, q1, rfl, rfl, rfl, h1, r1⟩ := trodAll_cons r0
  obtain ⟨rfl, rfl, rfl⟩ := trodAll_nil r1
  obtain rfl : args = #[v0, v1] := by cases args; simp_all
  obtain ⟨rfl, rfl⟩ := trodVars_none hV
  have k0 := h0
  have lt0 : ∀ x ∈ p0, x.block < W.heap.size := by obtain ⟨m, hm⟩ := k0; exact DataW.trod_lt m _ _ _ hm
  obtain ⟨a0, len0, cap0, l0, rfl, w0, g0⟩ := steps_of (hval 0 22 v0 rfl rfl) h0
  have k1 := h1
  have lt1 : ∀ x ∈ p1, x.block < W.heap.size := by obtain ⟨m, hm⟩ := k1; exact DataW.trod_lt m _ _ _ hm
  obtain ⟨a1, len1, cap1, rfl⟩ := okWide_slice Try.underlying27 (hval 1 27 v1 rfl rfl)
  obtain ⟨l1, w1⟩ : ∃ l, BytesAt W a1 len1 cap1 l := by
    obtain ⟨fuel, hf⟩ := h1
    rcases open_ints Try.underlying27 Try.underlying5 (by kernel_rfl) hf with ⟨hcs, _⟩ | ⟨x, l, c, zs, hcs, _, hl, hm, hz, _, hcell, hwz⟩
    · simp [Value.cells] at hcs
      obtain ⟨rfl, rfl, rfl⟩ := hcs
      exact ⟨[], BytesAt.nil W⟩
    · simp [Value.cells] at hcs
      obtain ⟨rfl, rfl, rfl⟩ := hcs
      exact ⟨_, BytesAt.of_row hl hm (by simpa using hz) hcell hwz⟩
  clear hA0 hval0
  refine (walk a0 len0 cap0 l0 a1 len1 cap1 l1 W w0 g0 w1).mono fun e W' ⟨he, bel⟩ => ?_
  subst he
  exact ⟨_, rfl, _, _, _, [], _, [], hW', trodAll_mk1 (shut_bool Try.underlying4 _), (trodAll_cons_mk (Below.trod laidOut (by kernel_rfl) (of_decide_eq_true (by kernel_rfl)) k0 bel lt0) (trodAll_cons_mk (Below.trod laidOut (by kernel_rfl) (of_decide_eq_true (by kernel_rfl)) k1 bel lt1) trodAll_mk0)), rfl, bel.frame _, fun h => by cases h⟩

theorem proved : Rows.BitsOctetsSaid :=
  OpenClaim.holds_of_wide 6 Try.f6 rfl rfl rfl rfl rfl rfl rfl ⟨rfl, rfl, rfl, rfl, rfl⟩ rfl rfl rfl rfl rfl (by kernel_rfl) Try.func6 (by kernel_rfl)
    (of_decide_eq_true (by kernel_rfl)) (by unfold Func.isWrapper; first | (rw [if_pos (by decide +kernel)]; kernel_rfl) | (rw [if_neg (by decide +kernel)]; exact ⟨rfl, rfl⟩))
    (fun os started H enc _ => lifted os started H enc)

end Go.Proofs.Ytkkjmkihehbomaa.bitsOctets
