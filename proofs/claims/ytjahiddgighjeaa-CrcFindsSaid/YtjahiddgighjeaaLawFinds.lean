/-
  Sealed octets in which one up to 32 bits beside one another are turned over are refused; those in which none is turned are opened as they were (P2.3).
  No condition: every slice, every place and every run of bits.
-/
import Derived.Test.YtjahiddgighjeaaAwake02
import Derived.OpenShut
import Derived.ChangeOld
import Derived.Deep.DeepCutAuto
import Derived.Deep.AppendLies
import Derived.Deep.CutBlock
import Derived.StillTailTactics
namespace Go.Proofs.Ytjahiddgighjeaa.crcFinds
open Go.ChangeShapes Go.WideShapes Go.ChangeAt Go.RowKit
open Go.ChangeMaps (open_string shut_string)
set_option linter.unusedVariables false
set_option linter.unusedSimpArgs false

theorem wide_lt (turn K : Nat) (h : turn < 4294967296) : turn * 2 ^ (K % 8) < 256 ^ 5 := by
  have h1 : 2 ^ (K % 8) ≤ 2 ^ 7 := Nat.pow_le_pow_right (by omega) (by omega)
  calc turn * 2 ^ (K % 8) ≤ turn * 2 ^ 7 := Nat.mul_le_mul_left _ h1
    _ < 256 ^ 5 := by omega
theorem wide_fits (turn K : Nat) (h : turn < 4294967296) : IntKind.u64.wrap ((turn : Int) * 2 ^ (K % 8)) = ((turn * 2 ^ (K % 8) : Nat) : Int) := by
  have e : (turn : Int) * 2 ^ (K % 8) = ((turn * 2 ^ (K % 8) : Nat) : Int) := by simp
  have := wide_lt turn K h
  rw [e]
  generalize turn * 2 ^ (K % 8) = y at *
  simp [IntKind.wrap, IntKind.signed, IntKind.bits]; omega
theorem wide_eq (turn K : Nat) : turn * 2 ^ (K % 8) * 2 ^ (8 * (K / 8)) = turn * 2 ^ K := by
  rw [Nat.mul_assoc, ← Nat.pow_add]
  congr 2
  omega

theorem byte_turn (x : UInt8) (W i : Nat) : bits .xor .u8 (x.toNat : Int) ((W : Int) / 2 ^ (8 * i) % 256) = ((x ^^^ UInt8.ofNat (W / 256 ^ i % 256)).toNat : Int) := by
  have e : (W : Int) / 2 ^ (8 * i) % 256 = ((W / 256 ^ i % 256 : Nat) : Int) := by rw [pow256]; simp
  rw [e, u8_xor_nat _ _ x.toNat_lt (by omega), UInt8.toNat_xor]
  congr 2
  simp
theorem vals_set (l : List UInt8) (j : Nat) (y : UInt8) : vals (l.set j y) = (vals l).set j (.int .u8 y.toNat) := by
  simp [vals, List.map_set]

/-- behind the last octet nothing is left of the run -/
theorem mod_far (W turn K i m : Nat) (h : turn < 4294967296) (hW : W * 2 ^ (8 * (K / 8)) = turn * 2 ^ K) (hK : K + 32 ≤ 8 * m) (hi : m ≤ K / 8 + i) : W % 256 ^ i = W := by
  apply Nat.mod_eq_of_lt
  have h1 : turn * 2 ^ K < 2 ^ (8 * i) * 2 ^ (8 * (K / 8)) := by
    rw [← Nat.pow_add]
    calc turn * 2 ^ K < 2 ^ 32 * 2 ^ K := Nat.mul_lt_mul_of_pos_right (by omega) (Nat.pow_pos (by omega))
      _ = 2 ^ (32 + K) := by rw [Nat.pow_add]
      _ ≤ 2 ^ (8 * i + 8 * (K / 8)) := Nat.pow_le_pow_right (by omega) (by omega)
  rw [← hW] at h1
  rw [pow256]
  exact Nat.lt_of_mul_lt_mul_right h1

set_option maxRecDepth 100000 in
set_option maxHeartbeats 2000000 in
theorem walk (a : Option Addr) (n cap : Nat) (l : List UInt8) (at_ turn : Int) (w : World) (hl : BytesAt w a n cap l) (h1 : (Lit.int .u64 at_).wf = true) (h2 : (Lit.int .u32 turn).wf = true) :
    Calls Try.prog 6 #[.slice a n cap, .int .u64 at_, .int .u32 turn] w fun e w' => e = .returned (.bool true) ∧ Below w.heap.size w w' := by
  obtain ⟨at_, rfl, hat⟩ : ∃ x : Nat, at_ = x ∧ x < 18446744073709551616 := by
    simp [Lit.wf, IntKind.min, IntKind.max, IntKind.signed, IntKind.bits] at h1
    exact ⟨at_.toNat, by omega, by omega⟩
  obtain ⟨turn, rfl, htn⟩ : ∃ x : Nat, turn = x ∧ x < 4294967296 := by
    simp [Lit.wf, IntKind.min, IntKind.max, IntKind.signed, IntKind.bits] at h2
    exact ⟨turn.toNat, by omega, by omega⟩
  clear h1 h2
  have HL := Lib.hid hl
  have HB := Lib.hid (hl.head (m := min n 500) (by omega))
  have hn : min n 500 ≤ 500 := by omega
  clear hl
  have CF := Lib.hid (fun u (h : Below w.heap.size w u) => few_any a n cap l u (HL.out.below h))
  have CS := Lib.hid (fun u (h : Below w.heap.size w u) => seal_any a (min n 500) cap (l.take (min n 500)) u (HB.out.below h) (by omega))
  generalize l.take (min n 500) = b at *
  generalize min n 500 = m at *
  clear HL
  go_enter Try.func6, Try.ntmps6
  go_upto_region 2 with (first
    | (go_at_call 7; refine (CF.out _ (Below.refl _ _)).mono ?_; rintro e w1 ⟨rfl, rfl⟩)
    | (go_at_call 14; refine (CS.out _ (Below.refl _ _)).mono ?_; rintro e w1 ⟨a5, c5, rfl, ho1, hb1⟩))
  obtain ⟨g, cap5, hv, hbg, hg1⟩ := ho1.form (by omega)
  simp only [id, Value.slice.injEq, true_and] at hv
  obtain ⟨rfl, rfl⟩ := hv
  have HO1 := Lib.hid ho1
  have HS1 := Lib.hid (BytesAt.owned ho1)
  have HB1 := Lib.hid hb1
  have hbl : b.length = m := HB.out.1
  have HBL := Lib.hid hbl
  have CO := Lib.hid (open_good _ m c5 b w1 HS1.out hbl (by omega))
  clear ho1 hb1 hbl
  go_upto_region 3 with (first
    | (go_at_call 16; refine (CO.out).mono ?_; rintro e w2 ⟨a6, c6, rfl, ho2, hb2⟩))
  have HO2 := Lib.hid (owned_below HO1.out hb2)
  have HX2 := Lib.hid (BytesAt.owned ho2)
  have hxb : ∀ x, a6 = some x → w1.heap.size ≤ x.block := fun x hx => by subst hx; exact (ho2.lt x.block rfl).1
  have HXB := Lib.hid hxb
  have HB2 := Lib.hid (HB1.out.trans (hb2.mono HB1.out.size))
  have hs2 := HB2.out.size
  have hg2 : g < w2.heap.size := Nat.lt_of_lt_of_le hg1 hb2.size
  clear ho2 hb2 hxb CO CS
  by_cases ht0 : turn = 0
  · have hti : ((turn : Int) == 0) = true := by simp; omega
    clear ht0
    go_upto_region 4 with (fail)
    have h0 : Below w.heap.size w w2.drew := below_drewN HB2.out 1
    have hz : Below w2.heap.size w2 w2.drew := below_drewN (Below.refl _ _) 1
    have k1 := (HX2.out.below hz).conv
    have k2 := (HB.out.below h0).conv
    clear hz
    go_region_law (first
      | (go_simp; go_at_call 7; refine (CF.out _ h0).mono ?_; rintro e w3 ⟨rfl, rfl⟩)
      | (go_simp; go_at_call 13; refine (awake02 _).mono ?_; rintro e w3 ⟨rfl, hu3⟩))
    all_goals
      go_wp2
      go_ret
      exact ⟨rfl, h0.trans (hu3.mono hs2)⟩
  · have hti : ((turn : Int) == 0) = false := by simp; omega
    go_upto_region 6 with (first
      | (go_at_call 7; refine (CF.out _ HB2.out).mono ?_; rintro e w3 ⟨rfl, rfl⟩))
    have hk0 : 0 ≤ (at_ : Int) % (8 * ((m : Int) + 4) - 31) := Int.emod_nonneg _ (by omega)
    have hk1 : (at_ : Int) % (8 * ((m : Int) + 4) - 31) < 8 * ((m : Int) + 4) - 31 := Int.emod_lt_of_pos _ (by omega)
    generalize (at_ : Int) % (8 * ((m : Int) + 4) - 31) = kk at *
    obtain ⟨K, rfl⟩ := Int.eq_ofNat_of_zero_le hk0
    have hK : K + 32 ≤ 8 * (m + 4) := by omega
    clear hk0 hk1
    go_upto_block 0 with (fail)
    have hW : IntKind.u64.wrap ((turn : Int) * 2 ^ (K % 8)) = ((turn * 2 ^ (K % 8) : Nat) : Int) := wide_fits turn K htn
    rw [hW]
    clear hW
    have hWd := wide_eq turn K
    have hWl := wide_lt turn K htn
    have HWD := Lib.hid hWd
    clear hWd
    generalize turn * 2 ^ (K % 8) = W at *
    have hg7 : w.heap.size ≤ g := hbg
    go_cut [12] (fun s12 wx => ∃ s' : List UInt8, s'.length = m + 4 ∧ goL ones s' ≠ steps 32 ones ∧ wx.ownsRow w.heap.size 5 1 (.slice (some ⟨g, 0, none⟩) (m + 4) c5) (m + 4) (vals s') ∧ w2.grownBy wx (some g))
    case first =>
      go_wp2
      go_loopw [12] (fun s12 wx => ∃ (i : Nat) (s' : List UInt8), i ≤ 5 ∧ s12 = .int .u64 i ∧ s'.length = m + 4 ∧ Hid (le s' = le (sealL b) ^^^ ((W % 256 ^ i) * 2 ^ (8 * (K / 8)))) ∧ wx.ownsRow w.heap.size 5 1 (.slice (some ⟨g, 0, none⟩) (m + 4) c5) (m + 4) (vals s') ∧ w2.grownBy wx (some g)) (fun s12 _ => 5 - (intOf s12).toNat)
      case atStart => exact ⟨0, sealL b, by omega, rfl, by rw [sealL_length, HBL.out], (show le (sealL b) = _ by rw [Nat.pow_zero, Nat.mod_one, Nat.zero_mul, Nat.xor_zero]), HO2.out, World.grownBy.refl _ _⟩
      case round =>
        obtain ⟨i, s', hi, rfl, hsl, hle, ho, hgr⟩ := hrel
        have HSL := Lib.hid hsl
        have HO := Lib.hid ho
        have HG := Lib.hid hgr
        clear hsl ho hgr
        by_cases h5 : i < 5
        · by_cases hin : K / 8 + i < m + 4
          · have hc : wr.cell? ⟨g, K / 8 + i, none⟩ = some (.int .u8 (s'.getD (K / 8 + i) 0).toNat) := by
              rw [World.ownsRow.cellAt HO.out _ (by omega)]
              exact vals_at _ _ (by rw [HSL.out]; exact hin)
            have hf : wr.frozen? ⟨g, K / 8 + i, none⟩ = false := World.ownsRow.frozenAt HO.out _
            have hini : (K : Int) / 8 + (i : Int) < (m : Int) + 4 := by omega
            go_wp2
            go_roundw
            case rel =>
              have hst := (World.ownsRow.stored HO.out (K / 8 + i) (.int .u8 (bits .xor .u8 ((s'.getD (K / 8 + i) 0).toNat : Int) ((W : Int) / 2 ^ (8 * i) % 256))))
              refine ⟨i + 1, s'.set (K / 8 + i) (s'.getD (K / 8 + i) 0 ^^^ UInt8.ofNat (W / 256 ^ i % 256)), by omega, by go_num, by rw [List.length_set]; exact HSL.out, ?_, ?_, ?_⟩
              · show _ = _
                rw [le_set s' _ _ (by rw [HSL.out]; exact hin), hle.out, Nat.xor_assoc, show (UInt8.ofNat (W / 256 ^ i % 256)).toNat = W / 256 ^ i % 256 by simp, mod_next]
              · have h1 := hst.1
                rw [byte_turn] at h1
                rw [vals_set, byte_turn]
                exact h1
              · exact grown_trans HG.out hst.2
            case measure => simp [intOf]; omega
          · have hini : ¬ (K : Int) / 8 + (i : Int) < (m : Int) + 4 := by omega
            go_wp2
            go_meet
            refine ⟨s', HSL.out, turned (sealL b) s' turn K ht0 htn (by rw [HSL.out, sealL_length, HBL.out]) (by rw [sealL_length, HBL.out]; omega) (goL_seal b) ?_, HO.out, HG.out⟩
            rw [hle.out, ← HWD.out, mod_far W turn K i (m + 4) htn HWD.out hK (by omega)]
        · obtain rfl : i = 5 := by omega
          go_wp2
          go_meet
          refine ⟨s', HSL.out, turned (sealL b) s' turn K ht0 htn (by rw [HSL.out, sealL_length, HBL.out]) (by rw [sealL_length, HBL.out]; omega) (goL_seal b) ?_, HO.out, HG.out⟩
          rw [hle.out, ← HWD.out, Nat.mod_eq_of_lt hWl]
    case rest =>
      obtain ⟨s', hsl, hne, ho, hgr⟩ := hcut
      obtain ⟨wx, rfl⟩ : ∃ wx : World, wx = wc := ⟨_, rfl⟩
      have hsplit : s' = s'.take m ++ s'.drop m := (List.take_append_drop m s').symm
      have hml : (s'.take m).length = m := by simp; omega
      have htl : (s'.drop m).length = 4 := by simp; omega
      have hbad : s'.drop m ≠ leB 4 (sumL (s'.take m)) := by
        intro he
        apply hne
        rw [hsplit]
        refine (goL_sealed _ _ htl).2 ?_
        rw [he, le_leB 4 _ (by have := sumL_lt (s'.take m); simpa using this)]
      have hbw : Below w.heap.size w wx := HB2.out.grown hgr hs2 (fun k hk => by cases hk; exact hbg)
      have hxw := HX2.out.grown hgr (fun x hx => by have := HXB.out x hx; simp; omega)
      have CO := Lib.hid (open_bad _ m c5 (s'.take m) (s'.drop m) wx (by rw [← hsplit]; exact BytesAt.owned ho) hml hbad)
      have HBW := Lib.hid hbw
      have HXW := Lib.hid hxw
      clear hsplit hml htl hbad hbw hxw ho hgr hne hsl
      go_upto_region 12 with (first
        | (go_at_call 16; refine (CO.out).mono ?_; rintro e w5 ⟨rfl, hu5⟩))
      have hz : Below wx.heap.size wx w5.drew := below_drewN hu5 1
      have h0 : Below w.heap.size w w5.drew := HBW.out.trans (hz.mono HBW.out.size)
      have k1 := (HXW.out.below hz).conv
      have k2 := (HB.out.below h0).conv
      have hs5 := h0.size
      clear hz hu5
      refine wp_region_still_tail 20 (by kernel_rfl) (by kernel_rfl) ?_
      simp only [List.take_succ_cons, List.take_zero, List.drop_succ_cons, List.drop_zero]
      still_step
      still_step
      still_step
      still_call ((CF.out _ h0).mono fun _ _ hh => ⟨hh.1, hh.2.symm⟩)
      repeat still_step
      refine wpStill_nil ?_
      go_wp2_with (go_at_call 13; refine (awake02 _).mono ?_; rintro e w6 ⟨rfl, hu6⟩)
      go_ret
      exact ⟨rfl, h0.trans (hu6.mono hs5)⟩

theorem own : ownKnob Try.prog.godebug = none := by kernel_rfl
theorem laidOut : laidOutB Try.prog = true := by kernel_rfl

set_option maxRecDepth 100000 in
theorem lifted (os : Os) (started : os.Started) (H : Type) (enc : TypeId × Value → H) :
    ReturnsInHanded {} Try.checked os 6 .any (Rows.crcFindsSpec.pre6 enc Try.prog Try.f6 Rows.crcFindsRow.domain false) (Rows.crcFindsSpec.post enc Try.prog Try.f6 false true false false) := by
  refine returnsInHanded_of_change (C := Try.checked) own started (by kernel_rfl) Try.func6
    (ChangeSpec.witness6 (enc := enc) (C := Try.checked) false ⟨#[], #[.slice none 0 0, .int .u64 0, .int .u32 0], []⟩ 8 (by kernel_rfl) (by kernel_rfl) (by kernel_rfl) (by kernel_rfl)) ?_
  intro W base args ds gs before hval0 hW hcnd _
  have hval : ∀ (j : Nat) t v, Try.f6.params[j]? = some t → args[j]? = some v → Value.okWide Try.prog W .any base t v := hval0
  have hW' := hW
  obtain ⟨p, q, hA0, hV, rfl, hfz, hnd⟩ := hW
  have hA : DataW.TrodAll enc Try.prog W 0 (fun _ => true) true Try.f6.params.toList args.toList ds p := hA0
  rw [Try.params6] at hA hval
  obtain ⟨v0, vs0, d0, ds0, p0, q0, hargs, rfl, rfl, h0, r0⟩ := trodAll_cons hA
  obtain ⟨v1, vs1, d1, ds1, p1, q1, rfl, rfl, rfl, h1, r1⟩ := trodAll_cons r0
  obtain ⟨v2, vs2, d2, ds2, p2, q2, rfl, rfl, rfl, h2, r2⟩ := trodAll_cons r1
  obtain ⟨rfl, rfl, rfl⟩ := trodAll_nil r2
  obtain rfl : args = #[v0, v1, v2] := by cases args; simp_all
  obtain ⟨rfl, rfl⟩ := trodVars_none hV
  have k0 := h0
  have lt0 : ∀ x ∈ p0, x.block < W.heap.size := by obtain ⟨m, hm⟩ := k0; exact DataW.trod_lt m _ _ _ hm
  obtain ⟨a0, len0, cap0, rfl⟩ := okWide_slice Try.underlying22 (hval 0 22 v0 rfl rfl)
  obtain ⟨l0, w0⟩ : ∃ l, BytesAt W a0 len0 cap0 l := by
    obtain ⟨fuel, hf⟩ := h0
    rcases open_ints Try.underlying22 Try.underlying5 (by kernel_rfl) hf with ⟨hcs, _⟩ | ⟨x, l, c, zs, hcs, _, hl, hm, hz, _, hcell, hwz⟩
    · simp [Value.cells] at hcs
      obtain ⟨rfl, rfl, rfl⟩ := hcs
      exact ⟨[], BytesAt.nil W⟩
    · simp [Value.cells] at hcs
      obtain ⟨rfl, rfl, rfl⟩ := hcs
      exact ⟨_, BytesAt.of_row hl hm (by simpa using hz) hcell hwz⟩
  obtain ⟨a1, rfl, rfl, rfl, w1⟩ := open_int Try.underlying38 (hval 1 38 v1 rfl rfl) h1
  obtain ⟨a2, rfl, rfl, rfl, w2⟩ := open_int Try.underlying24 (hval 2 24 v2 rfl rfl) h2
  clear hA0 hval0
  refine (walk a0 len0 cap0 l0 a1 a2 W w0 w1 w2).mono fun e W' ⟨he, bel⟩ => ?_
  subst he
  exact ⟨_, rfl, _, _, _, [], _, [], hW', trodAll_mk1 (shut_bool Try.underlying4 _), (trodAll_cons_mk (Below.trod laidOut (by kernel_rfl) (of_decide_eq_true (by kernel_rfl)) k0 bel lt0) (trodAll_cons_mk (shut_int Try.underlying38 w1) (trodAll_cons_mk (shut_int Try.underlying24 w2) trodAll_mk0))), rfl, bel.frame _, fun h => by cases h⟩

theorem proved : Rows.CrcFindsSaid :=
  OpenClaim.holds_of_wide 6 Try.f6 rfl rfl rfl rfl rfl rfl rfl ⟨rfl, rfl, rfl, rfl, rfl⟩ rfl rfl rfl rfl rfl (by kernel_rfl) Try.func6 (by kernel_rfl)
    (of_decide_eq_true (by kernel_rfl)) (by unfold Func.isWrapper; first | (rw [if_pos (by decide +kernel)]; kernel_rfl) | (rw [if_neg (by decide +kernel)]; exact ⟨rfl, rfl⟩))
    (fun os started H enc _ => lifted os started H enc)
end Go.Proofs.Ytjahiddgighjeaa.crcFinds
