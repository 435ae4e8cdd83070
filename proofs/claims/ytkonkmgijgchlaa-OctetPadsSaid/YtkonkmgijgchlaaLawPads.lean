/-
  Whatever octets are padded to whatever length are they and noughts behind them, or refused as the document says; what was handed in stays (P1.1).
  No condition: every slice and length.
-/
import Derived.Test.YtkonkmgijgchlaaAwake01
import Derived.OpenShut
import Derived.ChangeOld
import Derived.Deep.DeepCutAuto
namespace Go.Proofs.Ytkonkmgijgchlaa.octetPads
open Go.ChangeShapes Go.WideShapes Go.ChangeAt Go.RowKit
open Go.ChangeMaps (open_string shut_string)
set_option linter.unusedVariables false
set_option linter.unusedSimpArgs false

set_option maxRecDepth 100000 in
set_option maxHeartbeats 2000000 in
theorem walk (a : Option Addr) (n cap : Nat) (l : List UInt8) (m : Int) (w : World) (hl : BytesAt w a n cap l) (h1 : (Lit.int .i64 m).wf = true) :
    Calls Try.prog 4 #[.slice a n cap, .int .i64 m] w fun e w' => e = .returned (.bool true) ∧ Below w.heap.size w w' := by
  have HL := Lib.hid hl
  clear hl h1
  go_enter Try.func4, Try.ntmps4
  go_upto_if 11 with (fail)
  go_cut [0] (fun s0 wx => wx = w ∧ ∃ a' n' cap' l', s0 = .slice a' n' cap' ∧ n' ≤ 2000 ∧ BytesAt w a' n' cap' l')
  case first =>
    by_cases hn : n ≤ 2000
    · go_wp2
      go_meet
      exact ⟨rfl, a, n, cap, l, rfl, hn, HL.out⟩
    · have hc := HL.out.cut (at_ := 0) (m := 2000) (by omega)
      have hcap : 2000 < cap := by have := HL.out.2.1; omega
      have e : (if cap = 0 then a else Option.map (fun x => x.add 0) a) = a := by
        rw [if_neg (by omega)]; cases a <;> simp [Addr.add]
      rw [e, List.drop_zero, Nat.sub_zero] at hc
      clear e
      go_wp2
      go_meet
      exact ⟨rfl, a, 2000, cap, _, rfl, by omega, hc⟩
  case rest =>
    obtain ⟨hwc, a', n', cap', l', rfl, hn, hl⟩ := hcut
    subst hwc
    clear HL
    go_upto_region 3 with (fail)
    go_cut [19] (fun s19 wx => wx = wc ∧ s19 = .bool (decide (5000 < m ∧ m ≤ 1048576)))
    case first =>
      by_cases h1 : 5000 < m
      · by_cases h2 : m ≤ 1048576
        · go_wp2
          go_meet
          exact ⟨rfl, by simp [h1, h2]⟩
        · go_wp2
          go_meet
          exact ⟨rfl, by simp [h1, h2]⟩
      · go_wp2
        go_meet
        exact ⟨rfl, by simp; omega⟩
    case rest =>
    obtain ⟨hwc, rfl⟩ := hcut
    subst hwc
    go_upto_if 19 with (fail)
    go_cut [1] (fun s1 wx => wx = wc ∧ ∃ m' : Int, s1 = .int .i64 m' ∧ (m' < 0 ∨ 1048576 < m' ∨ (0 ≤ m' ∧ m' ≤ 5000)))
    case first =>
      by_cases h1 : 5000 < m ∧ m ≤ 1048576
      · have hd : decide (5000 < m ∧ m ≤ 1048576) = true := by simpa using h1
        obtain ⟨h1, h2⟩ := h1
        go_wp2
        go_meet
        exact ⟨rfl, _, rfl, by omega⟩
      · have hd : decide (5000 < m ∧ m ≤ 1048576) = false := by simpa using h1
        go_wp2
        go_meet
        exact ⟨rfl, _, rfl, by omega⟩
    case rest =>
      obtain ⟨hwc, m', rfl, hm⟩ := hcut
      subst hwc
      have hcv := hl.conv
      by_cases hneg : m' < 0 ∨ 1048576 < m'
      · have HP := Lib.hid (fun u => pad_arg a' n' cap' m' u hneg)
        rcases hneg with hneg | hneg
        · go_wp2_with (first
            | (go_at_call 13; refine (HP.out _).mono ?_; rintro e w1 ⟨rfl, rfl⟩)
            | (go_at_call 11; refine (awake01 _).mono ?_; rintro e w1 ⟨rfl, hb⟩))
          go_ret
          exact ⟨rfl, hb⟩
        · go_wp2_with (first
            | (go_at_call 13; refine (HP.out _).mono ?_; rintro e w1 ⟨rfl, rfl⟩)
            | (go_at_call 11; refine (awake01 _).mono ?_; rintro e w1 ⟨rfl, hb⟩))
          go_ret
          exact ⟨rfl, hb⟩
      · obtain ⟨k, rfl⟩ := Int.eq_ofNat_of_zero_le (show 0 ≤ m' by omega)
        have hk : k ≤ 5000 := by omega
        clear hm hneg
        by_cases hf : k < n'
        · have HP := Lib.hid (fun u => pad_full a' n' cap' k u (by omega) hf)
          go_wp2_with (first
            | (go_at_call 13; refine (HP.out _).mono ?_; rintro e w1 ⟨rfl, rfl⟩)
            | (go_at_call 11; refine (awake01 _).mono ?_; rintro e w1 ⟨rfl, hb⟩))
          go_ret
          exact ⟨rfl, hb⟩
        · have HP := Lib.hid (fun u (hu : BytesAt u a' n' cap' l') => pad_ok a' n' cap' l' k u (by omega) (by omega) hu)
          have HL := Lib.hid hl
          have ht : (l' ++ List.replicate (k - n') 0).take n' = l' := by rw [← hl.1]; exact List.take_left
          have HT := Lib.hid ht
          have hz : ∀ i, n' ≤ i → i < k → (l' ++ List.replicate (k - n') 0).getD i 0 = 0 := by
            intro i h1 h2
            rw [List.getD, List.getElem?_append_right (by rw [hl.1]; exact h1), List.getElem?_replicate]
            split <;> simp
          have HZ := Lib.hid hz
          clear hl ht hz
          generalize l' ++ List.replicate (k - n') 0 = q at HP HT HZ
          go_wp2_with (first
            | (go_at_call 13; refine (HP.out _ HL.out).mono ?_; rintro e w1 ⟨a3, cap3, rfl, ho, hb⟩; have hcv1 := (HL.out.below hb).conv; have HO := Lib.hid (BytesAt.owned ho); clear ho; have hcv2 := (HO.out.head (m := n') (by omega)).conv; have hcc := HO.out.2.1; rw [HT.out] at hcv2)
            | (fail))
          go_loop [8] (fun i => ∃ j : Nat, n' ≤ j ∧ j ≤ k ∧ i = .int .i64 j) (fun i => k - (intOf i).toNat)
          case atStart => exact ⟨n', Nat.le_refl _, by omega, rfl⟩
          case round =>
            obtain ⟨j, hj1, hj2, rfl⟩ := hrel
            by_cases hlt : j < k
            · obtain ⟨b3, o3, rfl, hc3⟩ := HO.out.at (by omega)
              have hc : w1.cell? ⟨b3, o3 + j, none⟩ = some (.int .u8 0) := by
                have := hc3 j hlt
                rw [HZ.out j hj1 hlt] at this
                exact this
              clear hc3
              go_wp2
              exact ⟨⟨j + 1, by omega, by omega, by go_num⟩, by simp [intOf]; omega⟩
            · go_wp2_with (go_at_call 11; refine (awake01 _).mono ?_; rintro e w2 ⟨rfl, hb2⟩)
              go_ret
              exact ⟨rfl, hb.trans (hb2.mono hb.size)⟩

theorem own : ownKnob Try.prog.godebug = none := by kernel_rfl
theorem laidOut : laidOutB Try.prog = true := by kernel_rfl

set_option maxRecDepth 100000 in
theorem lifted (os : Os) (started : os.Started) (H : Type) (enc : TypeId × Value → H) :
    ReturnsInHanded {} Try.checked os 4 .any (Rows.octetPadsSpec.pre6 enc Try.prog Try.f4 Rows.octetPadsRow.domain false) (Rows.octetPadsSpec.post enc Try.prog Try.f4 false true false false) := by
  refine returnsInHanded_of_change (C := Try.checked) own started (by kernel_rfl) Try.func4
    (ChangeSpec.witness6 (enc := enc) (C := Try.checked) false ⟨#[], #[.slice none 0 0, .int .i64 0], []⟩ 8 (by kernel_rfl) (by kernel_rfl) (by kernel_rfl) (by kernel_rfl)) ?_
  intro W base args ds gs before hval0 hW hcnd _
  have hval : ∀ (j : Nat) t v, Try.f4.params[j]? = some t → args[j]? = some v → Value.okWide Try.prog W .any base t v := hval0
  have hW' := hW
  obtain ⟨p, q, hA0, hV, rfl, hfz, hnd⟩ := hW
  have hA : DataW.TrodAll enc Try.prog W 0 (fun _ => true) true Try.f4.params.toList args.toList ds p := hA0
  rw [Try.params4] at hA hval
  obtain ⟨v0, vs0, d0, ds0, p0, q0, hargs, rfl, rfl, h0, r0⟩ := trodAll_cons hA
  obtain ⟨v1, vs1, d1, ds1, p1, q1, rfl, rfl, rfl, h1, r1⟩ := trodAll_cons r0
  obtain ⟨rfl, rfl, rfl⟩ := trodAll_nil r1
  obtain rfl : args = #[v0, v1] := by cases args; simp_all
  obtain ⟨rfl, rfl⟩ := trodVars_none hV
  have k0 := h0
  have lt0 : ∀ x ∈ p0, x.block < W.heap.size := by obtain ⟨m, hm⟩ := k0; exact DataW.trod_lt m _ _ _ hm
  obtain ⟨a0, len0, cap0, rfl⟩ := okWide_slice Try.underlying23 (hval 0 23 v0 rfl rfl)
  obtain ⟨l0, w0⟩ : ∃ l, BytesAt W a0 len0 cap0 l := by
    obtain ⟨fuel, hf⟩ := h0
    rcases open_ints Try.underlying23 Try.underlying5 (by kernel_rfl) hf with ⟨hcs, _⟩ | ⟨x, l, c, zs, hcs, _, hl, hm, hz, _, hcell, hwz⟩
    · simp [Value.cells] at hcs
      obtain ⟨rfl, rfl, rfl⟩ := hcs
      exact ⟨[], BytesAt.nil W⟩
    · simp [Value.cells] at hcs
      obtain ⟨rfl, rfl, rfl⟩ := hcs
      exact ⟨_, BytesAt.of_row hl hm (by simpa using hz) hcell hwz⟩
  obtain ⟨a1, rfl, rfl, rfl, w1⟩ := open_int Try.underlying3 (hval 1 3 v1 rfl rfl) h1
  clear hA0 hval0
  refine (walk a0 len0 cap0 l0 a1 W w0 w1).mono fun e W' ⟨he, bel⟩ => ?_
  subst he
  exact ⟨_, rfl, _, _, _, [], _, [], hW', trodAll_mk1 (shut_bool Try.underlying4 _), (trodAll_cons_mk (Below.trod laidOut (by kernel_rfl) (of_decide_eq_true (by kernel_rfl)) k0 bel lt0) (trodAll_cons_mk (shut_int Try.underlying3 w1) trodAll_mk0)), rfl, bel.frame _, fun h => by cases h⟩

theorem proved : Rows.OctetPadsSaid :=
  OpenClaim.holds_of_wide 4 Try.f4 rfl rfl rfl rfl rfl rfl rfl ⟨rfl, rfl, rfl, rfl, rfl⟩ rfl rfl rfl rfl rfl (by kernel_rfl) Try.func4 (by kernel_rfl)
    (of_decide_eq_true (by kernel_rfl)) (by unfold Func.isWrapper; first | (rw [if_pos (by decide +kernel)]; kernel_rfl) | (rw [if_neg (by decide +kernel)]; exact ⟨rfl, rfl⟩))
    (fun os started H enc _ => lifted os started H enc)
end Go.Proofs.Ytkonkmgijgchlaa.octetPads
