/-
  Whatever is sealed is the document's, and whatever octets there are, opened they are the document's, or refused with its error; what was handed in stays (P2.2).
  No condition: every two slices.
-/
import Derived.Test.YtjahiddgighjeaaAwake02
import Derived.OpenShut
import Derived.ChangeOld
import Derived.Deep.DeepCutAuto
namespace Go.Proofs.Ytjahiddgighjeaa.crcSeals
open Go.ChangeShapes Go.WideShapes Go.ChangeAt Go.RowKit
open Go.ChangeMaps (open_string shut_string)
set_option linter.unusedVariables false
set_option linter.unusedSimpArgs false

set_option maxRecDepth 100000 in
set_option maxHeartbeats 2000000 in
theorem walk (a : Option Addr) (n cap : Nat) (l : List UInt8) (a2 : Option Addr) (n2 cap2 : Nat) (l2 : List UInt8) (w : World) (hl : BytesAt w a n cap l) (hl2 : BytesAt w a2 n2 cap2 l2) :
    Calls Try.prog 4 #[.slice a n cap, .slice a2 n2 cap2] w fun e w' => e = .returned (.bool true) ∧ Below w.heap.size w w' := by
  have HL := Lib.hid hl
  have HL2 := Lib.hid hl2
  have HB := Lib.hid (hl.head (m := min n 500) (by omega))
  have HC := Lib.hid (hl2.head (m := min n2 500) (by omega))
  have hn : min n 500 ≤ 500 := by omega
  have hn2 : min n2 500 ≤ 500 := by omega
  clear hl hl2
  go_enter Try.func4, Try.ntmps4
  go_upto_region 2 with (first
    | (go_at_call 7; refine (few_any a n cap l _ HL.out).mono ?_; rintro e w1 ⟨rfl, rfl⟩)
    | (go_at_call 7; refine (few_any a2 n2 cap2 l2 _ HL2.out).mono ?_; rintro e w1 ⟨rfl, rfl⟩))
  generalize l.take (min n 500) = b at *
  generalize l2.take (min n2 500) = c at *
  generalize min n 500 = m at *
  generalize min n2 500 = m2 at *
  have hcv := HB.out.conv
  go_upto_region 3 with (fail)
  clear hcv
  go_cut [26] (fun s26 wx => s26 = .bool false ∧ Below w.heap.size w wx)
  case first =>
    have CS := Lib.hid (fun u (h : Below w.heap.size w u) => readB_of (seal_any a m cap b u (HB.out.below h) (by omega)))
    have CR := Lib.hid (fun u (h : Below w.heap.size w u) => rseal_any a m cap b u (HB.out.below h) (by omega))
    have h0 : Below w.heap.size w w.drew := below_drewN (Below.refl _ _) 1
    go_region_law (first
      | (go_simp; go_at_call 14; refine (CS.out _ h0).mono ?_; rintro e u1 ⟨a7, c7, rfl, hrd, hu1⟩; have hu1 := h0.trans hu1; have hcs1 := hrd.conv; have hcb1 := (HB.out.below hu1).conv)
      | (go_simp; go_at_call 15; refine (CR.out _ hu1).mono ?_; rintro e u2 ⟨rfl, hu2⟩; have hcs2 := (hrd.below hu2).conv; have hu2 := hu1.trans (hu2.mono hu1.size); have hcb2 := (HB.out.below hu2).conv))
    all_goals
      go_wp2
      go_meet
      exact ⟨rfl, hu2⟩
  case rest =>
    obtain ⟨rfl, hwc⟩ := hcut
    have HC2 := Lib.hid (HC.out.below hwc)
    have HWC := Lib.hid hwc
    clear hwc HB HC HL HL2
    obtain ⟨wx, rfl⟩ : ∃ wx : World, wx = wc := ⟨_, rfl⟩
    have CA := Lib.hid (fun u (h : Below wx.heap.size wx u) => (awake02 u).mono (fun e w' ⟨h1, h2⟩ => (show e = _ ∧ Below wx.heap.size wx w' from ⟨h1, h.trans (h2.mono h.size)⟩)))
    have hwx := HWC.out.size
    by_cases h4 : m2 < 4
    · have CO := Lib.hid (open_short a2 m2 cap2 c wx HC2.out h4)
      have h4i : (m2 : Int) < 4 := by omega
      go_wp2_with (first
        | (go_at_call 16; refine (CO.out).mono ?_; rintro e u ⟨rfl, rfl⟩)
        | (go_at_call 13; refine (CA.out _ (Below.refl _ _)).mono ?_; rintro e u ⟨rfl, hu⟩))
      go_ret
      exact ⟨rfl, HWC.out.trans (hu.mono hwx)⟩
    · obtain ⟨q, rfl⟩ : ∃ q, m2 = q + 4 := ⟨m2 - 4, by omega⟩
      have h4i : ¬ ((q : Int) + 4 < 4) := by omega
      have h4j : (q : Int) + 4 - 4 = q := by omega
      have h4k : (q : Int) ≤ (q : Int) + 4 := by omega
      have hqc : q + 4 ≤ cap2 := HC2.out.2.1
      have hcl : c.length = q + 4 := HC2.out.1
      have hql : (c.take q).length = q := by simp; omega
      have hsplit : c = c.take q ++ c.drop q := (List.take_append_drop q c).symm
      have htl : (c.drop q).length = 4 := by simp; omega
      have CR := Lib.hid (fun u (h : Below wx.heap.size wx u) => rseal_any a2 q cap2 (c.take q) u ((HC2.out.head (m := q) (by omega)).below h) (by omega))
      have HH := Lib.hid (HC2.out.head (m := q) (by omega))
      have hqi : (q : Int) ≤ (cap2 : Int) := by omega
      by_cases hgood : c.drop q = leB 4 (sumL (c.take q))
      · have hseal : sealL (c.take q) = c := by
          unfold sealL; rw [← hgood]; exact hsplit.symm
        have CO := Lib.hid (readB_of (open_good a2 q cap2 (c.take q) wx (by rw [hseal]; exact HC2.out) hql (by omega)))
        have hd : (sealL (c.take q) == c) = true := by simpa using hseal
        clear hsplit hcl hql htl hgood hseal
        go_wp2_with (first
          | (go_at_call 16; refine (CO.out).mono ?_; rintro e u ⟨a8, c8, rfl, hr, hu⟩; have hcv := (HC2.out.below hu).conv))
        have HR := Lib.hid hr
        clear hr
        have h0 : Below wx.heap.size wx u.drew := below_drewN hu 1
        have hcv0 := (HC2.out.below h0).conv
        go_cut [54] (fun s54 wy => s54 = .bool false ∧ Below u.heap.size u wy)
        case first =>
          have hx0 : Below u.heap.size u u.drew := below_drewN (Below.refl _ _) 1
          go_region_law (first
            | (go_simp; go_at_call 15; refine (CR.out _ h0).mono ?_; rintro e u2 ⟨rfl, hu2⟩; have hx2 := hx0.trans (hu2.mono hx0.size); have hu2 := h0.trans (hu2.mono h0.size); have hcv2 := (HC2.out.below hu2).conv))
          all_goals
            go_wp2
            go_meet
            exact ⟨rfl, hx2⟩
        case rest =>
          obtain ⟨rfl, hy⟩ := hcut
          obtain ⟨wy, rfl⟩ : ∃ wy : World, wy = wc := ⟨_, rfl⟩
          clear hcv hcv0 h0
          have hux := hu.trans (hy.mono hu.size)
          have k1 := (HR.out.below hy).conv
          have k2 := (HH.out.below hux).conv
          have hz : Below wx.heap.size wx wy.drew := below_drewN hux 1
          have hzy : Below u.heap.size u wy.drew := below_drewN hy 1
          have k3 := (HR.out.below hzy).conv
          have k4 := (HH.out.below hz).conv
          go_wp2
          go_region_law? (first
            | (go_simp; go_at_call 13; refine (CA.out _ hz).mono ?_; rintro e u3 ⟨rfl, hu3⟩))
          all_goals
            go_wp2
            go_ret
            exact ⟨rfl, HWC.out.trans (hu3.mono hwx)⟩
      · have CO := Lib.hid (open_bad a2 q cap2 (c.take q) (c.drop q) wx (by rw [← hsplit]; exact HC2.out) hql hgood)
        have hne : sealL (c.take q) ≠ c := by
          intro he
          apply hgood
          have h5 := congrArg (List.drop q) he
          unfold sealL at h5
          rw [List.drop_append_of_le_length (by omega), List.drop_of_length_le (by omega), List.nil_append] at h5
          exact h5.symm
        have hd : (sealL (c.take q) == c) = false := by simpa using hne
        clear hne hsplit hcl hql htl hgood
        go_wp2_with (first
          | (go_at_call 16; refine (CO.out).mono ?_; rintro e u ⟨rfl, hu⟩; have hcv := (HC2.out.below hu).conv))
        have h0 : Below wx.heap.size wx u.drew := below_drewN hu 1
        have hcv0 := (HC2.out.below h0).conv
        go_region_law (first
          | (go_simp; go_at_call 15; refine (CR.out _ h0).mono ?_; rintro e u2 ⟨rfl, hu2⟩; have hu2 := h0.trans (hu2.mono h0.size); have hcv2 := (HC2.out.below hu2).conv))
        all_goals
          go_wp2_with (go_at_call 13; refine (CA.out _ hu2).mono ?_; rintro e u3 ⟨rfl, hu3⟩)
          go_ret
          exact ⟨rfl, HWC.out.trans (hu3.mono hwx)⟩

theorem own : ownKnob Try.prog.godebug = none := by kernel_rfl
theorem laidOut : laidOutB Try.prog = true := by kernel_rfl

set_option maxRecDepth 100000 in
theorem lifted (os : Os) (started : os.Started) (H : Type) (enc : TypeId × Value → H) :
    ReturnsInHanded {} Try.checked os 4 .any (Rows.crcSealsSpec.pre6 enc Try.prog Try.f4 Rows.crcSealsRow.domain false) (Rows.crcSealsSpec.post enc Try.prog Try.f4 false true false false) := by
  refine returnsInHanded_of_change (C := Try.checked) own started (by kernel_rfl) Try.func4
    (ChangeSpec.witness6 (enc := enc) (C := Try.checked) false ⟨#[], #[.slice none 0 0, .slice none 0 0], []⟩ 8 (by kernel_rfl) (by kernel_rfl) (by kernel_rfl) (by kernel_rfl)) ?_
  intro W base args ds gs before hval0 hW hcnd _
  have hval : ∀ (j : Nat) t v, Try.f4.params[j]? = some t → args[j]? = some v → Value.okWide Try.prog W .any base t v := hval0
  have hW' := hW
  obtain ⟨p, q, hA0, hV, rfl, hfz, hnd⟩ := hW
  have hA : DataW.TrodAll enc Try.prog W 0 (fun _ => true) true Try.f4.params.toList args.toList ds p := hA0
  rw [Try.params4] at hA hval
  obtain ⟨v0, vs0, d0, ds0, p0, q0, hargs, rfl, rfl, h0, r0⟩ := trodAll_cons hA
  obtain ⟨v1, vs1, d1, ds1, p1, q1, rfl, rfl, rfl, h1, r1⟩ := trodAll_cons r0
  obtain ⟨rfl, rfl, rfl⟩ := trodAll_nil r1
  obtain rfl : args = #[v0, v1] := by cases args; simp_all
  obtain ⟨rfl, rfl⟩ := trodVars_none hV
  have k0 := h0
  have lt0 : ∀ x ∈ p0, x.block < W.heap.size := by obtain ⟨m, hm⟩ := k0; exact DataW.trod_lt m _ _ _ hm
  obtain ⟨a0, len0, cap0, rfl⟩ := okWide_slice Try.underlying22 (hval 0 22 v0 rfl rfl)
  obtain ⟨l0, w0⟩ : ∃ l, BytesAt W a0 len0 cap0 l := by
    obtain ⟨fuel, hf⟩ := h0
    rcases open_ints Try.underlying22 Try.underlying5 (by kernel_rfl) hf with ⟨hcs, _⟩ | ⟨x, l, c, zs, hcs, _, hl, hm, hz, _, hcell, hwz⟩
    · simp [Value.cells] at hcs
      obtain ⟨rfl, rfl, rfl⟩ := hcs
      exact ⟨[], BytesAt.nil W⟩
    · simp [Value.cells] at hcs
      obtain ⟨rfl, rfl, rfl⟩ := hcs
      exact ⟨_, BytesAt.of_row hl hm (by simpa using hz) hcell hwz⟩
  have k1 := h1
  have lt1 : ∀ x ∈ p1, x.block < W.heap.size := by obtain ⟨m, hm⟩ := k1; exact DataW.trod_lt m _ _ _ hm
  obtain ⟨a1, len1, cap1, rfl⟩ := okWide_slice Try.underlying22 (hval 1 22 v1 rfl rfl)
  obtain ⟨l1, w1⟩ : ∃ l, BytesAt W a1 len1 cap1 l := by
    obtain ⟨fuel, hf⟩ := h1
    rcases open_ints Try.underlying22 Try.underlying5 (by kernel_rfl) hf with ⟨hcs, _⟩ | ⟨x, l, c, zs, hcs, _, hl, hm, hz, _, hcell, hwz⟩
    · simp [Value.cells] at hcs
      obtain ⟨rfl, rfl, rfl⟩ := hcs
      exact ⟨[], BytesAt.nil W⟩
    · simp [Value.cells] at hcs
      obtain ⟨rfl, rfl, rfl⟩ := hcs
      exact ⟨_, BytesAt.of_row hl hm (by simpa using hz) hcell hwz⟩
  clear hA0 hval0
  refine (walk a0 len0 cap0 l0 a1 len1 cap1 l1 W w0 w1).mono fun e W' ⟨he, bel⟩ => ?_
  subst he
  exact ⟨_, rfl, _, _, _, [], _, [], hW', trodAll_mk1 (shut_bool Try.underlying4 _), (trodAll_cons_mk (Below.trod laidOut (by kernel_rfl) (of_decide_eq_true (by kernel_rfl)) k0 bel lt0) (trodAll_cons_mk (Below.trod laidOut (by kernel_rfl) (of_decide_eq_true (by kernel_rfl)) k1 bel lt1) trodAll_mk0)), rfl, bel.frame _, fun h => by cases h⟩

theorem proved : Rows.CrcSealsSaid :=
  OpenClaim.holds_of_wide 4 Try.f4 rfl rfl rfl rfl rfl rfl rfl ⟨rfl, rfl, rfl, rfl, rfl⟩ rfl rfl rfl rfl rfl (by kernel_rfl) Try.func4 (by kernel_rfl)
    (of_decide_eq_true (by kernel_rfl)) (by unfold Func.isWrapper; first | (rw [if_pos (by decide +kernel)]; kernel_rfl) | (rw [if_neg (by decide +kernel)]; exact ⟨rfl, rfl⟩))
    (fun os started H enc _ => lifted os started H enc)
end Go.Proofs.Ytjahiddgighjeaa.crcSeals
