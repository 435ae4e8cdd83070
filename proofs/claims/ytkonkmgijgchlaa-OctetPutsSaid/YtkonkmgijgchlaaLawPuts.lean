/-
  Every number of every width, and any text, are the document's octets, or refused as the document says (P1.1).
  No condition: every number, width and text.
-/
import Derived.Test.YtkonkmgijgchlaaAwake01
import Derived.Test.YtkonkmgijgchlaaRefOct
import Derived.OpenShut
import Derived.ChangeOld
import Derived.ShutString
import Derived.Deep.RegionWith
namespace Go.Proofs.Ytkonkmgijgchlaa.octetPuts
open Go.ChangeShapes Go.WideShapes Go.ChangeAt Go.RowKit
open Go.ChangeMaps (open_string shut_string)
set_option linter.unusedVariables false
set_option linter.unusedSimpArgs false

set_option maxHeartbeats 2000000 in
theorem short (v : Nat) (wd : Int) (s : ByteArray) (w : World) (hv : v < 18446744073709551616) (hs : s.size ≤ 65535) :
    Calls Try.prog 3 #[.int .u64 v, .int .i64 wd, .string s] w fun e w' => e = .returned (.bool true) ∧ Below w.heap.size w w' := by
  have HP := Lib.hid (fun u => put_any v wd u)
  have HR := Lib.hid (fun u => rput_any v wd u hv)
  generalize putRes v wd = r at HP HR
  obtain ⟨r, er⟩ := r
  simp only at HP HR
  have HT := Lib.hid (fun u => puttext_ok s u hs)
  have HU := Lib.hid (fun u => rtext_any s u hs)
  generalize leB 2 s.size ++ s.data.toList = t at HT HU
  go_enter Try.func3, Try.ntmps3
  go_wp2_with (first
      | (go_at_call 8; refine (HP.out _).mono ?_; rintro e w1 ⟨a1, n1, c1, rfl, hy1, hb1⟩)
      | (go_at_call 9; refine (HR.out _).mono ?_; rintro e w2 ⟨rfl, hb2⟩)
      | (go_at_call 10; refine (HT.out _).mono ?_; rintro e w3 ⟨a3, c3, rfl, ho3, hb3⟩; have hcv := ((hy1.below hb2).below hb3).conv))
  have hy3 := BytesAt.owned ho3
  have hy3d : BytesAt w3.drew a3 (2 + s.size) c3 t := hy3.below ((Below.refl _ _).drew)
  have hcv3 := hy3d.conv
  have hbw : Below w.heap.size w w3.drew := (hb1.trans ((hb2.trans (hb3.mono hb2.size)).mono hb1.size)).drew
  clear hcv hy1 ho3 hy3 hb1 hb2 hb3
  go_region_with (first
     | (go_at_call 12; refine (HU.out _).mono ?_; rintro e w4 ⟨rfl, hb4⟩; have hcv4 := (hy3d.below hb4).conv)
     | (go_at_call 11; refine (awake01 _).mono ?_; rintro e w5 ⟨rfl, hb5⟩))
  all_goals
    go_wp2
    go_ret
    exact ⟨rfl, hbw.trans ((hb4.trans (hb5.mono hb4.size)).mono hbw.size)⟩

set_option maxHeartbeats 1000000 in
theorem long (v : Nat) (wd : Int) (s : ByteArray) (w : World) (hv : v < 18446744073709551616) (hs : 65535 < s.size) (hmax : s.size ≤ 9223372036854775807) :
    Calls Try.prog 3 #[.int .u64 v, .int .i64 wd, .string s] w fun e w' => e = .returned (.bool true) ∧ Below w.heap.size w w' := by
  have HP := Lib.hid (fun u => put_any v wd u)
  have HR := Lib.hid (fun u => rput_any v wd u hv)
  generalize putRes v wd = r at HP HR
  obtain ⟨r, er⟩ := r
  simp only at HP HR
  by_cases hb : s.size ≤ 65600
  · have HT := Lib.hid (fun u => puttext_over s u hs)
    go_enter Try.func3, Try.ntmps3
    go_wp2_with (first
      | (go_at_call 8; refine (HP.out _).mono ?_; rintro e w1 ⟨a1, n1, c1, rfl, hy1, hb1⟩)
      | (go_at_call 9; refine (HR.out _).mono ?_; rintro e w2 ⟨rfl, hb2⟩; have hcv := (hy1.below hb2).conv)
      | (go_at_call 10; refine (HT.out _).mono ?_; rintro e w3 ⟨rfl, rfl⟩)
      | (go_at_call 11; refine (awake01 _).mono ?_; rintro e w5 ⟨rfl, hb5⟩))
    go_ret
    exact ⟨rfl, hb1.trans ((hb2.trans (hb5.mono hb2.size)).mono hb1.size)⟩
  · have hsz : (s.extract 0 65600).size = 65600 := by simp; omega
    have HT := Lib.hid (fun u => puttext_over (s.extract 0 65600) u (by omega))
    clear hmax
    have h65 : 65600 < s.size := by omega
    go_enter Try.func3, Try.ntmps3
    go_wp2_with (first
      | (go_at_call 8; refine (HP.out _).mono ?_; rintro e w1 ⟨a1, n1, c1, rfl, hy1, hb1⟩)
      | (go_at_call 9; refine (HR.out _).mono ?_; rintro e w2 ⟨rfl, hb2⟩; have hcv := (hy1.below hb2).conv)
      | (go_at_call 10; refine (HT.out _).mono ?_; rintro e w3 ⟨rfl, rfl⟩)
      | (go_at_call 11; refine (awake01 _).mono ?_; rintro e w5 ⟨rfl, hb5⟩))
    go_ret
    exact ⟨rfl, hb1.trans ((hb2.trans (hb5.mono hb2.size)).mono hb1.size)⟩

theorem walk (v : Int) (wd : Int) (s : ByteArray) (w : World) (h0 : (Lit.int .u64 v).wf = true) (h1 : (Lit.int .i64 wd).wf = true) (h2 : s.size ≤ maxLen) :
    Calls Try.prog 3 #[.int .u64 v, .int .i64 wd, .string s] w fun e w' => e = .returned (.bool true) ∧ Below w.heap.size w w' := by
  have hx : 0 ≤ v ∧ v < 18446744073709551616 := by
    have h := h0
    simp [Lit.wf, IntKind.min, IntKind.max, IntKind.signed, IntKind.bits] at h
    omega
  obtain ⟨v, rfl⟩ := Int.eq_ofNat_of_zero_le hx.1
  by_cases hs : s.size ≤ 65535
  · exact short v wd s w (by omega) hs
  · exact long v wd s w (by omega) (by omega) (by unfold maxLen at h2; omega)

theorem own : ownKnob Try.prog.godebug = none := by kernel_rfl
theorem laidOut : laidOutB Try.prog = true := by kernel_rfl

set_option maxRecDepth 100000 in
theorem lifted (os : Os) (started : os.Started) (H : Type) (enc : TypeId × Value → H) :
    ReturnsInHanded {} Try.checked os 3 .any (Rows.octetPutsSpec.pre6 enc Try.prog Try.f3 Rows.octetPutsRow.domain false) (Rows.octetPutsSpec.post enc Try.prog Try.f3 false true false false) := by
  refine returnsInHanded_of_change (C := Try.checked) own started (by kernel_rfl) Try.func3
    (ChangeSpec.witness6 (enc := enc) (C := Try.checked) false ⟨#[], #[.int .u64 0, .int .i64 0, .string .empty], []⟩ 8 (by kernel_rfl) (by kernel_rfl) (by kernel_rfl) (by kernel_rfl)) ?_
  intro W base args ds gs before hval0 hW hcnd _
  have hval : ∀ (j : Nat) t v, Try.f3.params[j]? = some t → args[j]? = some v → Value.okWide Try.prog W .any base t v := hval0
  have hW' := hW
  obtain ⟨p, q, hA0, hV, rfl, hfz, hnd⟩ := hW
  have hA : DataW.TrodAll enc Try.prog W 0 (fun _ => true) true Try.f3.params.toList args.toList ds p := hA0
  rw [Try.params3] at hA hval
  obtain ⟨v0, vs0, d0, ds0, p0, q0, hargs, rfl, rfl, h0, r0⟩ := trodAll_cons hA
  obtain ⟨v1, vs1, d1, ds1, p1, q1, rfl, rfl, rfl, h1, r1⟩ := trodAll_cons r0
  obtain ⟨v2, vs2, d2, ds2, p2, q2, rfl, rfl, rfl, h2, r2⟩ := trodAll_cons r1
  obtain ⟨rfl, rfl, rfl⟩ := trodAll_nil r2
  obtain rfl : args = #[v0, v1, v2] := by cases args; simp_all
  obtain ⟨rfl, rfl⟩ := trodVars_none hV
  obtain ⟨a0, rfl, rfl, rfl, w0⟩ := open_int Try.underlying22 (hval 0 22 v0 rfl rfl) h0
  obtain ⟨a1, rfl, rfl, rfl, w1⟩ := open_int Try.underlying3 (hval 1 3 v1 rfl rfl) h1
  obtain ⟨a2, rfl, rfl, rfl, w2⟩ := open_string Try.underlying9 (hval 2 9 v2 rfl rfl) h2
  clear hA0 hval0
  refine (walk a0 a1 a2 W w0 w1 w2).mono fun e W' ⟨he, bel⟩ => ?_
  subst he
  exact ⟨_, rfl, _, _, _, [], _, [], hW', trodAll_mk1 (shut_bool Try.underlying4 _), (trodAll_cons_mk (shut_int Try.underlying22 w0) (trodAll_cons_mk (shut_int Try.underlying3 w1) (trodAll_cons_mk (shut_string Try.underlying9 w2) trodAll_mk0))), rfl, bel.frame _, fun h => by cases h⟩

theorem proved : Rows.OctetPutsSaid :=
  OpenClaim.holds_of_wide 3 Try.f3 rfl rfl rfl rfl rfl rfl rfl ⟨rfl, rfl, rfl, rfl, rfl⟩ rfl rfl rfl rfl rfl (by kernel_rfl) Try.func3 (by kernel_rfl)
    (of_decide_eq_true (by kernel_rfl)) (by unfold Func.isWrapper; first | (rw [if_pos (by decide +kernel)]; kernel_rfl) | (rw [if_neg (by decide +kernel)]; exact ⟨rfl, rfl⟩))
    (fun os started H enc _ => lifted os started H enc)
end Go.Proofs.Ytkonkmgijgchlaa.octetPuts
