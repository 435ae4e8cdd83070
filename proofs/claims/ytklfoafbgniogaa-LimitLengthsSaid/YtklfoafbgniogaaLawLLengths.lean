/-
  The lengths of any counts, by any bound, are the document's, or refused; what was handed in stays (P10.1).
  No condition: every slice of ints, every bound.
-/
import Derived.Test.YtklfoafbgniogaaLmZ
import Derived.Deep.CutBlock
namespace Go.Proofs.Ytklfoafbgniogaa.limitLengths
open Go.ChangeShapes Go.WideShapes Go.ChangeAt Go.RowKit Go.Deep
set_option linter.unusedVariables false
set_option linter.unusedSimpArgs false
set_option maxRecDepth 100000

set_option maxHeartbeats 8000000 in
theorem walk (a0 : Option Addr) (n0 cap0 : Nat) (L0 : List Int) (m : Int) (w : World) (h0 : IntsAt w a0 n0 cap0 L0) (_ : True) (hm : (Lit.int .i64 m).wf = true) :
    Calls Try.prog 3 #[.slice a0 n0 cap0, .int .i64 m] w fun e w' => e = .returned (.bool true) ∧ Below w.heap.size w w' := by
  have CF := Lib.hid (lmFew_any a0 n0 cap0 L0 w h0)
  have hbs := build_ints
  clear h0 hm
  go_enter Try.func3, Try.ntmps3
  go_wp2_with fail
  refine CF.out.mono ?_
  rintro e w0 ⟨rfl, n, L, rfl, hL, hn⟩
  have HL := Lib.hid hL
  have HLN := Lib.hid hL.1
  have hb1 := alloc_below w (.cells #[] 3)
  have B1 := Lib.hid hb1
  have HL1 := Lib.hid (show IntsAt _ a0 n cap0 L from CameAt.below hL (by omega) hb1)
  have HO := Lib.hid (show (w.alloc (.cells #[] 3)).ownsRow w.heap.size 3 1 (.slice (some ⟨w.heap.size, 0, none⟩) 0 0) 0 [] from ⟨rfl, .inr ⟨w.heap.size, 0, #[], rfl, Nat.le_refl _, heap_alloc_new w _, by omega, by unfold maxLen; omega, rfl, rfl⟩⟩)
  clear CF hL hb1
  go_upto_region 3 with (at_builtin; refine wpList_append_intsG rfl _ _ rfl w.heap.size (.slice (some ⟨w.heap.size, 0, none⟩) 0 0) 0 [] rfl HO.out a0 n cap0 L rfl HL1.out n (by omega) (by omega) B1.out.size ?_; intro a1 c1 w2 ho hg; have HO2 := Lib.hid ho; have B2 := Lib.hid (B1.out.grown hg B1.out.size (fun k hk => by simp [Value.ownBlock] at hk; omega)); clear ho hg)
  have hown := HO2.out
  rw [List.nil_append] at hown
  have HW := Lib.hid (show IntsAt w2 a1 n c1 L from zints_owned hown)
  have HL2 := Lib.hid (show IntsAt w2 a0 n cap0 L from CameAt.below HL.out (by omega) B2.out)
  clear hown HO HO2 HL1 B1 hbs
  have C1 := limLengths_any a1 n c1 L m w2 HW.out
  unfold LensTo at C1
  have C1 := Lib.hid C1
  generalize hE : lensE L m = E at *
  generalize hM : lensL L m = M at *
  have HE := Lib.hid hE
  have HM := Lib.hid hM
  clear hE hM
  go_wp2_with fail
  refine C1.out.mono ?_
  rintro e w3 ⟨a3, n3, c3, rfl, h3, hb3⟩
  have B3 := Lib.hid (B2.out.trans (hb3.mono B2.out.size))
  have HW3 := Lib.hid (show IntsAt w3 a1 n c1 L from CameAt.below HW.out (by omega) hb3)
  have HL3 := Lib.hid (show IntsAt w3 a0 n cap0 L from CameAt.below HL2.out (by omega) hb3)
  have H3 := Lib.hid h3
  have C2 := lmLengths_any a0 n cap0 L m w3 HL3.out
  unfold LensTo at C2
  rw [HE.out, HM.out] at C2
  have C2 := Lib.hid C2
  clear C1 h3 hb3 B2 HW HL2
  go_wp2_with fail
  refine C2.out.mono ?_
  rintro e w4 ⟨a4, n4, c4, rfl, h4, hb4⟩
  have B4 := Lib.hid (B3.out.trans (hb4.mono B3.out.size))
  have HW4 := Lib.hid (show IntsAt w4 a1 n c1 L from CameAt.below HW3.out (by omega) hb4)
  have HL4 := Lib.hid (show IntsAt w4 a0 n cap0 L from CameAt.below HL3.out (by omega) hb4)
  have H4 := Lib.hid (show IntsAt w4 a3 n3 c3 M from CameAt.below H3.out (by omega) hb4)
  have C3 := lmSame_any a3 n3 c3 M a4 n4 c4 M w4 H4.out h4
  simp only [decide_true] at C3
  have C3 := Lib.hid C3
  clear C2 h4 hb4 B3 HW3 HL3 H3
  go_wp2_with fail
  refine C3.out.mono ?_
  rintro e w5 ⟨rfl, hb5⟩
  have B5 := Lib.hid (B4.out.trans (hb5.mono B4.out.size))
  have HW5 := Lib.hid (show IntsAt w5 a1 n c1 L from CameAt.below HW4.out (by omega) hb5)
  have HL5 := Lib.hid (show IntsAt w5 a0 n cap0 L from CameAt.below HL4.out (by omega) hb5)
  have C4 := lmSame_any a1 n c1 L a0 n cap0 L w5 HW5.out HL5.out
  simp only [decide_true] at C4
  have C4 := Lib.hid C4
  clear C3 hb5 B4 HW4 HL4 H4
  go_wp2_with fail
  refine C4.out.mono ?_
  rintro e w6 ⟨rfl, hb6⟩
  have B6 := Lib.hid (B5.out.trans (hb6.mono B5.out.size))
  have CA := Lib.hid (awake10 w6)
  clear C4 hb6 B5 HW5 HL5
  go_wp2_with fail
  refine CA.out.mono ?_
  rintro e w7 ⟨rfl, hb7⟩
  go_wp2
  go_ret
  exact ⟨rfl, B6.out.trans (hb7.mono B6.out.size)⟩

theorem own : ownKnob Try.prog.godebug = none := by kernel_rfl
theorem laidOut : laidOutB Try.prog = true := by kernel_rfl

set_option maxRecDepth 100000 in
theorem lifted (os : Os) (started : os.Started) (H : Type) (enc : TypeId × Value → H) :
    ReturnsInHanded {} Try.checked os 3 .any (Rows.limitLengthsSpec.pre6 enc Try.prog Try.f3 Rows.limitLengthsRow.domain false) (Rows.limitLengthsSpec.post enc Try.prog Try.f3 false true false false) := by
  refine returnsInHanded_of_change (C := Try.checked) own started (by kernel_rfl) Try.func3
    (ChangeSpec.witness6 (enc := enc) (C := Try.checked) false ⟨#[], #[.slice none 0 0, .int .i64 0], []⟩ 8 (by kernel_rfl) (by kernel_rfl) (by kernel_rfl) (by kernel_rfl)) ?_
  intro W base args ds gs before hval0 hW hcnd _
  have hval : ∀ (j : Nat) t v, Try.f3.params[j]? = some t → args[j]? = some v → Value.okWide Try.prog W .any base t v := hval0
  have hW' := hW
  obtain ⟨p, q, hA0, hV, rfl, hfz, hnd⟩ := hW
  have hA : DataW.TrodAll enc Try.prog W 0 (fun _ => true) true Try.f3.params.toList args.toList ds p := hA0
  rw [Try.params3] at hA hval
  obtain ⟨v0, vs0, d0, ds0, p0, q0, hargs, rfl, rfl, h0, r0⟩ := trodAll_cons hA
  obtain ⟨v1, vs1, d1, ds1, p1, q1, rfl, rfl, rfl, h1, r1⟩ := trodAll_cons r0
  obtain ⟨rfl, rfl, rfl⟩ := trodAll_nil r1
  obtain rfl : args = #[v0, v1] := by cases args; simp_all
  obtain ⟨rfl, rfl⟩ := trodVars_none hV
  have k0 := h0
  have lt0 : ∀ x ∈ p0, x.block < W.heap.size := by obtain ⟨m, hm⟩ := k0; exact DataW.trod_lt m _ _ _ hm
  obtain ⟨a0, len0, cap0, l0, rfl, w0, g0⟩ := ints_of (hval 0 22 v0 rfl rfl) h0
  obtain ⟨a1, rfl, rfl, rfl, w1⟩ := open_int Try.underlying3 (hval 1 3 v1 rfl rfl) h1
  clear hA0 hval0
  refine (walk a0 len0 cap0 l0 a1 W w0 g0 w1).mono fun e W' ⟨he, bel⟩ => ?_
  subst he
  exact ⟨_, rfl, _, _, _, [], _, [], hW', trodAll_mk1 (shut_bool Try.underlying4 _), (trodAll_cons_mk (Below.trod laidOut (by kernel_rfl) (of_decide_eq_true (by kernel_rfl)) k0 bel lt0) (trodAll_cons_mk (shut_int Try.underlying3 w1) trodAll_mk0)), rfl, bel.frame _, fun h => by cases h⟩

theorem proved : Rows.LimitLengthsSaid :=
  OpenClaim.holds_of_wide 3 Try.f3 rfl rfl rfl rfl rfl rfl rfl ⟨rfl, rfl, rfl, rfl, rfl⟩ rfl rfl rfl rfl rfl (by kernel_rfl) Try.func3 (by kernel_rfl)
    (of_decide_eq_true (by kernel_rfl)) (by unfold Func.isWrapper; first | (rw [if_pos (by decide +kernel)]; kernel_rfl) | (rw [if_neg (by decide +kernel)]; exact ⟨rfl, rfl⟩))
    (fun os started H enc _ => lifted os started H enc)

end Go.Proofs.Ytklfoafbgniogaa.limitLengths
