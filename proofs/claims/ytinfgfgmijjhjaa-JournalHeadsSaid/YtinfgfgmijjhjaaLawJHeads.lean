/-
  JournalHeads: the head of any transaction is the document's, or refused. For every input.
-/
import Derived.Test.YtinfgfgmijjhjaaAwake04
import Derived.Test.YtinfgfgmijjhjaaFew
namespace Go.Proofs.Ytinfgfgmijjhjaa.journalHeads
open Go.Proofs.Ytinfgfgmijjhjaa Go.ChangeShapes Go.WideShapes Go.ChangeAt Go.RowKit Go.Deep
open Go.ChangeMaps (open_string shut_string)
set_option linter.unusedVariables false
set_option linter.unusedSimpArgs false

set_option maxHeartbeats 4000000 in
set_option maxRecDepth 100000 in
theorem walk (a : Option Addr) (n cap : Nat) (L : List PutM) (W : World) (hc : CameAt putC 2 W a n cap L) (hg : ∀ x ∈ L, x.Good W) :
    Calls Try.prog 3 #[.slice a n cap] W fun e w' => e = .returned (.bool true) ∧ Below W.heap.size W w' := by
  have CF := Lib.hid (jfew_any a n cap L W ⟨hc, hg⟩)
  clear hc hg
  generalize fewL (L.map PutM.pt) = A at *
  go_enter Try.func3, Try.ntmps3
  go_wp2_with fail
  refine (CF.out).mono ?_
  rintro e w1 ⟨a1, n1, c1, M1, rfl, hp1, hm1, hb1⟩
  have P1 := Lib.hid hp1
  have HM := Lib.hid hm1
  have B1 := Lib.hid hb1
  clear hp1 hm1 hb1 CF
  go_wp2_with fail
  refine (headf_any _ a1 n1 c1 M1 w1 P1.out).mono ?_
  rintro e w2 ⟨a2, n2, c2, rfl, hy2, hb2, _⟩
  rw [HM.out] at hy2
  rw [HM.out]
  have P2 := Lib.hid (P1.out.below hb2)
  have Y2 := Lib.hid hy2
  have B2 := Lib.hid (B1.out.trans (hb2.mono B1.out.size))
  have CM := Lib.hid (rmay_any _ a1 n1 c1 M1 2048 w2 P2.out)
  rw [HM.out] at CM
  clear hy2 hb2 P1
  cases hm : mayB A 2048 with
  | false =>
    rw [hm] at CM Y2
    simp only [Bool.false_eq_true, if_false] at Y2 ⊢
    obtain rfl : n2 = 0 := Y2.out.1.symm
    clear hm
    go_wp2_with fail
    refine (CM.out).mono ?_
    rintro e w3 ⟨rfl, hb3⟩
    have B3 := Lib.hid (B2.out.trans (hb3.mono B2.out.size))
    clear hb3
    go_wp2_with fail
    refine (awake04 w3).mono ?_
    rintro e w4 ⟨rfl, hb4⟩
    go_wp2
    go_ret
    exact ⟨rfl, B3.out.trans (hb4.mono B3.out.size)⟩
  | true =>
    have CH := Lib.hid (fun u (hb : Below w2.heap.size w2 u) => rhead_any _ a1 n1 c1 M1 2048 u (P2.out.below hb) (by rw [HM.out]; exact hm) (by omega))
    rw [HM.out] at CH
    rw [hm] at CM Y2
    simp only [if_true] at Y2 ⊢
    clear hm
    go_wp2_with fail
    refine (CM.out).mono ?_
    rintro e w3 ⟨rfl, hb3⟩
    have B3 := Lib.hid hb3
    have hS0 : BytesAt w3.drew a2 n2 c2 (hdL A) := Y2.out.below (B3.out.drew)
    clear hb3 CM
    go_wp2_with fail
    refine region_head 12 [0, 1, 2, 3, 4, 5, 6, 7, 8, 9, 10, 11] [3, 10] (fun u => BytesAt u a2 n2 c2 (hdL A)) (by kernel_rfl) (by kernel_rfl) hS0 ?_
    clear hS0
    simp only [pickO, List.append_eq, List.cons_append, List.nil_append, List.filterMap_cons, List.filterMap_nil, List.getElem?_cons_zero, List.getElem?_cons_succ, Option.map_some, List.drop_succ_cons, List.drop_zero]
    iterate 3
      refine seqH_readG _ rfl (by rfl) (by rintro u hu1; have hv := hu1.conv; clear hu1; go_simp; with_reducible rfl) ?_
      try simp only [Act.put, List.setIfInBounds_toArray, List.set_cons_zero, List.set_cons_succ]
    refine seqH_moveG rfl (by rfl) (fun K hK => ?_)
    go_simp
    refine (CH.out _ (B3.out.drew)).mono ?_
    rintro e w4 ⟨rfl, hb4⟩
    have B4 := Lib.hid (B3.out.drew.trans (hb4.mono (by have := B3.out.size; simpa using this)))
    refine hK _ _ (Y2.out.below B4.out) ?_
    clear hK K hb4 CH
    try simp only [Act.put, List.setIfInBounds_toArray, List.set_cons_zero, List.set_cons_succ]
    iterate 6
      refine seqH_readG _ rfl (by rfl) (by rintro u hu1; clear hu1; go_simp; with_reducible rfl) ?_
      try simp only [Act.put, List.setIfInBounds_toArray, List.set_cons_zero, List.set_cons_succ]
    refine seqH_moveG rfl (by rfl) (fun K hK => ?_)
    go_simp
    refine (awake04 _).mono ?_
    rintro e w5 ⟨rfl, hb5⟩
    have B5 := Lib.hid (B4.out.trans (hb5.mono B4.out.size))
    refine hK _ _ (Y2.out.below B5.out) ?_
    clear hK K hb5
    try simp only [Act.put, List.setIfInBounds_toArray, List.set_cons_zero, List.set_cons_succ]
    refine seqH_readG _ rfl (by rfl) (by rintro u hu1; clear hu1; go_simp; with_reducible rfl) ?_
    try simp only [Act.put, List.setIfInBounds_toArray, List.set_cons_zero, List.set_cons_succ]
    refine seqH_nil ?_
    go_wp2
    go_ret
    exact ⟨rfl, B2.out.trans (B5.out.mono B2.out.size)⟩

theorem own : ownKnob Try.prog.godebug = none := by kernel_rfl
theorem laidOut : laidOutB Try.prog = true := by kernel_rfl

set_option maxRecDepth 100000 in
theorem lifted (os : Os) (started : os.Started) (H : Type) (enc : TypeId × Value → H) :
    ReturnsInHanded {} Try.checked os 3 .any (Rows.journalHeadsSpec.pre6 enc Try.prog Try.f3 Rows.journalHeadsRow.domain false) (Rows.journalHeadsSpec.post enc Try.prog Try.f3 false true false false) := by
  refine returnsInHanded_of_change (C := Try.checked) own started (by kernel_rfl) Try.func3
    (ChangeSpec.witness6 (enc := enc) (C := Try.checked) false ⟨#[], #[.slice none 0 0], []⟩ 8 (by kernel_rfl) (by kernel_rfl) (by kernel_rfl) (by kernel_rfl)) ?_
  intro W base args ds gs before hval0 hW hcnd _
  have hval : ∀ (j : Nat) t v, Try.f3.params[j]? = some t → args[j]? = some v → Value.okWide Try.prog W .any base t v := hval0
  have hW' := hW
  obtain ⟨p, q, hA0, hV, rfl, hfz, hnd⟩ := hW
  have hA : DataW.TrodAll enc Try.prog W 0 (fun _ => true) true Try.f3.params.toList args.toList ds p := hA0
  rw [Try.params3] at hA hval
  obtain ⟨v0, vs0, d0, ds0, p0, q0, hargs, rfl, rfl, h0, r0⟩ := trodAll_cons hA
  obtain ⟨rfl, rfl, rfl⟩ := trodAll_nil r0
  obtain rfl : args = #[v0] := by cases args; simp_all
  obtain ⟨rfl, rfl⟩ := trodVars_none hV
  have k0 := h0
  have lt0 : ∀ x ∈ p0, x.block < W.heap.size := by obtain ⟨m, hm⟩ := k0; exact DataW.trod_lt m _ _ _ hm
  obtain ⟨a0, len0, cap0, l0, rfl, w0, g0⟩ := puts_of (hval 0 22 v0 rfl rfl) h0
  clear hA0 hval0
  refine (walk a0 len0 cap0 l0 W w0 g0).mono fun e W' ⟨he, bel⟩ => ?_
  subst he
  exact ⟨_, rfl, _, _, _, [], _, [], hW', trodAll_mk1 (shut_bool Try.underlying4 _), (trodAll_cons_mk (Below.trod laidOut (by kernel_rfl) (of_decide_eq_true (by kernel_rfl)) k0 bel lt0) trodAll_mk0), rfl, bel.frame _, fun h => by cases h⟩

theorem proved : Rows.JournalHeadsSaid :=
  OpenClaim.holds_of_wide 3 Try.f3 rfl rfl rfl rfl rfl rfl rfl ⟨rfl, rfl, rfl, rfl, rfl⟩ rfl rfl rfl rfl rfl (by kernel_rfl) Try.func3 (by kernel_rfl)
    (of_decide_eq_true (by kernel_rfl)) (by unfold Func.isWrapper; first | (rw [if_pos (by decide +kernel)]; kernel_rfl) | (rw [if_neg (by decide +kernel)]; exact ⟨rfl, rfl⟩))
    (fun os started H enc _ => lifted os started H enc)
end Go.Proofs.Ytinfgfgmijjhjaa.journalHeads
