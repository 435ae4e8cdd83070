/-
  MatchExpands: what any tokens come to is the document's, or they are refused with its error, at its place.
-/
import Derived.Test.YtonfppbijofapaaMaZ
import Derived.Test.YtonfppbijofapaaOpen
namespace Go.Proofs.Ytonfppbijofapaa.matchExpands
open Go.ChangeShapes Go.WideShapes Go.ChangeAt Go.RowKit Go.Deep
set_option linter.unusedVariables false
set_option linter.unusedSimpArgs false
set_option maxRecDepth 100000

section
variable {H : Type} {enc : TypeId × Value → H} {W : World} {held : Bool}
theorem tok_of {fuel : Nat} {cs : List Value} {y : DataW H × List MemPlace} (h : DataW.trod enc Try.prog W 0 (fun _ => true) held fuel 51 cs = some y) : ∃ x : Tok, cs = tokC x := by
  obtain ⟨xs, n, _, _, hlen, hxl, hf⟩ := DataW.trod_struct Try.underlying51 h
  have h3 : cs.length = 3 := hlen.trans (by kernel_rfl)
  have hx3 : xs.length = 3 := hxl.trans (by simp)
  have c1 : Try.prog.cellsOf 3 = 1 := by kernel_rfl
  have c2 : Try.prog.cellsOf 5 = 1 := by kernel_rfl
  match cs, h3, xs, hx3 with
  | [v0, v1, v2], _, [y0, y1, y2], _ =>
    have g0 := hf 0 _ rfl
    have g1 := hf 1 _ rfl
    have g2 := hf 2 _ rfl
    simp only [c1, c2, List.drop_zero, List.drop_succ_cons, List.take_succ_cons, List.take_zero, List.getElem?_cons_zero, List.getElem?_cons_succ] at g0 g1 g2
    obtain ⟨n0, e0, _, w0⟩ := DataW.trod_int Try.underlying5 g0
    obtain ⟨n1, e1, _, w1⟩ := DataW.trod_int Try.underlying3 g1
    obtain ⟨n2, e2, _, w2⟩ := DataW.trod_int Try.underlying3 g2
    obtain ⟨rfl, _⟩ := List.cons.inj e0
    obtain ⟨rfl, _⟩ := List.cons.inj e1
    obtain ⟨rfl, _⟩ := List.cons.inj e2
    have r0 : 0 ≤ n0 ∧ n0 ≤ 255 := by
      simpa [Lit.wf, IntKind.min, IntKind.max, IntKind.signed, IntKind.bits] using w0
    refine ⟨⟨UInt8.ofNat n0.toNat, n1, n2⟩, ?_⟩
    have : (((UInt8.ofNat n0.toNat).toNat : Nat) : Int) = n0 := by
      rw [UInt8.toNat_ofNat_of_lt' (by show n0.toNat < 256; omega)]; omega
    simp only [tokC, this]
theorem toks_of {r : Reach} {b0 : Nat} {v : Value} {d : DataW H} {p : List MemPlace} (hv : Value.okWide Try.prog W r b0 31 v) (h : DataW.Trod enc Try.prog W 0 (fun _ => true) held 31 v d p) :
    ∃ a n cap L, v = .slice a n cap ∧ TokAt W a n cap L ∧ True := by
  have c5 : Try.prog.cellsOf 51 = 3 := by kernel_rfl
  rcases slice_of Try.underlying31 hv h with rfl | ⟨x, len, cap, rfl, hl, hm, hx⟩
  · exact ⟨_, _, _, [], rfl, CameAt.nil _ _ _, trivial⟩
  · obtain ⟨B, hB⟩ := choose_lt (α := Tok) (n := len) (p := fun i y => (∀ j, j < 3 → W.cell? (x.add (i * 3 + j)) = (tokC y)[j]?)) (fun i hi => by
      obtain ⟨cs, n, y, h1, h2, h3⟩ := hx i hi
      obtain ⟨z, rfl⟩ := tok_of h3
      rw [c5] at h2
      exact ⟨z, fun j hj => h2 j (by simpa [tokC] using hj)⟩)
    refine ⟨_, _, _, (List.range len).map B, rfl, ⟨by simp, hl, hm, fun _ _ => rfl, .inr ⟨x, rfl, fun i j y hi hj => ?_⟩⟩, trivial⟩
    have hil : i < len := by simpa using (List.getElem?_eq_some_iff.1 hi).1
    simp [hil] at hi
    rw [← hi]
    exact hB i hil j hj
end
set_option maxHeartbeats 4000000 in
theorem walk (a : Option Addr) (n cap : Nat) (L : List Tok) (most : Int) (w : World) (h0 : TokAt w a n cap L) (_ : True) (hm : (Lit.int .i64 most).wf = true) :
    Calls Try.prog 5 #[.slice a n cap, .int .i64 most] w fun e w' => e = .returned (.bool true) ∧ Below w.heap.size w w' := by
  have CF := Lib.hid (maTokens_any a n cap L w h0)
  have CA := Lib.hid (fun u => awake11 u)
  have HWF := Lib.hid (show most ≤ 9223372036854775807 by
    simp [Lit.wf] at hm
    omega)
  clear h0 hm
  go_enter Try.func5, Try.ntmps5
  go_wp2_with fail
  refine CF.out.mono ?_
  rintro e w0 ⟨rfl, n, L, rfl, hB, hn⟩
  have C1 := Lib.hid (matExpand_any a n cap L most w hB (by omega) HWF.out)
  have C2 := Lib.hid (fun u (hb : Below w.heap.size w u) => maExpand_any a n cap L most u (CameAt.below hB (by omega) hb) (by omega))
  clear hB
  go_wp2_with fail
  refine C1.out.mono ?_
  rintro e w1 ⟨a1, n1, c1, s, er, q, hx, rfl, h1, hb1⟩
  have B1 := Lib.hid hb1
  have H1 := Lib.hid h1
  have HX := Lib.hid hx
  clear hb1 C1 h1 hx
  go_wp2_with fail
  refine (C2.out _ B1.out).mono ?_
  rintro e w2 ⟨s2, er2, q2, hx2, rfl, hb2⟩
  have hxx := HX.out.trans hx2.symm
  simp only [Prod.mk.injEq] at hxx
  obtain ⟨rfl, rfl, rfl⟩ := hxx
  have B2 := Lib.hid (B1.out.trans (hb2.mono B1.out.size))
  have hcv := (H1.out.below hb2).conv
  clear hb2 C2 hx2
  go_wp2_with fail
  refine (CA.out _).mono ?_
  rintro e w3 ⟨rfl, hb3⟩
  go_wp2
  go_ret
  exact ⟨rfl, B2.out.trans (hb3.mono B2.out.size)⟩
theorem own : ownKnob Try.prog.godebug = none := by kernel_rfl
theorem laidOut : laidOutB Try.prog = true := by kernel_rfl

set_option maxRecDepth 100000 in
theorem lifted (os : Os) (started : os.Started) (H : Type) (enc : TypeId × Value → H) :
    ReturnsInHanded {} Try.checked os 5 .any (Rows.matchExpandsSpec.pre6 enc Try.prog Try.f5 Rows.matchExpandsRow.domain false) (Rows.matchExpandsSpec.post enc Try.prog Try.f5 false true false false) := by
  refine returnsInHanded_of_change (C := Try.checked) own started (by kernel_rfl) Try.func5
    (ChangeSpec.witness6 (enc := enc) (C := Try.checked) false ⟨#[], #[.slice none 0 0, .int .i64 0], []⟩ 8 (by kernel_rfl) (by kernel_rfl) (by kernel_rfl) (by kernel_rfl)) ?_
  intro W base args ds gs before hval0 hW hcnd _
  have hval : ∀ (j : Nat) t v, Try.f5.params[j]? = some t → args[j]? = some v → Value.okWide Try.prog W .any base t v := hval0
  have hW' := hW
  obtain ⟨p, q, hA0, hV, rfl, hfz, hnd⟩ := hW
  have hA : DataW.TrodAll enc Try.prog W 0 (fun _ => true) true Try.f5.params.toList args.toList ds p := hA0
  rw [Try.params5] at hA hval
  obtain ⟨v0, vs0, d0, ds0, p0, q0, hargs, rfl, rfl, h0, r0⟩ := trodAll_cons hA
  obtain ⟨v1, vs1, d1, ds1, p1, q1, rfl, rfl, rfl, h1, r1⟩ := trodAll_cons r0
  obtain ⟨rfl, rfl, rfl⟩ := trodAll_nil r1
  obtain rfl : args = #[v0, v1] := by cases args; simp_all
  obtain ⟨rfl, rfl⟩ := trodVars_none hV
  have k0 := h0
  have lt0 : ∀ x ∈ p0, x.block < W.heap.size := by obtain ⟨m, hm⟩ := k0; exact DataW.trod_lt m _ _ _ hm
  obtain ⟨a0, len0, cap0, l0, rfl, w0, g0⟩ := toks_of (hval 0 31 v0 rfl rfl) h0
  obtain ⟨a1, rfl, rfl, rfl, w1⟩ := open_int Try.underlying3 (hval 1 3 v1 rfl rfl) h1
  clear hA0 hval0
  refine (walk a0 len0 cap0 l0 a1 W w0 g0 w1).mono fun e W' ⟨he, bel⟩ => ?_
  subst he
  exact ⟨_, rfl, _, _, _, [], _, [], hW', trodAll_mk1 (shut_bool Try.underlying4 _), (trodAll_cons_mk (Below.trod laidOut (by kernel_rfl) (of_decide_eq_true (by kernel_rfl)) k0 bel lt0) (trodAll_cons_mk (shut_int Try.underlying3 w1) trodAll_mk0)), rfl, bel.frame _, fun h => by cases h⟩

theorem proved : Rows.MatchExpandsSaid :=
  OpenClaim.holds_of_wide 5 Try.f5 rfl rfl rfl rfl rfl rfl rfl ⟨rfl, rfl, rfl, rfl, rfl⟩ rfl rfl rfl rfl rfl (by kernel_rfl) Try.func5 (by kernel_rfl)
    (of_decide_eq_true (by kernel_rfl)) (by unfold Func.isWrapper; first | (rw [if_pos (by decide +kernel)]; kernel_rfl) | (rw [if_neg (by decide +kernel)]; exact ⟨rfl, rfl⟩))
    (fun os started H enc _ => lifted os started H enc)

end Go.Proofs.Ytonfppbijofapaa.matchExpands
