/-
  MatchBack: what is found expands to what it was found in, and to no more than it.
-/
import Derived.Test.YtonfppbijofapaaMaZ
import Derived.Test.YtonfppbijofapaaOpen
namespace Go.Proofs.Ytonfppbijofapaa.matchBack
open Go.ChangeShapes Go.WideShapes Go.ChangeAt Go.RowKit Go.Deep
set_option linter.unusedVariables false
set_option linter.unusedSimpArgs false
set_option maxRecDepth 100000

set_option maxHeartbeats 4000000 in
theorem walk (a : Option Addr) (n cap : Nat) (b : List UInt8) (w : World) (h0 : BytesAt w a n cap b) :
    Calls Try.prog 6 #[.slice a n cap] w fun e w' => e = .returned (.bool true) ∧ Below w.heap.size w w' := by
  have CF := Lib.hid (maFew_any a n cap b w h0)
  have CA := Lib.hid (fun u => awake11 u)
  clear h0
  go_enter Try.func6, Try.ntmps6
  go_wp2_with fail
  refine CF.out.mono ?_
  rintro e w0 ⟨rfl, n, b, rfl, hB, hn⟩
  have HB := Lib.hid hB
  have HL := Lib.hid hB.1
  have C1 := Lib.hid (matFind_any a n cap b w hB)
  by_cases hbig : 65536 < n
  · have hbi : (65536 : Int) < n := by omega
    have HA := Lib.hid (show findE b = 5 ∧ findT b = [] by unfold findE findT; rw [if_pos (by rw [HL.out]; exact hbig), if_pos (by rw [HL.out]; exact hbig)]; exact ⟨rfl, rfl⟩)
    clear hB
    go_wp2_with fail
    refine C1.out.mono ?_
    rintro e w1 ⟨a1, n1, c1, rfl, h1, hb1⟩
    rw [HA.out.1]
    have hn1 : n1 = 0 := by rw [← h1.1, HA.out.2]; rfl
    subst hn1
    have B1 := Lib.hid hb1
    clear hb1 C1 h1
    go_wp2_with fail
    refine (CA.out _).mono ?_
    rintro e w2 ⟨rfl, hb2⟩
    go_wp2
    go_ret
    exact ⟨rfl, B1.out.trans (hb2.mono B1.out.size)⟩
  have hbi : ¬ (65536 : Int) < n := by omega
  have HA := Lib.hid (show findE b = 0 ∧ findT b = findM b by unfold findE findT; rw [if_neg (by rw [HL.out]; exact hbig), if_neg (by rw [HL.out]; exact hbig)]; exact ⟨rfl, rfl⟩)
  have HBK := Lib.hid (find_back b)
  have HMO := Lib.hid (find_more b)
  clear hB
  go_wp2_with fail
  refine C1.out.mono ?_
  rintro e w1 ⟨a1, n1, c1, rfl, h1, hb1⟩
  rw [HA.out.1]
  rw [HA.out.2] at h1
  have hn1 : n1 ≤ n := by have h2 := HBK.out.2; rw [h1.1, HL.out] at h2; exact h2
  have hn1i : ¬ (n : Int) < (n1 : Int) := by omega
  have B1 := Lib.hid hb1
  have H1 := Lib.hid h1
  have C2 := matExpand_any a1 n1 c1 (findM b) (n : Int) w1 h1 (by omega) (by omega)
  unfold ExpTo at C2
  rw [show expandM (findM b) (n : Int) = (b, 0, 0) by have h2 := HBK.out.1; rw [HL.out] at h2; exact h2] at C2
  have C2 := Lib.hid C2
  clear hb1 C1 h1
  go_wp2_with fail
  refine C2.out.mono ?_
  rintro e w2 ⟨a2, n2, c2, s, er, q, hx, rfl, h2, hb2⟩
  simp only [Prod.mk.injEq] at hx
  obtain ⟨rfl, rfl, rfl⟩ := hx
  have B2 := Lib.hid (B1.out.trans (hb2.mono B1.out.size))
  have hcv1 := h2.conv
  have hcv2 := (HB.out.below B2.out).conv
  have H2 := Lib.hid (show TokAt w2 a1 n1 c1 (findM s) from CameAt.below H1.out (by omega) hb2)
  clear hb2 C2 h2
  by_cases hn0 : 0 < n
  · have hn0i : (0 : Int) < (n : Int) := by omega
    obtain ⟨j, hj⟩ := HMO.out (by rw [HL.out]; exact hn0)
    obtain ⟨m, hm⟩ : ∃ m, m = n - 1 := ⟨_, rfl⟩
    have C3 := matExpand_any a1 n1 c1 (findM s) (m : Int) w2 H2.out (by omega) (by omega)
    unfold ExpTo at C3
    rw [show expandM (findM s) (m : Int) = ([], 13, j) by rw [← hj, HL.out, hm]; congr 1; omega] at C3
    have C3 := Lib.hid C3
    have e1 : IntKind.i64.wrap ((n : Int) - 1) = (m : Int) := by rw [IntWalk.i64_in _ (by omega)]; omega
    have e2 : (n : Int) - 1 = (m : Int) := by omega
    clear hm hj
    go_wp2_with fail
    refine C3.out.mono ?_
    rintro e w3 ⟨a3, n3, c3, s3, er, q, hx, rfl, h3, hb3⟩
    simp only [Prod.mk.injEq] at hx
    obtain ⟨rfl, rfl, rfl⟩ := hx
    have hn3 : n3 = 0 := by rw [← h3.1]; rfl
    subst hn3
    have B3 := Lib.hid (B2.out.trans (hb3.mono B2.out.size))
    clear hb3 C3 h3 hcv1 hcv2 e1 e2
    go_wp2_with fail
    refine (CA.out _).mono ?_
    rintro e w4 ⟨rfl, hb4⟩
    go_wp2
    go_ret
    exact ⟨rfl, B3.out.trans (hb4.mono B3.out.size)⟩
  · have hn0i : ¬ (0 : Int) < (n : Int) := by omega
    go_wp2_with fail
    refine (CA.out _).mono ?_
    rintro e w4 ⟨rfl, hb4⟩
    go_wp2
    go_ret
    exact ⟨rfl, B2.out.trans (hb4.mono B2.out.size)⟩
theorem own : ownKnob Try.prog.godebug = none := by kernel_rfl
theorem laidOut : laidOutB Try.prog = true := by kernel_rfl

set_option maxRecDepth 100000 in
theorem lifted (os : Os) (started : os.Started) (H : Type) (enc : TypeId × Value → H) :
    ReturnsInHanded {} Try.checked os 6 .any (Rows.matchBackSpec.pre6 enc Try.prog Try.f6 Rows.matchBackRow.domain false) (Rows.matchBackSpec.post enc Try.prog Try.f6 false true false false) := by
  refine returnsInHanded_of_change (C := Try.checked) own started (by kernel_rfl) Try.func6
    (ChangeSpec.witness6 (enc := enc) (C := Try.checked) false ⟨#[], #[.slice none 0 0], []⟩ 8 (by kernel_rfl) (by kernel_rfl) (by kernel_rfl) (by kernel_rfl)) ?_
  intro W base args ds gs before hval0 hW hcnd _
  have hval : ∀ (j : Nat) t v, Try.f6.params[j]? = some t → args[j]? = some v → Value.okWide Try.prog W .any base t v := hval0
  have hW' := hW
  obtain ⟨p, q, hA0, hV, rfl, hfz, hnd⟩ := hW
  have hA : DataW.TrodAll enc Try.prog W 0 (fun _ => true) true Try.f6.params.toList args.toList ds p := hA0
  rw [Try.params6] at hA hval
  obtain ⟨v0, vs0, d0, ds0, p0, q0, hargs, rfl, rfl, h0, r0⟩ := trodAll_cons hA
  obtain ⟨rfl, rfl, rfl⟩ := trodAll_nil r0
  obtain rfl : args = #[v0] := by cases args; simp_all
  obtain ⟨rfl, rfl⟩ := trodVars_none hV
  have k0 := h0
  have lt0 : ∀ x ∈ p0, x.block < W.heap.size := by obtain ⟨m, hm⟩ := k0; exact DataW.trod_lt m _ _ _ hm
  obtain ⟨a0, len0, cap0, rfl⟩ := okWide_slice Try.underlying22 (hval 0 22 v0 rfl rfl)
  obtain ⟨l0, w0⟩ : ∃ l, BytesAt W a0 len0 cap0 l := by
    obtain ⟨fuel, hf⟩ := h0
    rcases open_ints Try.underlying22 Try.underlying5 (by kernel_rfl) hf with ⟨hcs, _⟩ | ⟨x, l, c, zs, hcs, _, hl, hm, hz, _, hcell, hwz⟩
    · simp [Value.cells] at hcs
      obtain ⟨rfl, rfl, rfl⟩ := hcs
      exact ⟨[], BytesAt.nil W⟩
    · simp [Value.cells] at hcs
      obtain ⟨rfl, rfl, rfl⟩ := hcs
      exact ⟨_, BytesAt.of_row hl hm (by simpa using hz) hcell hwz⟩
  clear hA0 hval0
  refine (walk a0 len0 cap0 l0 W w0).mono fun e W' ⟨he, bel⟩ => ?_
  subst he
  exact ⟨_, rfl, _, _, _, [], _, [], hW', trodAll_mk1 (shut_bool Try.underlying4 _), (trodAll_cons_mk (Below.trod laidOut (by kernel_rfl) (of_decide_eq_true (by kernel_rfl)) k0 bel lt0) trodAll_mk0), rfl, bel.frame _, fun h => by cases h⟩

theorem proved : Rows.MatchBackSaid :=
  OpenClaim.holds_of_wide 6 Try.f6 rfl rfl rfl rfl rfl rfl rfl ⟨rfl, rfl, rfl, rfl, rfl⟩ rfl rfl rfl rfl rfl (by kernel_rfl) Try.func6 (by kernel_rfl)
    (of_decide_eq_true (by kernel_rfl)) (by unfold Func.isWrapper; first | (rw [if_pos (by decide +kernel)]; kernel_rfl) | (rw [if_neg (by decide +kernel)]; exact ⟨rfl, rfl⟩))
    (fun os started H enc _ => lifted os started H enc)

end Go.Proofs.Ytonfppbijofapaa.matchBack
