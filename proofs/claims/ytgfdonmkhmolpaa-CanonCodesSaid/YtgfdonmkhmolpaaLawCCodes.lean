/-
  Whether any lengths are complete, and their codes, is as the document says, or they are refused (P9.1).
  No condition: every slice of ints.
-/
import Derived.Test.YtgfdonmkhmolpaaCnF
import Derived.Test.YtgfdonmkhmolpaaHdS
namespace Go.Proofs.Ytgfdonmkhmolpaa.canonCodes
open Go.ChangeShapes Go.WideShapes Go.ChangeAt Go.RowKit Go.Deep
set_option linter.unusedVariables false
set_option linter.unusedSimpArgs false
set_option maxRecDepth 100000

set_option maxHeartbeats 8000000 in
theorem walk (a0 : Option Addr) (n0 cap0 : Nat) (L0 : List Int) (w : World) (h0 : IntsAt w a0 n0 cap0 L0) (_ : True) :
    Calls Try.prog 3 #[.slice a0 n0 cap0] w fun e w' => e = .returned (.bool true) ∧ Below w.heap.size w w' := by
  have CF := Lib.hid (cnFew_any a0 n0 cap0 L0 w h0)
  clear h0
  go_enter Try.func3, Try.ntmps3
  go_wp2_with fail
  refine CF.out.mono ?_
  rintro e w0 ⟨rfl, n, L, rfl, hL, hn⟩
  have HL := Lib.hid hL
  have HCS := Lib.hid (checkE_cases L)
  have HVN := Lib.hid (valid_nats L)
  have C1 := Lib.hid (cnCheck_any a0 n cap0 L w hL)
  have C2 := Lib.hid (fun u (hb : Below w.heap.size w u) => cnCodesP_any a0 n cap0 L u (CameAt.below hL (Nat.le_refl _) hb))
  have C3 := Lib.hid (fun u (hb : Below w.heap.size w u) => cnChk_any a0 n cap0 L u (CameAt.below hL (Nat.le_refl _) hb))
  have HCE := Lib.hid (show codesE L = if checkE L = 2 then 0 else checkE L from rfl)
  have HCL := Lib.hid (show codesL L = if checkE L = 1 ∨ checkE L = 8 then [] else codesN (natsL L) from rfl)
  have C4 := Lib.hid (fun (h1 : ∀ x ∈ natsL L, x ≤ 15) (h2 : ∀ x ∈ L, 0 ≤ x) (h3 : kraft (natsL L) ≤ 32768) u (hb : Below w.heap.size w u) => cnCodes_any a0 n cap0 L u (CameAt.below hL (Nat.le_refl _) hb) (by omega) h1 h2 h3)
  generalize checkE L = E at *
  clear CF hL
  go_wp2_with fail
  refine C1.out.mono ?_
  rintro e w1 ⟨rfl, hb1⟩
  have B1 := Lib.hid hb1
  clear C1 hb1
  have C2' := Lib.hid (C2.out w1 B1.out)
  unfold CodesTo at C2'
  generalize codesE L = X at *
  generalize codesL L = M at *
  clear C2
  go_wp2_with fail
  refine C2'.out.mono ?_
  rintro e w2 ⟨ca, cm, cc, rfl, hI⟩
  have HI := Lib.hid hI
  have B2 := Lib.hid (B1.out.trans (hI.2.2.2.mono B1.out.size))
  have HCM := Lib.hid hI.2.1
  clear hI C2'
  have C3' := Lib.hid (C3.out w2 B2.out)
  clear C3
  go_wp2_with fail
  refine C3'.out.mono ?_
  rintro e w3 ⟨rfl, hb3⟩
  have HI3 := Lib.hid (HI.out.below hb3)
  have B3 := Lib.hid (B2.out.trans (hb3.mono B2.out.size))
  clear hb3 C3'
  by_cases hbad : E = 1 ∨ E = 8
  · have HM := Lib.hid (show cm = 0 by rw [← HCM.out, HCL.out, if_pos hbad]; rfl)
    have HX := Lib.hid (show X = E by rw [HCE.out, if_neg (by omega)])
    have CA := Lib.hid (awake09 w3)
    rw [HM.out, HX.out]
    rcases hbad with hE | hE
    · subst hE
      go_wp2_with fail
      refine CA.out.mono ?_
      rintro e w4 ⟨rfl, hb4⟩
      go_wp2
      go_ret
      exact ⟨rfl, B3.out.trans (hb4.mono B3.out.size)⟩
    · subst hE
      go_wp2_with fail
      refine CA.out.mono ?_
      rintro e w4 ⟨rfl, hb4⟩
      go_wp2
      go_ret
      exact ⟨rfl, B3.out.trans (hb4.mono B3.out.size)⟩
  obtain ⟨hv, hEE, hkr⟩ : validL L = true ∧ (E = 0 ∨ E = 2) ∧ kraft (natsL L) ≤ 32768 := by
    rcases HCS.out with ⟨h1, _⟩ | ⟨h1, ⟨h2, _⟩ | ⟨h2, h3⟩⟩
    · exact absurd (.inl h1) hbad
    · exact absurd (.inr h2) hbad
    · exact ⟨h1, h2, h3⟩
  have C4' := Lib.hid (C4.out (HVN.out hv).1 (HVN.out hv).2.2 hkr w3 B3.out)
  have HX := Lib.hid (show X = 0 by rw [HCE.out]; rcases hEE with h | h <;> subst h <;> rfl)
  have HM := Lib.hid (show M = codesN (natsL L) by rw [HCL.out, if_neg hbad])
  have e1 : (E == 1) = false := by rw [beq_eq_false_iff_ne]; omega
  have e8 : (E == 8) = false := by rw [beq_eq_false_iff_ne]; omega
  rw [HX.out]
  clear hv hEE hkr hbad C4 HVN HCS
  generalize codesN (natsL L) = Z at *
  go_wp2_with fail
  refine C4'.out.mono ?_
  rintro e w4 ⟨wa, wn, wc, rfl, hJ⟩
  have HJ := Lib.hid hJ
  have B4 := Lib.hid (B3.out.trans (hJ.2.2.2.mono B3.out.size))
  have HI4 := Lib.hid (HI3.out.below hJ.2.2.2)
  have hwn : cm = wn := by rw [← HCM.out, HM.out]; exact hJ.2.1
  subst hwn
  clear hJ C4'
  go_wp2
  have HC1 := Lib.hid (codes_came (HI4.out.came fun _ => rfl))
  have HC2 := Lib.hid (codes_came (HJ.out.came fun _ => rfl))
  rw [HM.out] at HC1
  have hwnb : cm ≤ 9223372036854775807 := by have := HC1.out.2.1; have := HC1.out.2.2.1; unfold maxLen at *; omega
  clear HI4 HJ
  go_loopw [7] (fun i wx => ∃ k : Nat, k ≤ cm ∧ i = .int .i64 k ∧ Below w4.heap.size w4 wx) (fun i _ => cm - (intOf i).toNat)
  case atStart => exact ⟨0, Nat.zero_le _, rfl, Below.refl _ _⟩
  case round =>
    obtain ⟨k, hk, rfl, hb⟩ := hrel
    have HB := Lib.hid hb
    clear hb
    by_cases hlt : k < cm
    · obtain ⟨b1, off1, rfl, _, hc1⟩ := CodesAt.cell (CameAt.below HC1.out (by omega) HB.out) (by omega)
      obtain ⟨b2, off2, rfl, _, hc2⟩ := CodesAt.cell (CameAt.below HC2.out (by omega) HB.out) (by omega)
      obtain ⟨x1, x2⟩ := hc1 k hlt
      obtain ⟨y1, y2⟩ := hc2 k hlt
      have hki : (k : Int) < (cm : Int) := by omega
      have pe := fun u => codes_eq ((List.map toZ Z).getD k (0, 0)) ((List.map toZ Z).getD k (0, 0)) u
      rw [decide_eq_true rfl] at pe
      clear hc1 hc2
      generalize (List.map toZ Z).getD k (0, 0) = q at *
      go_upto_region 14 with (fail)
      go_quiet (fail)
      go_wp2
      go_roundw
      case rel => exact ⟨k + 1, by omega, by go_num, below_drewN HB.out nq⟩
      case measure => simp [intOf]; omega
    · obtain rfl : k = cm := by omega
      have hki : ¬ (k : Int) < (k : Int) := by omega
      have CA := Lib.hid (awake09 wr)
      have B5 := Lib.hid (B4.out.trans (HB.out.mono B4.out.size))
      go_wp2_with fail
      refine CA.out.mono ?_
      rintro e w5 ⟨rfl, hb5⟩
      go_wp2
      go_ret
      exact ⟨rfl, B5.out.trans (hb5.mono B5.out.size)⟩

theorem own : ownKnob Try.prog.godebug = none := by kernel_rfl
theorem laidOut : laidOutB Try.prog = true := by kernel_rfl

set_option maxRecDepth 100000 in
theorem lifted (os : Os) (started : os.Started) (H : Type) (enc : TypeId × Value → H) :
    ReturnsInHanded {} Try.checked os 3 .any (Rows.canonCodesSpec.pre6 enc Try.prog Try.f3 Rows.canonCodesRow.domain false) (Rows.canonCodesSpec.post enc Try.prog Try.f3 false true false false) := by
  refine returnsInHanded_of_change (C := Try.checked) own started (by kernel_rfl) Try.func3
    (ChangeSpec.witness6 (enc := enc) (C := Try.checked) false ⟨#[], #[.slice none 0 0], []⟩ 8 (by kernel_rfl) (by kernel_rfl) (by kernel_rfl) (by kernel_rfl)) ?_
  intro W base args ds gs before hval0 hW hcnd _
  have hval : ∀ (j : Nat) t v, Try.f3.params[j]? = some t → args[j]? = some v → Value.okWide Try.prog W .any base t v := hval0
  have hW' := hW
  obtain ⟨p, q, hA0, hV, rfl, hfz, hnd⟩ := hW
  have hA : DataW.TrodAll enc Try.prog W 0 (fun _ => true) true Try.f3.params.toList args.toList ds p := hA0
  rw [Try.params3] at hA hval
  obtain ⟨v0, vs0, d0, ds0, p0, q0, hargs, rfl, rfl, h0, r0⟩ := trodAll_cons hA
  obtain ⟨rfl, rfl, rfl⟩ := trodAll_nil r0
  obtain rfl : args = #[v0] := by cases args; simp_all
  obtain ⟨rfl, rfl⟩ := trodVars_none hV
  have k0 := h0
  have lt0 : ∀ x ∈ p0, x.block < W.heap.size := by obtain ⟨m, hm⟩ := k0; exact DataW.trod_lt m _ _ _ hm
  obtain ⟨a0, len0, cap0, l0, rfl, w0, g0⟩ := ints_of (hval 0 22 v0 rfl rfl) h0
  clear hA0 hval0
  refine (walk a0 len0 cap0 l0 W w0 g0).mono fun e W' ⟨he, bel⟩ => ?_
  subst he
  exact ⟨_, rfl, _, _, _, [], _, [], hW', trodAll_mk1 (shut_bool Try.underlying4 _), (trodAll_cons_mk (Below.trod laidOut (by kernel_rfl) (of_decide_eq_true (by kernel_rfl)) k0 bel lt0) trodAll_mk0), rfl, bel.frame _, fun h => by cases h⟩

theorem proved : Rows.CanonCodesSaid :=
  OpenClaim.holds_of_wide 3 Try.f3 rfl rfl rfl rfl rfl rfl rfl ⟨rfl, rfl, rfl, rfl, rfl⟩ rfl rfl rfl rfl rfl (by kernel_rfl) Try.func3 (by kernel_rfl)
    (of_decide_eq_true (by kernel_rfl)) (by unfold Func.isWrapper; first | (rw [if_pos (by decide +kernel)]; kernel_rfl) | (rw [if_neg (by decide +kernel)]; exact ⟨rfl, rfl⟩))
    (fun os started H enc _ => lifted os started H enc)

end Go.Proofs.Ytgfdonmkhmolpaa.canonCodes
