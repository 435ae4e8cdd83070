/-
  MatchLongest: at no place is there a longer match than the best one, nor one as long that is nearer.
-/
import Derived.Test.YtonfppbijofapaaMaZ
import Derived.Test.YtonfppbijofapaaOpen
import Derived.Deep.QuietTactic
import Derived.BigQuiet
namespace Go.Proofs.Ytonfppbijofapaa.matchLongest
open Go.ChangeShapes Go.WideShapes Go.ChangeAt Go.RowKit Go.Deep
set_option linter.unusedVariables false
set_option linter.unusedSimpArgs false
set_option maxRecDepth 100000

set_option maxHeartbeats 8000000 in
theorem walk (a : Option Addr) (n cap : Nat) (b : List UInt8) (at_ dist : Int) (w : World) (h0 : BytesAt w a n cap b) (hm : (Lit.int .i64 at_).wf = true) (hm2 : (Lit.int .i64 dist).wf = true) :
    Calls Try.prog 7 #[.slice a n cap, .int .i64 at_, .int .i64 dist] w fun e w' => e = .returned (.bool true) ∧ Below w.heap.size w w' := by
  have CF := Lib.hid (maFew_any a n cap b w h0)
  have CA := Lib.hid (fun u => awake11 u)
  have HWF := Lib.hid hm
  clear h0 hm hm2
  go_enter Try.func7, Try.ntmps7
  go_wp2_with fail
  refine CF.out.mono ?_
  rintro e w0 ⟨rfl, n, b, rfl, hB, hn⟩
  have HL := Lib.hid hB.1
  have C1 := Lib.hid (matBest_any a n cap b at_ w hB HWF.out)
  by_cases hbig : 65536 < n
  · have hA : bestA b at_ = (0, 0, 5) := by unfold bestA; rw [if_pos (by rw [HL.out]; exact hbig)]
    rw [hA] at C1
    clear hA hB
    go_wp2_with fail
    refine C1.out.mono ?_
    rintro e w1 ⟨rfl, hb1⟩
    have B1 := Lib.hid hb1
    clear hb1 C1
    go_wp2_with fail
    refine (CA.out _).mono ?_
    rintro e w9 ⟨rfl, hb9⟩
    go_wp2
    go_ret
    exact ⟨rfl, B1.out.trans (hb9.mono B1.out.size)⟩
  by_cases hr : at_ < 0 ∨ (n : Int) ≤ at_
  · have hA : bestA b at_ = (0, 0, 4) := by unfold bestA; rw [if_neg (by rw [HL.out]; omega), if_pos (by rw [HL.out]; exact hr)]
    rw [hA] at C1
    clear hA hB hr
    go_wp2_with fail
    refine C1.out.mono ?_
    rintro e w1 ⟨rfl, hb1⟩
    have B1 := Lib.hid hb1
    clear hb1 C1
    go_wp2_with fail
    refine (CA.out _).mono ?_
    rintro e w9 ⟨rfl, hb9⟩
    go_wp2
    go_ret
    exact ⟨rfl, B1.out.trans (hb9.mono B1.out.size)⟩
  obtain ⟨p, rfl⟩ : ∃ p : Nat, at_ = p := ⟨at_.toNat, by omega⟩
  have hA : bestA b p = ((((bestM b p).1 : Nat) : Int), (((bestM b p).2 : Nat) : Int), 0) := by unfold bestA; rw [if_neg (by rw [HL.out]; omega), if_neg (by rw [HL.out]; omega), Int.toNat_natCast]
  rw [hA] at C1
  have HSP := Lib.hid (bestM_spec b p (by rw [HL.out]; omega))
  have HB := Lib.hid hB
  have hpn : p < n := by omega
  clear hA hr hB
  by_cases hd1 : dist < 1
  · clear HSP
    generalize (bestM b p).1 = x at *
    generalize (bestM b p).2 = y at *
    go_wp2_with fail
    refine C1.out.mono ?_
    rintro e w1 ⟨rfl, hb1⟩
    have B1 := Lib.hid hb1
    clear hb1 C1
    go_wp2_with fail
    refine (CA.out _).mono ?_
    rintro e w9 ⟨rfl, hb9⟩
    go_wp2
    go_ret
    exact ⟨rfl, B1.out.trans (hb9.mono B1.out.size)⟩
  by_cases hd2 : 32768 < dist
  · clear HSP
    generalize (bestM b p).1 = x at *
    generalize (bestM b p).2 = y at *
    go_wp2_with fail
    refine C1.out.mono ?_
    rintro e w1 ⟨rfl, hb1⟩
    have B1 := Lib.hid hb1
    clear hb1 C1
    go_wp2_with fail
    refine (CA.out _).mono ?_
    rintro e w9 ⟨rfl, hb9⟩
    go_wp2
    go_ret
    exact ⟨rfl, B1.out.trans (hb9.mono B1.out.size)⟩
  by_cases hd3 : (p : Int) < dist
  · clear HSP
    generalize (bestM b p).1 = x at *
    generalize (bestM b p).2 = y at *
    go_wp2_with fail
    refine C1.out.mono ?_
    rintro e w1 ⟨rfl, hb1⟩
    have B1 := Lib.hid hb1
    clear hb1 C1
    go_wp2_with fail
    refine (CA.out _).mono ?_
    rintro e w9 ⟨rfl, hb9⟩
    go_wp2
    go_ret
    exact ⟨rfl, B1.out.trans (hb9.mono B1.out.size)⟩
  obtain ⟨d, rfl⟩ : ∃ d : Nat, dist = d := ⟨dist.toNat, by omega⟩
  have hdp : d ≤ p := by omega
  have q1 : decide (p < d) = false := decide_eq_false (by omega)
  have q2 : decide ((d : Int) < 1) = false := decide_eq_false (by omega)
  have q3 : decide ((32768 : Int) < (d : Int)) = false := decide_eq_false (by omega)
  have HTA := Lib.hid (show ((bestM b p).1 = 0 ∧ (bestM b p).2 = 0 ∧ runM b p d < 3) ∨ (3 ≤ (bestM b p).1 ∧ (bestM b p).1 ≠ 0 ∧ runM b p d ≤ (bestM b p).1 ∧ (runM b p d < (bestM b p).1 ∨ (bestM b p).2 ≤ d)) by
    rcases HSP.out with ⟨h1, h2⟩ | ⟨h1, h2, h3, h4, h5, h6, h7, h8⟩
    · rw [h1]; exact .inl ⟨rfl, rfl, h2 d (by omega) (by omega) (by omega)⟩
    · obtain ⟨h9, h10⟩ := h8 d (by omega) (by omega) (by omega)
      refine .inr ⟨h1, by omega, h9, ?_⟩
      rcases Nat.lt_or_ge d (bestM b p).2 with h | h
      · exact .inl (h10 h)
      · exact .inr h)
  have HRM := Lib.hid (fun j (hj : j < 258) => run_more b p d j hj)
  have HRS := Lib.hid (fun j => run_stop b p d j)
  clear HSP
  generalize (bestM b p).1 = x at *
  generalize (bestM b p).2 = y at *
  have HN := Lib.hid HL.out
  go_wp2_with fail
  refine C1.out.mono ?_
  rintro e w1 ⟨rfl, hb1⟩
  have B1 := Lib.hid hb1
  clear hb1 C1
  have H0 := Lib.hid (show runM b p d = 0 + runMN b p d 0 (258 - 0) by rw [Nat.zero_add]; rfl)
  go_wp2
  go_loopw [10] (fun sn wr => ∃ j : Nat, j ≤ 258 ∧ sn = .int .i64 (j : Int) ∧ runM b p d = j + runMN b p d j (258 - j) ∧ Below w1.heap.size w1 wr) (fun sn _ => 258 - (intOf sn).toNat)
  case atStart => exact ⟨0, by omega, rfl, H0.out, Below.refl _ _⟩
  case round =>
    obtain ⟨j, hj, rfl, hrun, hb2⟩ := hrel
    rename World => wr
    have HB2 := Lib.hid hb2
    have HRUN := Lib.hid hrun
    clear hb2 hrun
    have HBB := Lib.hid (B1.out.trans (HB2.out.mono B1.out.size))
    have hstop : ¬ (j < 258 ∧ p + j < b.length ∧ b.getD (p + j) 0 = b.getD (p + j - d) 0) → runM b p d = j := fun hh => HRS.out j hh HRUN.out
    have HSTOP := Lib.hid hstop
    clear hstop
    go_upto_region 6 with (fail)
    go_cut [74] (fun s74 wy => Below wr.heap.size wr wy ∧ ∃ bb, s74 = .bool bb ∧ (bb = true → j < 258 ∧ runM b p d = (j + 1) + runMN b p d (j + 1) (258 - (j + 1))) ∧ (bb = false → runM b p d = j))
    case first =>
      by_cases c1 : j < 258
      · have c1i : (j : Int) < 258 := by omega
        by_cases c2 : p + j < n
        · have c2i : (p : Int) + j < n := by omega
          obtain ⟨g, off, rfl, hc⟩ := (HB.out.below HBB.out).at (by omega)
          have x1 := hc (p + j) c2
          have x2 := hc (p + j - d) (by omega)
          have hmore := HRM.out j c1
          obtain ⟨X, hX⟩ : ∃ X, X = b.getD (p + j) 0 := ⟨_, rfl⟩
          obtain ⟨Y, hY⟩ : ∃ Y, Y = b.getD (p + j - d) 0 := ⟨_, rfl⟩
          rw [← hX] at x1 hmore
          rw [← hY] at x2 hmore
          have HX := Lib.hid hX
          have HY := Lib.hid hY
          clear hX hY hc
          have e1 : ((p : Int) + j).toNat = p + j := by omega
          have e2 : ((p : Int) + j - d).toNat = p + j - d := by omega
          have e3 : ¬ ((p : Int) + j - d < 0) := by omega
          have e4 : (p : Int) + j - d < n := by omega
          by_cases c3 : X = Y
          · have HM := Lib.hid (hmore ⟨by rw [HN.out]; exact c2, c3⟩ HRUN.out)
            have HC1 := Lib.hid c1
            subst c3
            clear hmore
            go_quiet (fail)
            go_wp2
            go_meet
            exact ⟨below_drewN (Below.refl _ _) _, true, rfl, fun _ => ⟨HC1.out, HM.out⟩, fun h => (by cases h)⟩
          · have hc3 : ¬ ((X.toNat : Int) = Y.toNat) := fun hh => c3 (UInt8.toNat_inj.1 (by omega))
            have hc3b : ((X.toNat : Int) == Y.toNat) = false := by simpa using hc3
            have HJ := Lib.hid (HSTOP.out (fun hh => c3 (by rw [HX.out, HY.out]; exact hh.2.2)))
            clear c3 hc3 hmore
            go_quiet (fail)
            go_wp2
            go_meet
            exact ⟨below_drewN (Below.refl _ _) _, false, rfl, fun h => (by cases h), fun _ => HJ.out⟩
        · have c2i : ¬ (p : Int) + j < n := by omega
          have HJ := Lib.hid (HSTOP.out (fun hh => c2 (by rw [← HN.out]; exact hh.2.1)))
          go_quiet (fail)
          go_wp2
          go_meet
          exact ⟨below_drewN (Below.refl _ _) _, false, rfl, fun h => (by cases h), fun _ => HJ.out⟩
      · have c1i : ¬ (j : Int) < 258 := by omega
        have HJ := Lib.hid (HSTOP.out (fun hh => c1 hh.1))
        go_quiet (fail)
        go_wp2
        go_meet
        exact ⟨below_drewN (Below.refl _ _) _, false, rfl, fun h => (by cases h), fun _ => HJ.out⟩
    case rest =>
    obtain ⟨hwy, bb, rfl, ht, hf⟩ := hcut
    rename World => wy
    have HWY := Lib.hid (HB2.out.trans (hwy.mono HB2.out.size))
    have B3 := Lib.hid (B1.out.trans (HWY.out.mono B1.out.size))
    clear hwy
    cases bb with
    | true =>
      have HT := Lib.hid (ht rfl)
      have hjl := HT.out.1
      clear ht hf
      go_wp2
      go_roundw
      case rel => exact ⟨j + 1, by omega, by go_num, HT.out.2, HWY.out⟩
      case measure => simp [intOf]; omega
    | false =>
      have hk := hf rfl
      have hta := HTA.out
      rw [hk] at hta
      clear ht hf hk HTA HRM HRS HSTOP HRUN H0
      rcases hta with ⟨rfl, rfl, h3⟩ | ⟨h3, h0, h4, h5⟩
      · have h3i : (j : Int) < 3 := by omega
        go_wp2_with fail
        refine (CA.out _).mono ?_
        rintro e w9 ⟨rfl, hb9⟩
        go_wp2
        go_ret
        exact ⟨rfl, B3.out.trans (hb9.mono B3.out.size)⟩
      · have h3i : (3 : Int) ≤ (x : Int) := by omega
        have h0b : ((x : Int) == 0) = false := by rw [beq_eq_false_iff_ne]; omega
        have h4i : (j : Int) ≤ (x : Int) := by omega
        by_cases h6 : j < x
        · have h6i : (j : Int) < (x : Int) := by omega
          clear h5 h0
          go_wp2_with fail
          refine (CA.out _).mono ?_
          rintro e w9 ⟨rfl, hb9⟩
          go_wp2
          go_ret
          exact ⟨rfl, B3.out.trans (hb9.mono B3.out.size)⟩
        · have h6i : ¬ (j : Int) < (x : Int) := by omega
          have h7i : (y : Int) ≤ (d : Int) := by omega
          clear h5 h0
          go_wp2_with fail
          refine (CA.out _).mono ?_
          rintro e w9 ⟨rfl, hb9⟩
          go_wp2
          go_ret
          exact ⟨rfl, B3.out.trans (hb9.mono B3.out.size)⟩
theorem own : ownKnob Try.prog.godebug = none := by kernel_rfl
theorem laidOut : laidOutB Try.prog = true := by kernel_rfl

set_option maxRecDepth 100000 in
theorem lifted (os : Os) (started : os.Started) (H : Type) (enc : TypeId × Value → H) :
    ReturnsInHanded {} Try.checked os 7 .any (Rows.matchLongestSpec.pre6 enc Try.prog Try.f7 Rows.matchLongestRow.domain false) (Rows.matchLongestSpec.post enc Try.prog Try.f7 false true false false) := by
  refine returnsInHanded_of_change (C := Try.checked) own started (by kernel_rfl) Try.func7
    (ChangeSpec.witness6 (enc := enc) (C := Try.checked) false ⟨#[], #[.slice none 0 0, .int .i64 0, .int .i64 0], []⟩ 8 (by kernel_rfl) (by kernel_rfl) (by kernel_rfl) (by kernel_rfl)) ?_
  intro W base args ds gs before hval0 hW hcnd _
  have hval : ∀ (j : Nat) t v, Try.f7.params[j]? = some t → args[j]? = some v → Value.okWide Try.prog W .any base t v := hval0
  have hW' := hW
  obtain ⟨p, q, hA0, hV, rfl, hfz, hnd⟩ := hW
  have hA : DataW.TrodAll enc Try.prog W 0 (fun _ => true) true Try.f7.params.toList args.toList ds p := hA0
  rw [Try.params7] at hA hval
  obtain ⟨v0, vs0, d0, ds0, p0, q0, hargs, rfl, rfl, h0, r0⟩ := trodAll_cons hA
  obtain ⟨v1, vs1, d1, ds1, p1, q1, rfl, rfl, rfl, h1, r1⟩ := trodAll_cons r0
  obtain ⟨v2, vs2, d2, ds2, p2, q2, rfl, rfl, rfl, h2, r2⟩ := trodAll_cons r1
  obtain ⟨rfl, rfl, rfl⟩ := trodAll_nil r2
  obtain rfl : args = #[v0, v1, v2] := by cases args; simp_all
  obtain ⟨rfl, rfl⟩ := trodVars_none hV
  have k0 := h0
  have lt0 : ∀ x ∈ p0, x.block < W.heap.size := by obtain ⟨m, hm⟩ := k0; exact DataW.trod_lt m _ _ _ hm
  obtain ⟨a0, len0, cap0, rfl⟩ := okWide_slice Try.underlying22 (hval 0 22 v0 rfl rfl)
  obtain ⟨l0, w0⟩ : ∃ l, BytesAt W a0 len0 cap0 l := by
    obtain ⟨fuel, hf⟩ := h0
    rcases open_ints Try.underlying22 Try.underlying5 (by kernel_rfl) hf with ⟨hcs, _⟩ | ⟨x, l, c, zs, hcs, _, hl, hm, hz, _, hcell, hwz⟩
    · simp [Value.cells] at hcs
      obtain ⟨rfl, rfl, rfl⟩ := hcs
      exact ⟨[], BytesAt.nil W⟩
    · simp [Value.cells] at hcs
      obtain ⟨rfl, rfl, rfl⟩ := hcs
      exact ⟨_, BytesAt.of_row hl hm (by simpa using hz) hcell hwz⟩
  obtain ⟨a1, rfl, rfl, rfl, w1⟩ := open_int Try.underlying3 (hval 1 3 v1 rfl rfl) h1
  obtain ⟨a2, rfl, rfl, rfl, w2⟩ := open_int Try.underlying3 (hval 2 3 v2 rfl rfl) h2
  clear hA0 hval0
  refine (walk a0 len0 cap0 l0 a1 a2 W w0 w1 w2).mono fun e W' ⟨he, bel⟩ => ?_
  subst he
  exact ⟨_, rfl, _, _, _, [], _, [], hW', trodAll_mk1 (shut_bool Try.underlying4 _), (trodAll_cons_mk (Below.trod laidOut (by kernel_rfl) (of_decide_eq_true (by kernel_rfl)) k0 bel lt0) (trodAll_cons_mk (shut_int Try.underlying3 w1) (trodAll_cons_mk (shut_int Try.underlying3 w2) trodAll_mk0))), rfl, bel.frame _, fun h => by cases h⟩

theorem proved : Rows.MatchLongestSaid :=
  OpenClaim.holds_of_wide 7 Try.f7 rfl rfl rfl rfl rfl rfl rfl ⟨rfl, rfl, rfl, rfl, rfl⟩ rfl rfl rfl rfl rfl (by kernel_rfl) Try.func7 (by kernel_rfl)
    (of_decide_eq_true (by kernel_rfl)) (by unfold Func.isWrapper; first | (rw [if_pos (by decide +kernel)]; kernel_rfl) | (rw [if_neg (by decide +kernel)]; exact ⟨rfl, rfl⟩))
    (fun os started H enc _ => lifted os started H enc)

end Go.Proofs.Ytonfppbijofapaa.matchLongest
