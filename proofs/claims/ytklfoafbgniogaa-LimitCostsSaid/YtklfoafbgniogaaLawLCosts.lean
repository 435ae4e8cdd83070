/-
  The cost of any lengths is the document's, or it is refused (P10.2).
  No condition: every two slices of ints.
-/
import Derived.Test.YtklfoafbgniogaaLmZ
import Derived.Deep.CutBlock
namespace Go.Proofs.Ytklfoafbgniogaa.limitCosts
open Go.ChangeShapes Go.WideShapes Go.ChangeAt Go.RowKit Go.Deep
set_option linter.unusedVariables false
set_option linter.unusedSimpArgs false
set_option maxRecDepth 100000

def ok0 (L M : List Int) : Bool := mayK L && decide (L.length = M.length)
theorem ok_take (M : List Int) (k : Nat) (h : k < M.length) : (M.take (k + 1)).all okI = ((M.take k).all okI && okI (M.getD k 0)) := all_take M k h

set_option maxHeartbeats 8000000 in
theorem walk (a0 : Option Addr) (n0 cap0 : Nat) (L0 : List Int) (a1 : Option Addr) (n1 cap1 : Nat) (M0 : List Int) (w : World) (h0 : IntsAt w a0 n0 cap0 L0) (_ : True) (h1 : IntsAt w a1 n1 cap1 M0) (_ : True) :
    Calls Try.prog 4 #[.slice a0 n0 cap0, .slice a1 n1 cap1] w fun e w' => e = .returned (.bool true) ∧ Below w.heap.size w w' := by
  have CF := Lib.hid (lmFew_any a0 n0 cap0 L0 w h0)
  have CG := Lib.hid (lmFew_any a1 n1 cap1 M0 w h1)
  clear h0 h1
  go_enter Try.func4, Try.ntmps4
  go_wp2_with fail
  refine CF.out.mono ?_
  rintro e w0 ⟨rfl, n, L, rfl, hL, hn⟩
  go_wp2_with fail
  refine CG.out.mono ?_
  rintro e w0 ⟨rfl, m, M, rfl, hM, hm⟩
  have HL := Lib.hid hL
  have HM := Lib.hid hM
  have HLN := Lib.hid hL.1
  have HMN := Lib.hid hM.1
  have C1 := Lib.hid (limCost_any a0 n cap0 L a1 m cap1 M w hL hM)
  have C2 := Lib.hid (fun u (hb : Below w.heap.size w u) => lmMay_any a0 n cap0 L u (CameAt.below hL (by omega) hb))
  have HV := Lib.hid (mayK_nats L)
  have HOK := Lib.hid (show costOk L M = (ok0 L M && M.all okI) from rfl)
  have HCV := Lib.hid (show costV L M = if costOk L M = true then ((costTo L M m : Nat) : Int) else 0 by unfold costV costN costTo; rw [hM.1])
  have HCE := Lib.hid (show costE L M = if costOk L M = true then 0 else 1 from rfl)
  have HO0 := Lib.hid (show ok0 L M = (mayK L && decide (n = m)) by unfold ok0; rw [hL.1, hM.1])
  have HAL := Lib.hid (fun k (hk : k < m) => ok_take M k (by rw [hM.1]; exact hk))
  have HCT := Lib.hid (costTo_succ L M)
  generalize costV L M = V at *
  generalize costE L M = E at *
  clear CF CG hL hM
  go_wp2_with fail
  refine C1.out.mono ?_
  rintro e w1 ⟨rfl, hb1⟩
  have B1 := Lib.hid hb1
  have C2' := Lib.hid (C2.out w1 hb1)
  clear C1 C2 hb1
  go_upto_region 3 with (fail)
  go_cut [7] (fun s7 wx => wx = w1 ∧ s7 = .bool (ok0 L M))
  case first =>
    cases hmy : mayK L with
    | false =>
      have HX := Lib.hid (show ok0 L M = false by rw [HO0.out, hmy]; rfl)
      rw [hmy] at C2'
      clear hmy
      go_wp2_with fail
      refine C2'.out.mono ?_
      rintro e w2 ⟨rfl, rfl⟩
      go_wp2
      go_meet
      exact ⟨rfl, by rw [HX.out]⟩
    | true =>
      rw [hmy] at C2'
      by_cases hnm : n = m
      · have HX := Lib.hid (show ok0 L M = true by rw [HO0.out, hmy, decide_eq_true hnm]; rfl)
        have hnb : ((n : Int) == (m : Int)) = true := by rw [beq_iff_eq]; omega
        clear hmy hnm
        go_wp2_with fail
        refine C2'.out.mono ?_
        rintro e w2 ⟨rfl, rfl⟩
        go_wp2
        go_meet
        exact ⟨rfl, by rw [HX.out]⟩
      · have HX := Lib.hid (show ok0 L M = false by rw [HO0.out, hmy, decide_eq_false hnm]; rfl)
        have hnb : ((n : Int) == (m : Int)) = false := by rw [beq_eq_false_iff_ne]; omega
        clear hmy hnm
        go_wp2_with fail
        refine C2'.out.mono ?_
        rintro e w2 ⟨rfl, rfl⟩
        go_wp2
        go_meet
        exact ⟨rfl, by rw [HX.out]⟩
  case rest =>
  obtain ⟨hwc, rfl⟩ := hcut
  have hwc' := hwc.symm
  clear hwc
  subst hwc'
  have HB0 := Lib.hid (show ok0 L M = true → n = m ∧ mayK L = true from fun h => by rw [HO0.out] at h; simp at h; exact ⟨h.2, h.1⟩)
  have HAT := Lib.hid (fun (h : ok0 L M = true) i (hi : i < m) => show 0 ≤ L.getD i 0 ∧ L.getD i 0 ≤ 2147483647 from (HV.out (HB0.out h).2).2 _ (by rw [List.getD, List.getElem?_eq_getElem (by rw [HLN.out, (HB0.out h).1]; exact hi)]; exact List.getElem_mem _))
  have HEND := Lib.hid (show ∀ b, b = (ok0 L M && M.all okI) → V = (if b = true then ((costTo L M m : Nat) : Int) else 0) ∧ E = if b = true then 0 else 1 from fun b hb => by rw [HCV.out, HCE.out, HOK.out, hb]; exact ⟨rfl, rfl⟩)
  have HMT := Lib.hid (show M.take m = M from List.take_of_length_le (by rw [HMN.out]; exact Nat.le_refl _))
  have CA := Lib.hid (fun u => awake10 u)
  generalize hok : ok0 L M = o0 at *
  clear HCV HCE HOK HO0 HV hok C2'
  go_wp2
  go_loopw [7, 8, 9] (fun so sv si wx => ∃ (i v : Nat) (ob : Bool), i ≤ m ∧ si = .int .i64 (i : Int) ∧ so = .bool ob ∧ sv = .int .i64 (v : Int) ∧ ob = (o0 && (M.take i).all okI) ∧ (ob = true → v = costTo L M i ∧ v ≤ i * 32212254720) ∧ wx = w1) (fun _ _ si _ => m - (intOf si).toNat)
  case atStart => exact ⟨0, 0, o0, Nat.zero_le _, rfl, rfl, rfl, by simp, fun _ => ⟨rfl, by omega⟩, rfl⟩
  case round =>
    obtain ⟨i, v, ob, hi, rfl, rfl, rfl, hob, hv, rfl⟩ := hrel
    have HOB := Lib.hid hob
    have HVV := Lib.hid hv
    clear hob hv
    cases ob with
    | false =>
      have HF := Lib.hid (HEND.out false (by
        have h := HOB.out
        cases ho : o0 with
        | false => rfl
        | true =>
          rw [ho, Bool.true_and] at h
          rw [Bool.true_and]
          rcases Nat.lt_or_ge i m with hlt | hge
          · obtain ⟨x, hx, hxo⟩ := List.all_eq_false.1 h.symm
            exact (List.all_eq_false.2 ⟨x, List.mem_of_mem_take hx, hxo⟩).symm
          · rw [show i = m by omega, HMT.out] at h; exact h))
      have HF1 := Lib.hid (show V = 0 from HF.out.1)
      have HF2 := Lib.hid (show E = 1 from HF.out.2)
      rw [HF1.out, HF2.out]
      clear HF HEND
      go_wp2_with fail
      refine (CA.out _).mono ?_
      rintro e w9 ⟨rfl, hb9⟩
      go_wp2
      go_ret
      exact ⟨rfl, B1.out.trans (hb9.mono B1.out.size)⟩
    | true =>
      obtain ⟨hv1, hv2⟩ := HVV.out rfl
      have hoo : o0 = true ∧ (M.take i).all okI = true := by have := HOB.out; simpa using this.symm
      by_cases hlt : i < m
      · obtain ⟨b, off, rfl, _, hc⟩ := IntsAt.cell (CameAt.below HM.out (by omega) B1.out) (by omega)
        have x1 := hc i hlt
        have hal := HAL.out i hlt
        rw [hoo.2, Bool.true_and] at hal
        have hii : (i : Int) < m := by omega
        obtain ⟨hnm, _⟩ := HB0.out hoo.1
        obtain ⟨b2, off2, rfl, _, hc2⟩ := IntsAt.cell (CameAt.below HL.out (by omega) B1.out) (by omega)
        have x2 := hc2 i (by omega)
        have hat := HAT.out hoo.1 i hlt
        have hct := HCT.out i
        have hin : (i : Int) < n := by omega
        have HO := Lib.hid hoo.1
        have HV1 := Lib.hid hv1
        clear hc hc2 hoo hv1 hnm
        generalize M.getD i 0 = z at *
        generalize L.getD i 0 = q at *
        obtain ⟨c, rfl⟩ : ∃ c : Nat, q = c := ⟨q.toNat, by omega⟩
        have hcb : c ≤ 2147483647 := by omega
        rw [Int.toNat_natCast] at hct
        clear hat
        by_cases hgood : 0 ≤ z ∧ z ≤ 15
        · obtain ⟨y, rfl⟩ : ∃ y : Nat, z = y := ⟨z.toNat, by omega⟩
          have hy : y ≤ 15 := by omega
          rw [Int.toNat_natCast] at hct
          have HNO := Lib.hid (show true = (o0 && (M.take (i + 1)).all okI) by rw [HO.out, hal]; unfold okI; simp; omega)
          have HNV := Lib.hid (show v + c * y = costTo L M (i + 1) by rw [hct, HV1.out])
          have hcy : c * y ≤ 32212254720 := by have := Nat.mul_le_mul hcb hy; omega
          have hvb : v + c * y ≤ (i + 1) * 32212254720 := by omega
          have hi322 : i ≤ 322 := by omega
          have hv3 : v ≤ 10372346019840 := by omega
          have hyd : decide ((y : Int) ≤ 15) = true := decide_eq_true (by omega)
          clear hal hct hgood
          go_wp2
          go_loopw [8, 10] (fun sv sk wx => ∃ (k u : Nat), k ≤ y ∧ sk = .int .i64 (k : Int) ∧ sv = .int .i64 (u : Int) ∧ u = v + c * k ∧ wx = wr) (fun _ sk _ => y - (intOf sk).toNat)
          case atStart => exact ⟨0, v, Nat.zero_le _, rfl, rfl, by simp, rfl⟩
          case round =>
            obtain ⟨k, u, hk, rfl, rfl, hu, rfl⟩ := hrel
            have hck : c * k ≤ 32212254720 := Nat.le_trans (Nat.mul_le_mul_left c hk) hcy
            have hub : u ≤ 11000000000000 := by omega
            by_cases hlk : k < y
            · have hki : (k : Int) < y := by omega
              have HU := Lib.hid (show u + c = v + c * (k + 1) by rw [hu, Nat.mul_add, Nat.mul_one]; omega)
              clear hu hck hcy hvb
              go_wp2
              go_roundw
              case rel => exact ⟨k + 1, u + c, by omega, by go_num, by go_num, HU.out, trivial⟩
              case measure => simp [intOf]; omega
            · obtain rfl : k = y := by omega
              have hki : ¬ (k : Int) < k := by omega
              have HU := Lib.hid hu
              clear hu hck
              go_wp2
              go_roundw
              case rel => exact ⟨i + 1, u, true, by omega, by go_num, rfl, rfl, HNO.out, fun _ => ⟨by rw [HU.out, HNV.out], by rw [HU.out]; exact hvb⟩, trivial⟩
              case measure => simp [intOf]; omega
        · have HNO := Lib.hid (show false = (o0 && (M.take (i + 1)).all okI) by
            rw [hal]
            have : okI z = false := by unfold okI; simp; omega
            rw [this]; simp)
          clear hal hct
          by_cases hneg : 0 ≤ z
          · have hz15 : ¬ z ≤ 15 := fun h => hgood ⟨hneg, h⟩
            clear hgood
            go_wp2
            go_loopw [8, 10] (fun sv sk wx => sv = .int .i64 (v : Int) ∧ wx = wr) (fun _ _ _ => 0)
            case atStart => exact ⟨rfl, rfl⟩
            case round =>
              obtain ⟨rfl, rfl⟩ := hrel
              go_wp2
              go_roundw
              case rel => exact ⟨i + 1, v, false, by omega, by go_num, rfl, rfl, HNO.out, (fun h => (by cases h)), trivial⟩
              case measure => simp [intOf]; omega
          · clear hgood
            go_wp2
            go_loopw [8, 10] (fun sv sk wx => sv = .int .i64 (v : Int) ∧ wx = wr) (fun _ _ _ => 0)
            case atStart => exact ⟨rfl, rfl⟩
            case round =>
              obtain ⟨rfl, rfl⟩ := hrel
              go_wp2
              go_roundw
              case rel => exact ⟨i + 1, v, false, by omega, by go_num, rfl, rfl, HNO.out, (fun h => (by cases h)), trivial⟩
              case measure => simp [intOf]; omega
      · obtain rfl : i = m := by omega
        have hii : ¬ (i : Int) < i := by omega
        have HF := Lib.hid (HEND.out true (by rw [HOB.out, HMT.out]))
        have HF1 := Lib.hid (show V = (v : Int) by rw [HF.out.1, hv1]; rfl)
        have HF2 := Lib.hid (show E = 0 from HF.out.2)
        rw [HF1.out, HF2.out]
        clear HF HEND hv1 hoo
        go_wp2_with fail
        refine (CA.out _).mono ?_
        rintro e w9 ⟨rfl, hb9⟩
        go_wp2
        go_ret
        exact ⟨rfl, B1.out.trans (hb9.mono B1.out.size)⟩

theorem own : ownKnob Try.prog.godebug = none := by kernel_rfl
theorem laidOut : laidOutB Try.prog = true := by kernel_rfl

set_option maxRecDepth 100000 in
theorem lifted (os : Os) (started : os.Started) (H : Type) (enc : TypeId × Value → H) :
    ReturnsInHanded {} Try.checked os 4 .any (Rows.limitCostsSpec.pre6 enc Try.prog Try.f4 Rows.limitCostsRow.domain false) (Rows.limitCostsSpec.post enc Try.prog Try.f4 false true false false) := by
  refine returnsInHanded_of_change (C := Try.checked) own started (by kernel_rfl) Try.func4
    (ChangeSpec.witness6 (enc := enc) (C := Try.checked) false ⟨#[], #[.slice none 0 0, .slice none 0 0], []⟩ 8 (by kernel_rfl) (by kernel_rfl) (by kernel_rfl) (by kernel_rfl)) ?_
  intro W base args ds gs before hval0 hW hcnd _
  have hval : ∀ (j : Nat) t v, Try.f4.params[j]? = some t → args[j]? = some v → Value.okWide Try.prog W .any base t v := hval0
  have hW' := hW
  obtain ⟨p, q, hA0, hV, rfl, hfz, hnd⟩ := hW
  have hA : DataW.TrodAll enc Try.prog W 0 (fun _ => true) true Try.f4.params.toList args.toList ds p := hA0
  rw [Try.params4] at hA hval
  obtain ⟨v0, vs0, d0, ds0, p0, q0, hargs, rfl, rfl, h0, r0⟩ := trodAll_cons hA
  obtain ⟨v1, vs1, d1, ds1, p1, q1, rfl, rfl, rfl, h1, r1⟩ := trodAll_cons r0
  obtain ⟨rfl, rfl, rfl⟩ := trodAll_nil r1
  obtain rfl : args = #[v0, v1] := by cases args; simp_all
  obtain ⟨rfl, rfl⟩ := trodVars_none hV
  have k0 := h0
  have lt0 : ∀ x ∈ p0, x.block < W.heap.size := by obtain ⟨m, hm⟩ := k0; exact DataW.trod_lt m _ _ _ hm
  obtain ⟨a0, len0, cap0, l0, rfl, w0, g0⟩ := ints_of (hval 0 22 v0 rfl rfl) h0
  have k1 := h1
  have lt1 : ∀ x ∈ p1, x.block < W.heap.size := by obtain ⟨m, hm⟩ := k1; exact DataW.trod_lt m _ _ _ hm
  obtain ⟨a1, len1, cap1, l1, rfl, w1, g1⟩ := ints_of (hval 1 22 v1 rfl rfl) h1
  clear hA0 hval0
  refine (walk a0 len0 cap0 l0 a1 len1 cap1 l1 W w0 g0 w1 g1).mono fun e W' ⟨he, bel⟩ => ?_
  subst he
  exact ⟨_, rfl, _, _, _, [], _, [], hW', trodAll_mk1 (shut_bool Try.underlying4 _), (trodAll_cons_mk (Below.trod laidOut (by kernel_rfl) (of_decide_eq_true (by kernel_rfl)) k0 bel lt0) (trodAll_cons_mk (Below.trod laidOut (by kernel_rfl) (of_decide_eq_true (by kernel_rfl)) k1 bel lt1) trodAll_mk0)), rfl, bel.frame _, fun h => by cases h⟩

theorem proved : Rows.LimitCostsSaid :=
  OpenClaim.holds_of_wide 4 Try.f4 rfl rfl rfl rfl rfl rfl rfl ⟨rfl, rfl, rfl, rfl, rfl⟩ rfl rfl rfl rfl rfl (by kernel_rfl) Try.func4 (by kernel_rfl)
    (of_decide_eq_true (by kernel_rfl)) (by unfold Func.isWrapper; first | (rw [if_pos (by decide +kernel)]; kernel_rfl) | (rw [if_neg (by decide +kernel)]; exact ⟨rfl, rfl⟩))
    (fun os started H enc _ => lifted os started H enc)

end Go.Proofs.Ytklfoafbgniogaa.limitCosts
