/-
  NO OTHER IS BETTER: no lengths that are not too many, none above the bound, none missing of a symbol that comes, cost less (P10.3).
  No condition: every two slices of ints, every bound.
-/
import Derived.Test.YtklfoafbgniogaaLmZ
import Derived.Test.YtklfoafbgniogaaLawLWhole
import Derived.Deep.CutBlock
namespace Go.Proofs.Ytklfoafbgniogaa.limitBest
open Go.ChangeShapes Go.WideShapes Go.ChangeAt Go.RowKit Go.Deep
open Go.Proofs.Ytklfoafbgniogaa.limitWhole (lensE_ok natsL_of nat_at)
set_option linter.unusedVariables false
set_option linter.unusedSimpArgs false
set_option maxRecDepth 100000

def pB (L O : List Int) (m : Int) (j : Nat) : Bool := decide (O.getD j 0 ≤ m) && (decide (0 < O.getD j 0) || decide (L.getD j 0 = 0))
def allP (L O : List Int) (m : Int) (i : Nat) : Bool := (List.range i).all (pB L O m)
theorem allP_succ (L O : List Int) (m : Int) (i : Nat) : allP L O m (i + 1) = (allP L O m i && pB L O m i) := by unfold allP; rw [List.range_succ, List.all_append]; simp
theorem check_right (O : List Int) (h : checkE O = 0 ∨ checkE O = 2) : validL O = true ∧ kraft (natsL O) ≤ 32768 := by
  unfold checkE at h
  split at h
  · simp at h
  · rename_i hv
    split at h
    · simp at h
    · exact ⟨by simpa using hv, by omega⟩
theorem sum_range_congr (n : Nat) (f g : Nat → Nat) (h : ∀ i, i < n → f i = g i) : ((List.range n).map f).sum = ((List.range n).map g).sum := by
  congr 1
  apply List.map_congr_left
  intro i hi
  exact h i (List.mem_range.1 hi)
theorem natsK_get (L : List Int) (i : Nat) : (natsK L).getD i 0 = (L.getD i 0).toNat := natsK_at L i
theorem natsL_get (L : List Int) (i : Nat) : (natsL L).getD i 0 = (L.getD i 0).toNat := by
  unfold natsL
  simp only [List.getD, List.getElem?_map]
  cases L[i]? <;> rfl
/-- the costs, one beside the other -/
theorem best_cost (L O : List Int) (m : Int) (hE : lensE L m = 0) (hl : O.length = L.length) (hc : checkE O = 0 ∨ checkE O = 2) (hp : allP L O m O.length = true) :
    costE L (lensL L m) = 0 ∧ costE L O = 0 ∧ costV L (lensL L m) ≤ costV L O := by
  obtain ⟨hmy, K, rfl, hK1, hK15, hco, hMM⟩ := lensE_ok L m hE
  obtain ⟨hv, hkr⟩ := check_right O hc
  rw [hMM]
  obtain ⟨cs, hcs⟩ : ∃ cs, cs = natsK L := ⟨_, rfl⟩
  rw [← hcs] at hco ⊢
  have hcl : cs.length = L.length := by rw [hcs]; unfold natsK; rw [List.length_map]
  have hlen : ((lengthsN cs K).map Int.ofNat).length = L.length := by rw [List.length_map, lengthsN_len, hcl]
  have hat : ∀ i, i < cs.length → ((lengthsN cs K).getD i 0 = 0 ↔ cs.getD i 0 = 0) ∧ (lengthsN cs K).getD i 0 ≤ K := fun i hi => lengthsN_at cs K hK1 hco i hi
  have o1 : costOk L ((lengthsN cs K).map Int.ofNat) = true := by
    unfold costOk
    rw [hmy, decide_eq_true hlen.symm]
    simp only [Bool.true_and]
    refine List.all_eq_true.2 fun x hx => ?_
    obtain ⟨y, hy, rfl⟩ := List.mem_map.1 hx
    obtain ⟨i, hi, rfl⟩ := List.mem_iff_getElem.1 hy
    have := (hat i (by rw [lengthsN_len] at hi; exact hi)).2
    rw [List.getD, List.getElem?_eq_getElem hi] at this
    have h2 : (lengthsN cs K)[i] ≤ K := this
    unfold okI
    simp
    omega
  have o2 : costOk L O = true := by
    unfold costOk
    rw [hmy, decide_eq_true hl.symm]
    rw [validL_eq] at hv
    simp only [Bool.and_eq_true] at hv
    rw [hv.2]; rfl
  refine ⟨by unfold costE; rw [if_pos o1], by unfold costE; rw [if_pos o2], ?_⟩
  unfold costV
  rw [if_pos o1, if_pos o2]
  have e1 : costN L ((lengthsN cs K).map Int.ofNat) = ((List.range cs.length).map fun i => cs.getD i 0 * (lengthsN cs K).getD i 0).sum := by
    unfold costN
    rw [hlen, ← hcl]
    refine sum_range_congr _ _ _ fun i _ => ?_
    rw [nat_at, Int.toNat_natCast, hcs, natsK_get]
  have e2 : costN L O = ((List.range cs.length).map fun i => cs.getD i 0 * (natsL O).getD i 0).sum := by
    unfold costN
    rw [hl, ← hcl]
    refine sum_range_congr _ _ _ fun i _ => ?_
    rw [natsL_get, hcs, natsK_get]
  rw [e1, e2]
  have hb := lengthsN_best cs K hK1 hco hK15 (natsL O) (by unfold natsL; rw [List.length_map, hl, hcl]) (fun i hi => by
    have hpi : pB L O (K : Int) i = true := List.all_eq_true.1 hp i (List.mem_range.2 (by rw [hl, ← hcl]; exact hi))
    unfold pB at hpi
    simp only [Bool.and_eq_true, Bool.or_eq_true, decide_eq_true_eq] at hpi
    rw [natsL_get, hcs, natsK_get]
    refine ⟨by omega, fun h => ?_⟩
    rcases hpi.2 with h2 | h2
    · omega
    · rw [h2] at h; exact absurd rfl h) hkr
  exact Int.ofNat_le.2 hb

set_option maxHeartbeats 8000000 in
theorem walk (a0 : Option Addr) (n0 cap0 : Nat) (L0 : List Int) (a1 : Option Addr) (n1 cap1 : Nat) (O0 : List Int) (m : Int) (w : World) (h0 : IntsAt w a0 n0 cap0 L0) (_ : True) (h1 : IntsAt w a1 n1 cap1 O0) (_ : True) (hm : (Lit.int .i64 m).wf = true) :
    Calls Try.prog 6 #[.slice a0 n0 cap0, .slice a1 n1 cap1, .int .i64 m] w fun e w' => e = .returned (.bool true) ∧ Below w.heap.size w w' := by
  have CF := Lib.hid (lmFew_any a0 n0 cap0 L0 w h0)
  have CG := Lib.hid (lmFew_any a1 n1 cap1 O0 w h1)
  clear h0 h1 hm
  go_enter Try.func6, Try.ntmps6
  go_wp2_with fail
  refine CF.out.mono ?_
  rintro e w0 ⟨rfl, n, L, rfl, hL, hn⟩
  go_wp2_with fail
  refine CG.out.mono ?_
  rintro e w0 ⟨rfl, k, O, rfl, hO, hk⟩
  have HL := Lib.hid hL
  have HO := Lib.hid hO
  have HLN := Lib.hid hL.1
  have HON := Lib.hid hO.1
  have CA := Lib.hid (fun u => awake10 u)
  have C1 := limLengths_any a0 n cap0 L m w hL
  unfold LensTo at C1
  have C1 := Lib.hid C1
  have HEZ := Lib.hid (show lensE L m ≠ 0 → lensL L m = [] from fun h => by unfold lensL; rw [if_neg h])
  have HBC := Lib.hid (best_cost L O m)
  have HE01 := Lib.hid (show lensE L m = 0 ∨ lensE L m ≠ 0 from Decidable.em _)
  clear CF CG hL hO
  generalize lensE L m = E at *
  generalize lensL L m = M at *
  go_wp2_with fail
  refine C1.out.mono ?_
  rintro e w1 ⟨a3, n3, c3, rfl, h3, hb3⟩
  have B1 := Lib.hid hb3
  have H3 := Lib.hid h3
  have HN3 := Lib.hid h3.1
  clear C1 h3 hb3 HE01
  by_cases hE : E = 0
  · subst hE
    by_cases hnk : k = n
    · subst hnk
      have HB := Lib.hid (HBC.out rfl (by rw [HLN.out, HON.out]))
      have C2 := Lib.hid (cnCheck_any a1 k cap1 O w1 (CameAt.below HO.out (by omega) B1.out))
      have C3 := Lib.hid (fun u (hb : Below w1.heap.size w1 u) => limCost_any a0 k cap0 L a3 n3 c3 M u (CameAt.below (CameAt.below HL.out (by omega) B1.out) (by omega) hb) (CameAt.below H3.out (by omega) hb))
      have C4 := Lib.hid (fun u (hb : Below w1.heap.size w1 u) => limCost_any a0 k cap0 L a1 k cap1 O u (CameAt.below (CameAt.below HL.out (by omega) B1.out) (by omega) hb) (CameAt.below (CameAt.below HO.out (by omega) B1.out) (by omega) hb))
      have HSU := Lib.hid (allP_succ L O m)
      generalize checkE O = X at *
      generalize costE L M = E1 at *
      generalize costE L O = E2 at *
      generalize costV L M = V1 at *
      generalize costV L O = V2 at *
      clear HBC HEZ HN3 H3
      go_wp2_with fail
      refine C2.out.mono ?_
      rintro e w2 ⟨rfl, hb2⟩
      have B2 := Lib.hid hb2
      clear C2 hb2
      go_upto_region 6 with (fail)
      go_cut [10] (fun s10 wx => wx = w2 ∧ s10 = .bool (decide (X = 0 ∨ X = 2)))
      case first =>
        by_cases hx0 : X = 0
        · subst hx0
          go_wp2
          go_meet
          exact ⟨rfl, by simp⟩
        · have hxb : (X == 0) = false := by rw [beq_eq_false_iff_ne]; exact hx0
          by_cases hx2 : X = 2
          · subst hx2
            go_wp2
            go_meet
            exact ⟨rfl, by simp⟩
          · have hxb2 : (X == 2) = false := by rw [beq_eq_false_iff_ne]; exact hx2
            have HD := Lib.hid (show decide (X = 0 ∨ X = 2) = false from decide_eq_false (by omega))
            clear hx0 hx2
            go_wp2
            go_meet
            exact ⟨rfl, by rw [HD.out]⟩
      case rest =>
      obtain ⟨hwc, rfl⟩ := hcut
      have hwc' := hwc.symm
      clear hwc
      subst hwc'
      obtain ⟨r0, hr0⟩ : ∃ r0, r0 = decide (X = 0 ∨ X = 2) := ⟨_, rfl⟩
      rw [← hr0]
      have HR0 := Lib.hid hr0
      clear hr0
      go_wp2
      go_loopw [10, 11] (fun sr si wx => ∃ (i : Nat) (rb : Bool), i ≤ k ∧ si = .int .i64 (i : Int) ∧ sr = .bool rb ∧ rb = (r0 && allP L O m i) ∧ wx = w2) (fun _ si _ => k - (intOf si).toNat)
      case atStart => exact ⟨0, r0, Nat.zero_le _, rfl, rfl, by simp [allP], rfl⟩
      case round =>
        obtain ⟨i, rb, hi, rfl, rfl, hrb, rfl⟩ := hrel
        have HRB := Lib.hid hrb
        clear hrb
        by_cases hlt : i < k
        · obtain ⟨b, off, rfl, _, hc⟩ := IntsAt.cell (CameAt.below HO.out (by omega) (B1.out.trans (B2.out.mono B1.out.size))) (by omega)
          have x1 := hc i hlt
          obtain ⟨b2, off2, rfl, _, hc2⟩ := IntsAt.cell (CameAt.below HL.out (by omega) (B1.out.trans (B2.out.mono B1.out.size))) (by omega)
          have x2 := hc2 i hlt
          have hii : (i : Int) < k := by omega
          have HPB := Lib.hid (show pB L O m i = (decide (O.getD i 0 ≤ m) && (decide (0 < O.getD i 0) || decide (L.getD i 0 = 0))) from rfl)
          have HNX := Lib.hid (show (rb && pB L O m i) = (r0 && allP L O m (i + 1)) by rw [HRB.out, HSU.out, Bool.and_assoc])
          generalize pB L O m i = pv at *
          generalize O.getD i 0 = z at *
          generalize L.getD i 0 = c at *
          clear hc hc2
          go_upto_region 10 with (fail)
          cases rb with
          | false =>
            go_wp2
            go_roundw
            case rel => exact ⟨i + 1, false, by omega, by go_num, rfl, by have h := HNX.out; rw [← h]; rfl, trivial⟩
            case measure => simp [intOf]; omega
          | true =>
            by_cases hzm : z ≤ m
            · by_cases hz0 : 0 < z
              · have HV := Lib.hid (show pv = true by rw [HPB.out, decide_eq_true hzm, decide_eq_true hz0]; rfl)
                go_wp2
                go_roundw
                case rel => exact ⟨i + 1, true, by omega, by go_num, rfl, by have h := HNX.out; rw [HV.out] at h; rw [← h]; rfl, trivial⟩
                case measure => simp [intOf]; omega
              · by_cases hc0 : c = 0
                · have HV := Lib.hid (show pv = true by rw [HPB.out, decide_eq_true hzm, decide_eq_true hc0]; simp)
                  subst hc0
                  go_wp2
                  go_roundw
                  case rel => exact ⟨i + 1, true, by omega, by go_num, rfl, by have h := HNX.out; rw [HV.out] at h; rw [← h]; rfl, trivial⟩
                  case measure => simp [intOf]; omega
                · have HV := Lib.hid (show pv = false by rw [HPB.out, decide_eq_true hzm, decide_eq_false hz0, decide_eq_false hc0]; rfl)
                  have hcb : (c == 0) = false := by simpa using hc0
                  clear hc0
                  go_wp2
                  go_roundw
                  case rel => exact ⟨i + 1, false, by omega, by go_num, rfl, by have h := HNX.out; rw [HV.out] at h; rw [← h]; rfl, trivial⟩
                  case measure => simp [intOf]; omega
            · have HV := Lib.hid (show pv = false by rw [HPB.out, decide_eq_false hzm]; rfl)
              go_wp2
              go_roundw
              case rel => exact ⟨i + 1, false, by omega, by go_num, rfl, by have h := HNX.out; rw [HV.out] at h; rw [← h]; rfl, trivial⟩
              case measure => simp [intOf]; omega
        · obtain rfl : i = k := by omega
          have hii : ¬ (i : Int) < i := by omega
          cases rb with
          | false =>
            go_wp2_with fail
            refine (CA.out _).mono ?_
            rintro e w4 ⟨rfl, hb4⟩
            go_wp2
            go_ret
            exact ⟨rfl, (B1.out.trans (B2.out.mono B1.out.size)).trans (hb4.mono (Nat.le_trans B1.out.size B2.out.size))⟩
          | true =>
            have hrt : r0 = true ∧ allP L O m i = true := by have := HRB.out; simpa using this.symm
            have hxr : X = 0 ∨ X = 2 := of_decide_eq_true (HR0.out.symm.trans hrt.1)
            obtain ⟨he1, he2, hv⟩ := HB.out hxr (by rw [HON.out]; exact hrt.2)
            have C3' := C3.out wr B2.out
            rw [he1] at C3'
            have C3' := Lib.hid C3'
            have hvd : decide (V1 ≤ V2) = true := decide_eq_true hv
            have HE2 := Lib.hid he2
            clear hrt hxr he1 he2 HRB HR0
            go_wp2_with fail
            refine C3'.out.mono ?_
            rintro e w5 ⟨rfl, hb5⟩
            have B5 := Lib.hid (B2.out.trans (hb5.mono B2.out.size))
            have C4' := C4.out w5 B5.out
            rw [HE2.out] at C4'
            have C4' := Lib.hid C4'
            clear hb5 C3'
            go_wp2_with fail
            refine C4'.out.mono ?_
            rintro e w6 ⟨rfl, hb6⟩
            have B6 := Lib.hid (B1.out.trans ((B5.out.trans (hb6.mono B5.out.size)).mono B1.out.size))
            clear hb6 C4'
            go_wp2_with fail
            refine (CA.out _).mono ?_
            rintro e w7 ⟨rfl, hb7⟩
            go_wp2
            go_ret
            exact ⟨rfl, B6.out.trans (hb7.mono B6.out.size)⟩
    · have hnb : ((k : Int) != (n : Int)) = true := by rw [bne_iff_ne]; omega
      clear hnk HBC HEZ
      go_wp2_with fail
      refine (CA.out _).mono ?_
      rintro e w4 ⟨rfl, hb4⟩
      go_wp2
      go_ret
      exact ⟨rfl, B1.out.trans (hb4.mono B1.out.size)⟩
  · have hEb : (E != 0) = true := by simpa using hE
    have hEb2 : (E == 0) = false := by simpa using hE
    have HNZ := Lib.hid (show n3 = 0 by rw [← HN3.out, HEZ.out hE]; rfl)
    rw [HNZ.out]
    clear hE HBC HEZ
    go_wp2_with fail
    refine (CA.out _).mono ?_
    rintro e w4 ⟨rfl, hb4⟩
    go_wp2
    go_ret
    exact ⟨rfl, B1.out.trans (hb4.mono B1.out.size)⟩

theorem own : ownKnob Try.prog.godebug = none := by kernel_rfl
theorem laidOut : laidOutB Try.prog = true := by kernel_rfl

set_option maxRecDepth 100000 in
theorem lifted (os : Os) (started : os.Started) (H : Type) (enc : TypeId × Value → H) :
    ReturnsInHanded {} Try.checked os 6 .any (Rows.limitBestSpec.pre6 enc Try.prog Try.f6 Rows.limitBestRow.domain false) (Rows.limitBestSpec.post enc Try.prog Try.f6 false true false false) := by
  refine returnsInHanded_of_change (C := Try.checked) own started (by kernel_rfl) Try.func6
    (ChangeSpec.witness6 (enc := enc) (C := Try.checked) false ⟨#[], #[.slice none 0 0, .slice none 0 0, .int .i64 0], []⟩ 8 (by kernel_rfl) (by kernel_rfl) (by kernel_rfl) (by kernel_rfl)) ?_
  intro W base args ds gs before hval0 hW hcnd _
  have hval : ∀ (j : Nat) t v, Try.f6.params[j]? = some t → args[j]? = some v → Value.okWide Try.prog W .any base t v := hval0
  have hW' := hW
  obtain ⟨p, q, hA0, hV, rfl, hfz, hnd⟩ := hW
  have hA : DataW.TrodAll enc Try.prog W 0 (fun _ => true) true Try.f6.params.toList args.toList ds p := hA0
  rw [Try.params6] at hA hval
  obtain ⟨v0, vs0, d0, ds0, p0, q0, hargs, rfl, rfl, h0, r0⟩ := trodAll_cons hA
  obtain ⟨v1, vs1, d1, ds1, p1, q1, rfl, rfl, rfl, h1, r1⟩ := trodAll_cons r0
  obtain ⟨v2, vs2, d2, ds2, p2, q2, rfl, rfl, rfl, h2, r2⟩ := trodAll_cons r1
  obtain ⟨rfl, rfl, rfl⟩ := trodAll_nil r2
  obtain rfl : args = #[v0, v1, v2] := by cases args; simp_all
  obtain ⟨rfl, rfl⟩ := trodVars_none hV
  have k0 := h0
  have lt0 : ∀ x ∈ p0, x.block < W.heap.size := by obtain ⟨m, hm⟩ := k0; exact DataW.trod_lt m _ _ _ hm
  obtain ⟨a0, len0, cap0, l0, rfl, w0, g0⟩ := ints_of (hval 0 22 v0 rfl rfl) h0
  have k1 := h1
  have lt1 : ∀ x ∈ p1, x.block < W.heap.size := by obtain ⟨m, hm⟩ := k1; exact DataW.trod_lt m _ _ _ hm
  obtain ⟨a1, len1, cap1, l1, rfl, w1, g1⟩ := ints_of (hval 1 22 v1 rfl rfl) h1
  obtain ⟨a2, rfl, rfl, rfl, w2⟩ := open_int Try.underlying3 (hval 2 3 v2 rfl rfl) h2
  clear hA0 hval0
  refine (walk a0 len0 cap0 l0 a1 len1 cap1 l1 a2 W w0 g0 w1 g1 w2).mono fun e W' ⟨he, bel⟩ => ?_
  subst he
  exact ⟨_, rfl, _, _, _, [], _, [], hW', trodAll_mk1 (shut_bool Try.underlying4 _), (trodAll_cons_mk (Below.trod laidOut (by kernel_rfl) (of_decide_eq_true (by kernel_rfl)) k0 bel lt0) (trodAll_cons_mk (Below.trod laidOut (by kernel_rfl) (of_decide_eq_true (by kernel_rfl)) k1 bel lt1) (trodAll_cons_mk (shut_int Try.underlying3 w2) trodAll_mk0))), rfl, bel.frame _, fun h => by cases h⟩

theorem proved : Rows.LimitBestSaid :=
  OpenClaim.holds_of_wide 6 Try.f6 rfl rfl rfl rfl rfl rfl rfl ⟨rfl, rfl, rfl, rfl, rfl⟩ rfl rfl rfl rfl rfl (by kernel_rfl) Try.func6 (by kernel_rfl)
    (of_decide_eq_true (by kernel_rfl)) (by unfold Func.isWrapper; first | (rw [if_pos (by decide +kernel)]; kernel_rfl) | (rw [if_neg (by decide +kernel)]; exact ⟨rfl, rfl⟩))
    (fun os started H enc _ => lifted os started H enc)

end Go.Proofs.Ytklfoafbgniogaa.limitBest
