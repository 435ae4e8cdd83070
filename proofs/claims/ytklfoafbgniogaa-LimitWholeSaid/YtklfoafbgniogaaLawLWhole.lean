/-
  Of any counts the lengths are complete, where two symbols come at least, none is above the bound, and a symbol has none just if it does not come (P10.3).
  No condition: every slice of ints, every bound.
-/
import Derived.Test.YtklfoafbgniogaaLmZ
import Derived.Deep.CutBlock
namespace Go.Proofs.Ytklfoafbgniogaa.limitWhole
open Go.ChangeShapes Go.WideShapes Go.ChangeAt Go.RowKit Go.Deep
set_option linter.unusedVariables false
set_option linter.unusedSimpArgs false
set_option maxRecDepth 100000

theorem lensE_ok (L : List Int) (m : Int) (h : lensE L m = 0) : mayK L = true ∧ ∃ M : Nat, m = M ∧ 1 ≤ M ∧ M ≤ 15 ∧ (coinsL (natsK L)).length ≤ 2 ^ M ∧ lensL L m = (lengthsN (natsK L) M).map Int.ofNat := by
  have h0 := h
  unfold lensE at h
  split at h
  · simp at h
  · rename_i hb
    split at h
    · simp at h
    · rename_i ho
      refine ⟨?_, m.toNat, by omega, by omega, by omega, by omega, ?_⟩
      · cases hm : mayK L with
        | true => rfl
        | false => exact absurd (.inl hm) hb
      · unfold lensL; rw [if_pos h0]
theorem natsL_of (l : List Nat) : natsL (l.map Int.ofNat) = l := by
  unfold natsL
  rw [List.map_map]
  conv => rhs; rw [← List.map_id l]
  apply List.map_congr_left
  intro x _
  rfl
theorem nat_at (l : List Nat) (i : Nat) : (l.map Int.ofNat).getD i 0 = ((l.getD i 0 : Nat) : Int) := by
  simp only [List.getD, List.getElem?_map]
  cases l[i]? <;> rfl
theorem coins_sum (cs : List Nat) : (coinsL cs).length = ((List.range cs.length).map fun i => if cs.getD i 0 = 0 then 0 else 1).sum := coinsL_count cs
theorem kraft_few (cs : List Nat) (M : Nat) (h : (coinsL cs).length < 2) : kraft (lengthsN cs M) = 16384 * (coinsL cs).length := by
  rw [coins_sum]
  unfold lengthsN
  rw [if_pos h]
  unfold kraft
  rw [List.map_map]
  generalize List.range cs.length = R
  induction R with
  | nil => rfl
  | cons x R ih =>
    simp only [List.map_cons, List.sum_cons, Function.comp] at ih ⊢
    rw [ih]
    by_cases h0 : cs.getD x 0 = 0
    · rw [if_pos h0]; simp
    · rw [if_neg h0]; simp; omega
/-- what Check says of them -/
theorem lens_check (cs : List Nat) (M : Nat) (h1 : 1 ≤ M) (h15 : M ≤ 15) (hc : (coinsL cs).length ≤ 2 ^ M) (hn : cs.length ≤ 320) :
    checkE ((lengthsN cs M).map Int.ofNat) = if 2 ≤ (coinsL cs).length then 0 else 2 := by
  have hv : validL ((lengthsN cs M).map Int.ofNat) = true := by
    rw [validL_eq]
    simp only [List.length_map, lengthsN_len, Bool.and_eq_true, decide_eq_true_eq]
    refine ⟨hn, List.all_eq_true.2 fun x hx => ?_⟩
    obtain ⟨y, hy, rfl⟩ := List.mem_map.1 hx
    obtain ⟨i, hi, rfl⟩ := List.mem_iff_getElem.1 hy
    have hl : i < cs.length := by rw [lengthsN_len] at hi; exact hi
    have := (lengthsN_at cs M h1 hc i hl).2
    rw [List.getD, List.getElem?_eq_getElem hi] at this
    have h2 : (lengthsN cs M)[i] ≤ M := this
    unfold okI
    simp
    omega
  unfold checkE
  rw [if_neg (by rw [hv]; simp), natsL_of]
  by_cases h2 : 2 ≤ (coinsL cs).length
  · rw [if_pos h2, lengthsN_kraft cs M h1 hc h15 h2]; rfl
  · rw [if_neg h2, kraft_few cs M (by omega), if_neg (by omega), if_pos (by omega)]

def comeTo (cs : List Nat) (i : Nat) : Nat := ((List.range i).map fun i => if cs.getD i 0 = 0 then 0 else 1).sum
theorem comeTo_succ (cs : List Nat) (i : Nat) : comeTo cs (i + 1) = comeTo cs i + if cs.getD i 0 = 0 then 0 else 1 := by unfold comeTo; rw [List.range_succ, List.map_append, List.sum_append]; simp
theorem comeTo_le (cs : List Nat) : ∀ i, comeTo cs i ≤ i
  | 0 => by simp [comeTo]
  | i + 1 => by have := comeTo_le cs i; rw [comeTo_succ]; split <;> omega

set_option maxHeartbeats 8000000 in
theorem walk (a0 : Option Addr) (n0 cap0 : Nat) (L0 : List Int) (m : Int) (w : World) (h0 : IntsAt w a0 n0 cap0 L0) (_ : True) (hm : (Lit.int .i64 m).wf = true) :
    Calls Try.prog 5 #[.slice a0 n0 cap0, .int .i64 m] w fun e w' => e = .returned (.bool true) ∧ Below w.heap.size w w' := by
  have CF := Lib.hid (lmFew_any a0 n0 cap0 L0 w h0)
  clear h0 hm
  go_enter Try.func5, Try.ntmps5
  go_wp2_with fail
  refine CF.out.mono ?_
  rintro e w0 ⟨rfl, n, L, rfl, hL, hn⟩
  have HL := Lib.hid hL
  have HLN := Lib.hid hL.1
  have C1 := limLengths_any a0 n cap0 L m w hL
  unfold LensTo at C1
  have C1 := Lib.hid C1
  have HEO := Lib.hid (lensE_ok L m)
  have HEZ := Lib.hid (show lensE L m ≠ 0 → lensL L m = [] from fun h => by unfold lensL; rw [if_neg h])
  have HMN := Lib.hid (mayK_nats L)
  clear CF hL
  generalize lensE L m = E at *
  generalize lensL L m = M at *
  go_wp2_with fail
  refine C1.out.mono ?_
  rintro e w1 ⟨a1, n1, c1, rfl, h1, hb1⟩
  have B1 := Lib.hid hb1
  have H1 := Lib.hid h1
  have HN1 := Lib.hid h1.1
  have CA := Lib.hid (fun u => awake10 u)
  clear C1 h1 hb1
  by_cases hE : E = 0
  · subst hE
    obtain ⟨hmy, K, rfl, hK1, hK15, hco, hMM⟩ := HEO.out rfl
    obtain ⟨cs, hcs⟩ : ∃ cs, cs = natsK L := ⟨_, rfl⟩
    rw [← hcs] at hco hMM
    have HCL := Lib.hid (show cs.length = n by rw [hcs]; unfold natsK; rw [List.length_map, HLN.out])
    have hnn : n1 = n := by rw [← HN1.out, hMM, List.length_map, lengthsN_len, HCL.out]
    subst hnn
    have hn320 := (HMN.out hmy).1
    rw [HLN.out] at hn320
    have HCA := Lib.hid (fun i (hi : i < n1) => show L.getD i 0 = ((cs.getD i 0 : Nat) : Int) by
      rw [hcs, natsK_at]
      have := (HMN.out hmy).2 (L.getD i 0) (by rw [List.getD, List.getElem?_eq_getElem (by rw [HLN.out]; exact hi)]; exact List.getElem_mem _)
      omega)
    have HMA := Lib.hid (fun i (hi : i < n1) => show M.getD i 0 = (((lengthsN cs K).getD i 0 : Nat) : Int) ∧ ((lengthsN cs K).getD i 0 = 0 ↔ cs.getD i 0 = 0) ∧ (lengthsN cs K).getD i 0 ≤ K by
      refine ⟨by rw [hMM]; exact nat_at _ i, lengthsN_at cs K hK1 hco i (by rw [HCL.out]; exact hi)⟩)
    have HCK := Lib.hid (show checkE M = if 2 ≤ comeTo cs n1 then 0 else 2 by
      rw [hMM, lens_check cs K hK1 hK15 hco (by rw [HCL.out]; exact hn320), coins_sum, HCL.out]; rfl)
    have HCS := Lib.hid (comeTo_succ cs)
    have HCE := Lib.hid (comeTo_le cs)
    clear hmy hco hMM hcs HEO HEZ HMN
    go_wp2
    go_loopw [7, 8] (fun sc si wx => ∃ i : Nat, i ≤ n1 ∧ si = .int .i64 (i : Int) ∧ sc = .int .i64 ((comeTo cs i : Nat) : Int) ∧ Below w1.heap.size w1 wx) (fun _ si _ => n1 - (intOf si).toNat)
    case atStart => exact ⟨0, Nat.zero_le _, rfl, rfl, Below.refl _ _⟩
    case round =>
      obtain ⟨i, hi, rfl, rfl, hbx⟩ := hrel
      rename World => wx
      have HBX := Lib.hid hbx
      clear hbx
      by_cases hlt : i < n1
      · obtain ⟨b, off, rfl, _, hc⟩ := IntsAt.cell (CameAt.below H1.out (by omega) HBX.out) (by omega)
        have x1 := hc i hlt
        obtain ⟨b2, off2, rfl, _, hc2⟩ := IntsAt.cell (CameAt.below HL.out (by omega) (B1.out.trans (HBX.out.mono B1.out.size))) (by omega)
        have x2 := hc2 i hlt
        obtain ⟨hma, hiff, hle⟩ := HMA.out i hlt
        rw [hma] at x1
        rw [HCA.out i hlt] at x2
        have hii : (i : Int) < n1 := by omega
        have hsu := HCS.out i
        have hle2 := HCE.out i
        have HSU := Lib.hid hsu
        clear hc hc2 hma hsu
        generalize (lengthsN cs K).getD i 0 = z at *
        generalize comeTo cs i = q at *
        by_cases hc0 : cs.getD i 0 = 0
        · have hz0 : z = 0 := hiff.2 hc0
          rw [hc0] at x2
          subst hz0
          have HQ := Lib.hid (show comeTo cs (i + 1) = q by rw [HSU.out, if_pos hc0]; rfl)
          have hKi : ¬ (K : Int) < 0 := by omega
          clear hiff hc0 HSU hle
          go_upto_region 11 with (fail)
          go_quiet (fail)
          go_wp2
          exact ⟨⟨i + 1, by omega, by go_num, by rw [HQ.out], below_drewN HBX.out nq⟩, by simp [intOf]; omega⟩
        · have hz0 : ¬ z = 0 := fun h => hc0 (hiff.1 h)
          have HQ := Lib.hid (show comeTo cs (i + 1) = q + 1 by rw [HSU.out, if_neg hc0])
          generalize cs.getD i 0 = c at *
          have hzb : ((z : Int) == 0) = false := by rw [beq_eq_false_iff_ne]; omega
          have hcb : ((c : Int) == 0) = false := by rw [beq_eq_false_iff_ne]; omega
          have hzn : ¬ (z : Int) < 0 := by omega
          have hzk : ¬ (K : Int) < (z : Int) := by omega
          have hci : (0 : Int) < c := by omega
          clear hiff hc0 HSU hle hz0
          go_upto_region 11 with (fail)
          go_quiet (fail)
          go_wp2
          exact ⟨⟨i + 1, by omega, by go_num, by rw [HQ.out]; go_num, below_drewN HBX.out nq⟩, by simp [intOf]; omega⟩
      · obtain rfl : i = n1 := by omega
        have hii : ¬ (i : Int) < i := by omega
        have HL2 := Lib.hid (show IntsAt wx a1 i c1 M from CameAt.below H1.out (by omega) HBX.out)
        have B2 := Lib.hid (B1.out.trans (HBX.out.mono B1.out.size))
        have C2 := cnCheck_any a1 i c1 M wx HL2.out
        rw [HCK.out] at C2
        by_cases h2 : 2 ≤ comeTo cs i
        · rw [if_pos h2] at C2
          have C2 := Lib.hid C2
          generalize comeTo cs i = q at *
          clear h2 HCK
          go_wp2_with fail
          refine C2.out.mono ?_
          rintro e w3 ⟨rfl, hb3⟩
          have B3 := Lib.hid (B2.out.trans (hb3.mono B2.out.size))
          go_wp2_with fail
          refine (CA.out _).mono ?_
          rintro e w4 ⟨rfl, hb4⟩
          go_wp2
          go_ret
          exact ⟨rfl, B3.out.trans (hb4.mono B3.out.size)⟩
        · rw [if_neg h2] at C2
          have C2 := Lib.hid C2
          generalize comeTo cs i = q at *
          have hqi : (q : Int) < 2 := by omega
          clear h2 HCK
          go_wp2_with fail
          refine C2.out.mono ?_
          rintro e w3 ⟨rfl, hb3⟩
          have B3 := Lib.hid (B2.out.trans (hb3.mono B2.out.size))
          go_wp2_with fail
          refine (CA.out _).mono ?_
          rintro e w4 ⟨rfl, hb4⟩
          go_wp2
          go_ret
          exact ⟨rfl, B3.out.trans (hb4.mono B3.out.size)⟩
  · have hEb : (E != 0) = true := by simpa using hE
    have HNZ := Lib.hid (show n1 = 0 by rw [← HN1.out, HEZ.out hE]; rfl)
    rw [HNZ.out]
    clear hE HEO HEZ HMN
    go_wp2_with fail
    refine (CA.out _).mono ?_
    rintro e w4 ⟨rfl, hb4⟩
    go_wp2
    go_ret
    exact ⟨rfl, B1.out.trans (hb4.mono B1.out.size)⟩

theorem own : ownKnob Try.prog.godebug = none := by kernel_rfl
theorem laidOut : laidOutB Try.prog = true := by kernel_rfl

set_option maxRecDepth 100000 in
theorem lifted (os : Os) (started : os.Started) (H : Type) (enc : TypeId × Value → H) :
    ReturnsInHanded {} Try.checked os 5 .any (Rows.limitWholeSpec.pre6 enc Try.prog Try.f5 Rows.limitWholeRow.domain false) (Rows.limitWholeSpec.post enc Try.prog Try.f5 false true false false) := by
  refine returnsInHanded_of_change (C := Try.checked) own started (by kernel_rfl) Try.func5
    (ChangeSpec.witness6 (enc := enc) (C := Try.checked) false ⟨#[], #[.slice none 0 0, .int .i64 0], []⟩ 8 (by kernel_rfl) (by kernel_rfl) (by kernel_rfl) (by kernel_rfl)) ?_
  intro W base args ds gs before hval0 hW hcnd _
  have hval : ∀ (j : Nat) t v, Try.f5.params[j]? = some t → args[j]? = some v → Value.okWide Try.prog W .any base t v := hval0
  have hW' := hW
  obtain ⟨p, q, hA0, hV, rfl, hfz, hnd⟩ := hW
  have hA : DataW.TrodAll enc Try.prog W 0 (fun _ => true) true Try.f5.params.toList args.toList ds p := hA0
  rw [Try.params5] at hA hval
  obtain ⟨v0, vs0, d0, ds0, p0, q0, hargs, rfl, rfl, h0, r0⟩ := trodAll_cons hA
  obtain ⟨v1, vs1, d1, ds1, p1, q1, rfl, rfl, rfl, h1, r1⟩ := trodAll_cons r0
  obtain ⟨rfl, rfl, rfl⟩ := trodAll_nil r1
  obtain rfl : args = #[v0, v1] := by cases args; simp_all
  obtain ⟨rfl, rfl⟩ := trodVars_none hV
  have k0 := h0
  have lt0 : ∀ x ∈ p0, x.block < W.heap.size := by obtain ⟨m, hm⟩ := k0; exact DataW.trod_lt m _ _ _ hm
  obtain ⟨a0, len0, cap0, l0, rfl, w0, g0⟩ := ints_of (hval 0 22 v0 rfl rfl) h0
  obtain ⟨a1, rfl, rfl, rfl, w1⟩ := open_int Try.underlying3 (hval 1 3 v1 rfl rfl) h1
  clear hA0 hval0
  refine (walk a0 len0 cap0 l0 a1 W w0 g0 w1).mono fun e W' ⟨he, bel⟩ => ?_
  subst he
  exact ⟨_, rfl, _, _, _, [], _, [], hW', trodAll_mk1 (shut_bool Try.underlying4 _), (trodAll_cons_mk (Below.trod laidOut (by kernel_rfl) (of_decide_eq_true (by kernel_rfl)) k0 bel lt0) (trodAll_cons_mk (shut_int Try.underlying3 w1) trodAll_mk0)), rfl, bel.frame _, fun h => by cases h⟩

theorem proved : Rows.LimitWholeSaid :=
  OpenClaim.holds_of_wide 5 Try.f5 rfl rfl rfl rfl rfl rfl rfl ⟨rfl, rfl, rfl, rfl, rfl⟩ rfl rfl rfl rfl rfl (by kernel_rfl) Try.func5 (by kernel_rfl)
    (of_decide_eq_true (by kernel_rfl)) (by unfold Func.isWrapper; first | (rw [if_pos (by decide +kernel)]; kernel_rfl) | (rw [if_neg (by decide +kernel)]; exact ⟨rfl, rfl⟩))
    (fun os started H enc _ => lifted os started H enc)

end Go.Proofs.Ytklfoafbgniogaa.limitWhole
