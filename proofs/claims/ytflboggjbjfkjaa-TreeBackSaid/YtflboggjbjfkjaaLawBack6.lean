/-
  Of pairs that are laid down each key is found by reading one page a level, three at most, and no other key is; all of them are read again (P6.4).
  No condition: whatever pairs, whatever key.
-/
import Derived.Test.YtflboggjbjfkjaaTrO
import Derived.Deep.DeepCutAuto
import Derived.Deep.CutBlock
namespace Go.Proofs.Ytflboggjbjfkjaa.treeBack
open Go.ChangeShapes Go.WideShapes Go.ChangeAt Go.RowKit
open Go.ChangeMaps (open_string shut_string)
set_option linter.unusedVariables false
set_option linter.unusedSimpArgs false
set_option maxRecDepth 100000

theorem valAt_at {L : List (Nat × Nat)} (h : L.Pairwise fun a b => a.1 < b.1) : ∀ {p : Nat × Nat}, p ∈ L → valAt L p.1 = some p.2 := by
  induction L with
  | nil => intro p hp; cases hp
  | cons x L ih =>
    intro p hp
    obtain ⟨h1, h2⟩ := List.pairwise_cons.1 h
    unfold valAt
    rcases List.mem_cons.1 hp with rfl | hp
    · rw [List.find?_cons_of_pos (by simp)]
      rfl
    · have := h1 p hp
      rw [List.find?_cons_of_neg (by simp; omega)]
      exact ih h2 hp
theorem valAt_any (L : List (Nat × Nat)) (key : Nat) : L.any (fun p => decide (p.1 = key)) = (valAt L key).isSome := by
  unfold valAt
  rw [Option.isSome_map]
  induction L with
  | nil => rfl
  | cons x L ih =>
    by_cases h : x.1 = key
    · rw [List.find?_cons_of_pos (by simp [h])]; simp [h]
    · rw [List.find?_cons_of_neg (by simp [h]), ← ih]; simp [h]

set_option maxHeartbeats 4000000 in
theorem walk (a : Option Addr) (n cap : Nat) (L0 : List (Nat × Nat)) (key0 : Int) (w : World) (he : CameAt pairC 2 w a n cap L0) (hg : ∀ x ∈ L0, x.1 < 18446744073709551616 ∧ x.2 < 18446744073709551616) (hk : (Lit.int .u64 key0).wf = true) :
    Calls Try.prog 5 #[.slice a n cap, .int .u64 key0] w fun e w' => e = .returned (.bool true) ∧ Below w.heap.size w w' := by
  have hkr : 0 ≤ key0 ∧ key0 ≤ 18446744073709551615 := by
    simpa [Lit.wf, IntKind.min, IntKind.max, IntKind.signed, IntKind.bits] using hk
  obtain ⟨key, rfl⟩ := Int.eq_ofNat_of_zero_le hkr.1
  have CF := Lib.hid (few6_any a n cap L0 w he)
  have hf : Fits 1 (L0.take 601) := fun p hp => hg p (List.mem_of_mem_take hp)
  have HF := Lib.hid hf
  clear he hg hk hkr hf
  generalize L0.take 601 = L at *
  have CW := Lib.hid (fun u => awake6_any u)
  go_enter Try.func5, Try.ntmps5
  go_wp2_with fail
  refine (CF.out).mono ?_
  rintro e w1 ⟨⟨m, hm, rfl, he⟩, rfl⟩
  have HE := Lib.hid he
  have HLN := Lib.hid he.1
  cases hmy : mayL L with
  | false =>
    have CB := Lib.hid (build_no a m cap L w he hmy)
    have CM := fun u (h : Below w.heap.size w u) => may6_any a m cap L u (CameAt.below HE.out (Nat.zero_lt_succ 1) h)
    rw [hmy] at CM
    have CM := Lib.hid CM
    clear he hmy CF
    go_wp2_with fail
    refine (CB.out).mono ?_
    rintro e w2 ⟨rfl, hb2⟩
    go_wp2_with fail
    refine (CM.out _ hb2).mono ?_
    rintro e w3 ⟨rfl, hb3⟩
    go_wp2_with (go_at_call 12; refine (CW.out _).mono ?_; rintro e w4 ⟨rfl, hb4⟩)
    go_ret
    exact ⟨rfl, (hb2.trans (hb3.mono hb2.size)).trans (hb4.mono (Nat.le_trans hb2.size hb3.size))⟩
  | true =>
    obtain ⟨hasc, h600⟩ := mayL_asc hmy
    have CB := Lib.hid (build_yes a m cap L w he hmy HF.out)
    have HFB := Lib.hid (fun k => find_built L hasc HF.out h600 k)
    have HAB := Lib.hid (allR_build L hmy HF.out)
    have hone := (built_pages L hasc HF.out h600).2.2
    have HVA := Lib.hid (fun p hp => valAt_at hasc (p := p) hp)
    have HAN := Lib.hid (valAt_any L key)
    have hm6 : m ≤ 600 := by rw [← he.1]; exact h600
    have hbl : (buildL L).length ≤ 100 := by
      rw [buildL_length]
      have := pagesN_le L.length h600
      omega
    obtain ⟨lev, hlev⟩ : ∃ l, levN L.length = l := ⟨_, rfl⟩
    rw [hlev] at HFB
    have hlv : (m ≤ 7 ∧ lev = 1) ∨ (7 < m ∧ m ≤ 84 ∧ lev = 2) ∨ (84 < m ∧ lev = 3) := by
      rw [← hlev, he.1]
      unfold levN
      split
      · exact .inl ⟨by assumption, rfl⟩
      · split
        · exact .inr (.inl ⟨by omega, by assumption, rfl⟩)
        · exact .inr (.inr ⟨by omega, rfl⟩)
    have HLV := Lib.hid hlv
    have hlev3 : lev ≤ 3 := by omega
    clear he hmy hasc CF hlv hlev h600
    go_wp2_with fail
    refine (CB.out).mono ?_
    rintro e w2 ⟨v2, rfl, hr2, _, hb2⟩
    obtain ⟨a2, c2, rfl, _, _⟩ := hr2.form
    have hrd := hr2.read
    generalize hB : buildL L = B at *
    generalize hBn : B.length = bn at *
    have HRD := Lib.hid hrd
    have HB2 := Lib.hid hb2
    have CFD := Lib.hid (fun k u (h : Below w2.heap.size w2 u) => find_any a2 bn c2 B k u (hrd.below h) (by omega) (by omega))
    have CAL := Lib.hid (fun u (h : Below w2.heap.size w2 u) => all_any a2 bn c2 B u (hrd.below h))
    clear hr2 hrd hb2 hB hBn CB
    have hbni : ¬ (bn : Int) = 0 := by omega
    go_upto_if 43 with (fail)
    go_cut [7] (fun s7 wx => wx = w2 ∧ s7 = .int .i64 ((if m ≤ 7 then 1 else 2 : Nat) : Int))
    case first =>
      by_cases h7 : m ≤ 7
      · have h7i : ¬ (7 : Int) < (m : Int) := by omega
        go_wp2
        go_meet
        exact ⟨rfl, by rw [if_pos h7]; rfl⟩
      · have h7i : (7 : Int) < (m : Int) := by omega
        have HH := Lib.hid h7
        clear h7
        go_wp2
        go_meet
        exact ⟨rfl, by rw [if_neg HH.out]; rfl⟩
    case rest =>
      obtain ⟨hwc, rfl⟩ := hcut
      replace hwc := hwc.symm
      subst hwc
      obtain ⟨l2, hl2⟩ : ∃ l, (if m ≤ 7 then 1 else 2 : Nat) = l := ⟨_, rfl⟩
      rw [hl2]
      have HL2 := Lib.hid hl2
      clear hl2
      go_upto_if 46 with (fail)
      go_cut [7] (fun s7 wx => wx = w2 ∧ s7 = .int .i64 (lev : Int))
      case first =>
        by_cases h84 : 84 < m
        · have h8i : (84 : Int) < (m : Int) := by omega
          have HH := Lib.hid (show (3 : Int) = (lev : Int) by have := HLV.out; omega)
          go_wp2
          go_meet
          exact ⟨rfl, by rw [← HH.out]⟩
        · have h8i : ¬ (84 : Int) < (m : Int) := by omega
          have HH := Lib.hid (show (l2 : Int) = (lev : Int) by
            have := HLV.out
            have h := HL2.out
            by_cases h7 : m ≤ 7
            · rw [if_pos h7] at h; omega
            · rw [if_neg h7] at h; omega)
          go_wp2
          go_meet
          exact ⟨rfl, by rw [← HH.out]⟩
      case rest =>
        obtain ⟨hwc, rfl⟩ := hcut
        replace hwc := hwc.symm
        subst hwc
        go_wp2
        go_loopw [8, 9] (fun x i wr => ∃ k : Nat, k ≤ m ∧ i = .int .i64 k ∧ x = .bool ((L.take k).any (fun p => decide (p.1 = key))) ∧ Below w2.heap.size w2 wr) (fun _ i _ => m - (intOf i).toNat)
        case atStart => exact ⟨0, Nat.zero_le _, rfl, by simp, Below.refl _ _⟩
        case round =>
          obtain ⟨k, hk, rfl, rfl, hb⟩ := hrel
          have HB := Lib.hid hb
          by_cases hlt : k < m
          · have hbw := HB2.out.trans (hb.mono HB2.out.size)
            obtain ⟨b, off, rfl, hbb, hc⟩ := PairsAt.cells (CameAt.below HE.out (Nat.zero_lt_succ 1) hbw) (by omega)
            obtain ⟨c0, c1, _⟩ := hc k hlt
            rw [← Nat.add_assoc] at c1
            have hkl : k < L.length := by rw [HLN.out]; exact hlt
            have hmem : L.getD k (0, 0) ∈ L := by rw [List.getD, List.getElem?_eq_getElem hkl]; exact List.getElem_mem hkl
            have hva := HVA.out _ hmem
            have hnext : (L.take (k + 1)).any (fun p => decide (p.1 = key)) = ((L.take k).any (fun p => decide (p.1 = key)) || decide ((L.getD k (0, 0)).1 = key)) := by
              rw [List.take_succ_eq_append_getElem hkl, List.any_append]
              simp [List.getD, List.getElem?_eq_getElem hkl]
            generalize L.getD k (0, 0) = p at *
            obtain ⟨p1, p2⟩ := p
            dsimp only at c0 c1 hva hnext
            have C1 := CFD.out p1 wr hb
            have hfb := HFB.out p1
            rw [hva] at hfb
            have hft : findTop B p1 = (p2, lev, 0) := by
              rcases hfb with ⟨v, h1, h2⟩ | ⟨h1, _⟩
              · cases h1; exact h2
              · cases h1
            rw [hft] at C1
            have C1 := Lib.hid C1
            have HNX := Lib.hid hnext
            have hbs : b < wr.heap.size := hbb
            clear hc hmem hva hfb hft hnext hkl hb
            generalize (L.take k).any (fun p => decide (p.1 = key)) = th at *
            go_wp2_with fail
            refine (C1.out).mono ?_
            rintro e w3 ⟨rfl, hb3⟩
            unfold findV
            have d0 : w3.cell? ⟨b, off + k * 2, none⟩ = some (.int .u64 p1) := (hb3.cell (p := ⟨b, off + k * 2, none⟩) hbs).trans c0
            have d1 : w3.cell? ⟨b, off + k * 2 + 1, none⟩ = some (.int .u64 p2) := (hb3.cell (p := ⟨b, off + k * 2 + 1, none⟩) hbs).trans c1
            have HB3 := Lib.hid (HB.out.trans (hb3.mono HB.out.size))
            clear c0 c1 C1 hb3
            cases th with
            | true =>
              have H := Lib.hid (HNX.out.trans (Bool.true_or _))
              go_wp2
              exact ⟨⟨k + 1, by omega, by go_num, by rw [H.out], HB3.out⟩, by simp [intOf]; omega⟩
            | false =>
              by_cases hpk : p1 = key
              · have H := Lib.hid (HNX.out.trans (by rw [decide_eq_true hpk]; rfl : _ = true))
                have hpe : ((p1 : Int) == (key : Int)) = true := by rw [hpk]; simp
                clear hpk HNX
                go_wp2
                exact ⟨⟨k + 1, by omega, by go_num, by rw [H.out], HB3.out⟩, by simp [intOf]; omega⟩
              · have H := Lib.hid (HNX.out.trans (by rw [decide_eq_false hpk]; rfl : _ = false))
                have hpe : ((p1 : Int) == (key : Int)) = false := beq_eq_false_iff_ne.2 (by omega)
                clear hpk HNX
                go_wp2
                exact ⟨⟨k + 1, by omega, by go_num, by rw [H.out], HB3.out⟩, by simp [intOf]; omega⟩
          · obtain rfl : k = m := by omega
            have htk : L.take k = L := List.take_of_length_le (Nat.le_of_eq HLN.out)
            rw [htk, HAN.out]
            have hbw := HB2.out.trans (hb.mono HB2.out.size)
            have hpf := HFB.out key
            have C1 := CFD.out key wr hb
            have HBW := Lib.hid hbw
            have CS := Lib.hid (fun x y c u (h : Below w.heap.size w u) (hx : PairsAt u x y c L) => same6_any x y c L a k cap L u hx (CameAt.below HE.out (Nat.zero_lt_succ 1) h))
            clear htk hbw hlt
            rcases hpf with ⟨v, h1, h2⟩ | ⟨h1, n1, hn1, hn2, h2⟩
            · rw [h2] at C1
              rw [h1]
              have C1 := Lib.hid C1
              clear h1 h2
              go_wp2_with fail
              refine (C1.out).mono ?_
              rintro e w3 ⟨rfl, hb3⟩
              unfold findV
              have HB3 := Lib.hid (HB.out.trans (hb3.mono HB.out.size))
              clear hb3 hb
              go_wp2_with fail
              refine (CAL.out _ HB3.out).mono ?_
              rintro e w4 ⟨hb4, ⟨hno, rfl⟩ | ⟨v4, L4, hyes, rfl, hr4⟩⟩
              · exact absurd (HAB.out.symm.trans hno) (by simp)
              · obtain rfl : L = L4 := by have := HAB.out.symm.trans hyes; simpa using this
                obtain ⟨a4, c4, rfl, _, _⟩ := hr4.form
                have hb04 := HB3.out.trans (hb4.mono HB3.out.size)
                have HB04 := Lib.hid (HB2.out.trans (hb04.mono HB2.out.size))
                have CSS := CS.out a4 L.length c4 w4 HB04.out hr4.came
                simp only [decide_true] at CSS
                have CSS := Lib.hid CSS
                have h1l : (1 : Int) ≤ (lev : Int) := by have := HLV.out; omega
                clear hr4 hb4 hyes hb04 CS
                generalize L.length = ln at *
                go_wp2_with (first
                  | (go_at_call 16; refine (CSS.out).mono ?_; rintro e w5 ⟨rfl, hb5⟩)
                  | (go_at_call 12; refine (CW.out _).mono ?_; rintro e w6 ⟨rfl, hb6⟩))
                go_ret
                exact ⟨rfl, (HB04.out.trans (hb5.mono HB04.out.size)).trans (hb6.mono (Nat.le_trans HB04.out.size hb5.size))⟩
            · rw [h2] at C1
              rw [h1]
              have C1 := Lib.hid C1
              clear h1 h2
              go_wp2_with fail
              refine (C1.out).mono ?_
              rintro e w3 ⟨rfl, hb3⟩
              unfold findV
              have HB3 := Lib.hid (HB.out.trans (hb3.mono HB.out.size))
              clear hb3 hb
              go_wp2_with fail
              refine (CAL.out _ HB3.out).mono ?_
              rintro e w4 ⟨hb4, ⟨hno, rfl⟩ | ⟨v4, L4, hyes, rfl, hr4⟩⟩
              · exact absurd (HAB.out.symm.trans hno) (by simp)
              · obtain rfl : L = L4 := by have := HAB.out.symm.trans hyes; simpa using this
                obtain ⟨a4, c4, rfl, _, _⟩ := hr4.form
                have hb04 := HB3.out.trans (hb4.mono HB3.out.size)
                have HB04 := Lib.hid (HB2.out.trans (hb04.mono HB2.out.size))
                have CSS := CS.out a4 L.length c4 w4 HB04.out hr4.came
                simp only [decide_true] at CSS
                have CSS := Lib.hid CSS
                have h1l : (1 : Int) ≤ (n1 : Int) := by omega
                have h2l : (n1 : Int) ≤ (lev : Int) := by omega
                clear hr4 hb4 hyes hb04 CS
                generalize L.length = ln at *
                go_wp2_with (first
                  | (go_at_call 16; refine (CSS.out).mono ?_; rintro e w5 ⟨rfl, hb5⟩)
                  | (go_at_call 12; refine (CW.out _).mono ?_; rintro e w6 ⟨rfl, hb6⟩))
                go_ret
                exact ⟨rfl, (HB04.out.trans (hb5.mono HB04.out.size)).trans (hb6.mono (Nat.le_trans HB04.out.size hb5.size))⟩

theorem own : ownKnob Try.prog.godebug = none := by kernel_rfl
theorem laidOut : laidOutB Try.prog = true := by kernel_rfl

set_option maxRecDepth 100000 in
theorem lifted (os : Os) (started : os.Started) (H : Type) (enc : TypeId × Value → H) :
    ReturnsInHanded {} Try.checked os 5 .any (Rows.treeBackSpec.pre6 enc Try.prog Try.f5 Rows.treeBackRow.domain false) (Rows.treeBackSpec.post enc Try.prog Try.f5 false true false false) := by
  refine returnsInHanded_of_change (C := Try.checked) own started (by kernel_rfl) Try.func5
    (ChangeSpec.witness6 (enc := enc) (C := Try.checked) false ⟨#[], #[.slice none 0 0, .int .u64 0], []⟩ 8 (by kernel_rfl) (by kernel_rfl) (by kernel_rfl) (by kernel_rfl)) ?_
  intro W base args ds gs before hval0 hW hcnd _
  have hval : ∀ (j : Nat) t v, Try.f5.params[j]? = some t → args[j]? = some v → Value.okWide Try.prog W .any base t v := hval0
  have hW' := hW
  obtain ⟨p, q, hA0, hV, rfl, hfz, hnd⟩ := hW
  have hA : DataW.TrodAll enc Try.prog W 0 (fun _ => true) true Try.f5.params.toList args.toList ds p := hA0
  rw [Try.params5] at hA hval
  obtain ⟨v0, vs0, d0, ds0, p0, q0, hargs, rfl, rfl, h0, r0⟩ := trodAll_cons hA
  obtain ⟨v1, vs1, d1, ds1, p1, q1, rfl, rfl, rfl, h1, r1⟩ := trodAll_cons r0
  obtain ⟨rfl, rfl, rfl⟩ := trodAll_nil r1
  obtain rfl : args = #[v0, v1] := by cases args; simp_all
  obtain ⟨rfl, rfl⟩ := trodVars_none hV
  have k0 := h0
  have lt0 : ∀ x ∈ p0, x.block < W.heap.size := by obtain ⟨m, hm⟩ := k0; exact DataW.trod_lt m _ _ _ hm
  obtain ⟨a0, len0, cap0, l0, rfl, w0, g0⟩ := pairs_of (hval 0 22 v0 rfl rfl) h0
  obtain ⟨a1, rfl, rfl, rfl, w1⟩ := open_int Try.underlying44 (hval 1 44 v1 rfl rfl) h1
  clear hA0 hval0
  refine (walk a0 len0 cap0 l0 a1 W w0 g0 w1).mono fun e W' ⟨he, bel⟩ => ?_
  subst he
  exact ⟨_, rfl, _, _, _, [], _, [], hW', trodAll_mk1 (shut_bool Try.underlying4 _), (trodAll_cons_mk (Below.trod laidOut (by kernel_rfl) (of_decide_eq_true (by kernel_rfl)) k0 bel lt0) (trodAll_cons_mk (shut_int Try.underlying44 w1) trodAll_mk0)), rfl, bel.frame _, fun h => by cases h⟩

theorem proved : Rows.TreeBackSaid :=
  OpenClaim.holds_of_wide 5 Try.f5 rfl rfl rfl rfl rfl rfl rfl ⟨rfl, rfl, rfl, rfl, rfl⟩ rfl rfl rfl rfl rfl (by kernel_rfl) Try.func5 (by kernel_rfl)
    (of_decide_eq_true (by kernel_rfl)) (by unfold Func.isWrapper; first | (rw [if_pos (by decide +kernel)]; kernel_rfl) | (rw [if_neg (by decide +kernel)]; exact ⟨rfl, rfl⟩))
    (fun os started H enc _ => lifted os started H enc)

end Go.Proofs.Ytflboggjbjfkjaa.treeBack
