/-
  Whatever pages there are are those of the document's pairs, or refused (P6.3).
  No condition: every slice of slices.
-/
import Derived.Test.YtflboggjbjfkjaaTrQ
import Derived.Test.YtflboggjbjfkjaaRowsAt
import Derived.Deep.DeepCutAuto
namespace Go.Proofs.Ytflboggjbjfkjaa.treeReads
open Go.ChangeShapes Go.WideShapes Go.ChangeAt Go.RowKit
set_option linter.unusedVariables false
set_option linter.unusedSimpArgs false
set_option maxRecDepth 100000

theorem open_rowsR {H : Type} {enc : TypeId × Value → H} {w : World} {base : Nat} {held : Bool} {cs : List Value} {x : DataW H × List MemPlace}
    (h : ∃ fuel, DataW.trod enc Try.prog w base (fun _ => true) held fuel 24 cs = some x) :
    ∃ A n cap P, cs = [.slice A n cap] ∧ RowsR w A n cap P := by
  obtain ⟨fuel, hf⟩ := h
  rcases Go.Deep.open_int_rows Try.underlying24 Try.underlying34 Try.underlying5 (by kernel_rfl) (by kernel_rfl) hf with ⟨hcs, _⟩ | ⟨a, len, cap, A, L, C, Z, hcs, _, hl, hm, _, hrow⟩
  · exact ⟨none, 0, 0, [], hcs, [], CameAt.nil _ _ _, rfl, fun i h b hi _ => by simp at hi⟩
  · refine ⟨some a, len, cap, (List.range len).map fun r => ((Z r).take (L r)).map fun z => UInt8.ofNat z.toNat, hcs, (List.range len).map fun r => (A r, L r, C r), ⟨by simp, hl, hm, fun _ _ => rfl, .inr ⟨a, rfl, fun i j y hi hj => ?_⟩⟩, by simp, fun i y b hi hb => ?_⟩
    · have hil : i < len := by simpa using (List.getElem?_eq_some_iff.1 hi).1
      obtain rfl : j = 0 := by omega
      rw [List.getElem?_map, List.getElem?_range hil] at hi
      obtain rfl : (A i, L i, C i) = y := by simpa using hi
      rw [show i * 1 + 0 = i by omega, (hrow i (by omega)).1]
      rfl
    · have hil : i < len := by simpa using (List.getElem?_eq_some_iff.1 hi).1
      rw [List.getElem?_map, List.getElem?_range hil] at hi hb
      obtain rfl : (A i, L i, C i) = y := by simpa using hi
      obtain rfl : ((Z i).take (L i)).map (fun z => UInt8.ofNat z.toNat) = b := by simpa using hb
      obtain ⟨hc, hlc, hcm, hz, hwf, hnone, hsome⟩ := hrow i (by omega)
      show BytesAt w (A i) (L i) (C i) (((Z i).take (L i)).map fun z => UInt8.ofNat z.toNat)
      cases hA : A i with
      | none =>
        have h0 := hnone hA
        have hL0 : L i = 0 := by omega
        exact ⟨by simp [hL0], hlc, hcm, .inl ⟨rfl, hL0, h0⟩⟩
      | some a' =>
        exact BytesAt.of_row hlc hcm hz (fun i hi => (hsome a' hA).2 i (by omega)) hwf

set_option maxHeartbeats 2000000 in
theorem walk (a : Option Addr) (n cap : Nat) (P : List (List UInt8)) (w : World) (hP : RowsR w a n cap P) :
    Calls Try.prog 4 #[.slice a n cap] w fun e w' => e = .returned (.bool true) ∧ Below w.heap.size w w' := by
  have CPG := Lib.hid (pages6_any a n cap P w hP)
  have hl : ∀ l ∈ cutP P, l.length ≤ 1000000 := fun l hl => by
    unfold cutP at hl
    obtain ⟨x, _, rfl⟩ := List.mem_map.1 hl
    rw [List.length_take]
    omega
  have hcl : (cutP P).length ≤ 99 := by unfold cutP; rw [List.length_map, List.length_take]; omega
  have HLL := Lib.hid hl
  have CW := Lib.hid (fun u => awake6_any u)
  clear hP hl
  generalize cutP P = C at *
  go_enter Try.func4, Try.ntmps4
  go_wp2_with fail
  refine (CPG.out).mono ?_
  rintro e w1 ⟨a1, N, c1, v2, rfl, hr1, hs1, hb1⟩
  obtain ⟨a2, c2, rfl, _, _⟩ := hs1.form
  have HS1 := Lib.hid hs1
  have HB1 := Lib.hid hb1
  have CA := Lib.hid (all_any a1 N c1 C w1 hr1)
  clear hr1 hs1 hb1 CPG
  generalize hsl : C.length = sl at *
  go_wp2_with fail
  refine (CA.out).mono ?_
  rintro e w2 ⟨hb2, hall⟩
  have C6 := Lib.hid (all6_any a2 sl c2 C w2 (HS1.out.below hb2).came hcl HLL.out)
  have HB2 := Lib.hid (HB1.out.trans (hb2.mono HB1.out.size))
  clear hb2 CA hsl
  rcases hall with ⟨hno, rfl⟩ | ⟨v3, L, hyes, rfl, hr3⟩
  · have HNO := Lib.hid hno
    clear hno
    go_wp2_with fail
    refine (C6.out).mono ?_
    rintro e w3 ⟨hb3, ⟨_, rfl⟩ | ⟨v4, L4, hy, _⟩⟩
    · go_wp2_with (go_at_call 12; refine (CW.out _).mono ?_; rintro e w4 ⟨rfl, hb4⟩)
      go_ret
      exact ⟨rfl, (HB2.out.trans (hb3.mono HB2.out.size)).trans (hb4.mono (Nat.le_trans HB2.out.size hb3.size))⟩
    · exact absurd (HNO.out.symm.trans hy) (by simp)
  · have HY := Lib.hid hyes
    obtain ⟨a3, c3, rfl, _, _⟩ := hr3.form
    have HR3 := Lib.hid hr3
    clear hyes hr3
    go_wp2_with fail
    refine (C6.out).mono ?_
    rintro e w3 ⟨hb3, ⟨hn, _⟩ | ⟨v4, L4, hy, rfl, hr4⟩⟩
    · exact absurd (HY.out.symm.trans hn) (by simp)
    · obtain rfl : L = L4 := by have := HY.out.symm.trans hy; simpa using this
      obtain ⟨a4, c4, rfl, _, _⟩ := hr4.form
      have CS := same6_any a3 L.length c3 L a4 L.length c4 L w3 (HR3.out.below hb3).came hr4.came
      simp only [decide_true] at CS
      have CS := Lib.hid CS
      have HB3 := Lib.hid (HB2.out.trans (hb3.mono HB2.out.size))
      clear hr4 hb3 hy C6
      generalize L.length = ln at *
      go_wp2_with (first
        | (go_at_call 16; refine (CS.out).mono ?_; rintro e w5 ⟨rfl, hb5⟩)
        | (go_at_call 12; refine (CW.out _).mono ?_; rintro e w6 ⟨rfl, hb6⟩))
      go_ret
      exact ⟨rfl, (HB3.out.trans (hb5.mono HB3.out.size)).trans (hb6.mono (Nat.le_trans HB3.out.size hb5.size))⟩

theorem own : ownKnob Try.prog.godebug = none := by kernel_rfl
theorem laidOut : laidOutB Try.prog = true := by kernel_rfl

set_option maxRecDepth 100000 in
theorem lifted (os : Os) (started : os.Started) (H : Type) (enc : TypeId × Value → H) :
    ReturnsInHanded {} Try.checked os 4 .any (Rows.treeReadsSpec.pre6 enc Try.prog Try.f4 Rows.treeReadsRow.domain false) (Rows.treeReadsSpec.post enc Try.prog Try.f4 false true false false) := by
  refine returnsInHanded_of_change (C := Try.checked) own started (by kernel_rfl) Try.func4
    (ChangeSpec.witness6 (enc := enc) (C := Try.checked) false ⟨#[], #[.slice none 0 0], []⟩ 8 (by kernel_rfl) (by kernel_rfl) (by kernel_rfl) (by kernel_rfl)) ?_
  intro W base args ds gs before hval0 hW hcnd _
  have hval : ∀ (j : Nat) t v, Try.f4.params[j]? = some t → args[j]? = some v → Value.okWide Try.prog W .any base t v := hval0
  have hW' := hW
  obtain ⟨p, q, hA0, hV, rfl, hfz, hnd⟩ := hW
  have hA : DataW.TrodAll enc Try.prog W 0 (fun _ => true) true Try.f4.params.toList args.toList ds p := hA0
  rw [Try.params4] at hA hval
  obtain ⟨v0, vs0, d0, ds0, p0, q0, hargs, rfl, rfl, h0, r0⟩ := trodAll_cons hA
  obtain ⟨rfl, rfl, rfl⟩ := trodAll_nil r0
  obtain rfl : args = #[v0] := by cases args; simp_all
  obtain ⟨rfl, rfl⟩ := trodVars_none hV
  have k0 := h0
  have lt0 : ∀ x ∈ p0, x.block < W.heap.size := by obtain ⟨m, hm⟩ := k0; exact DataW.trod_lt m _ _ _ hm
  clear hA0 hval0
  obtain ⟨a0, len0, cap0, rfl⟩ := okWide_slice Try.underlying24 (hval 0 24 v0 rfl rfl)
  obtain ⟨A0, n0, c0, P0, hcs0, hr0⟩ := open_rowsR h0
  simp [Value.cells] at hcs0
  obtain ⟨rfl, rfl, rfl⟩ := hcs0
  refine (walk _ _ _ P0 W hr0).mono fun e W' ⟨he, bel⟩ => ?_
  subst he
  exact ⟨_, rfl, _, _, _, [], _, [], hW', trodAll_mk1 (shut_bool Try.underlying4 _), (trodAll_cons_mk (Below.trod laidOut (by kernel_rfl) (of_decide_eq_true (by kernel_rfl)) k0 bel lt0) trodAll_mk0), rfl, bel.frame _, fun h => by cases h⟩

theorem proved : Rows.TreeReadsSaid :=
  OpenClaim.holds_of_wide 4 Try.f4 rfl rfl rfl rfl rfl rfl rfl ⟨rfl, rfl, rfl, rfl, rfl⟩ rfl rfl rfl rfl rfl (by kernel_rfl) Try.func4 (by kernel_rfl)
    (of_decide_eq_true (by kernel_rfl)) (by unfold Func.isWrapper; first | (rw [if_pos (by decide +kernel)]; kernel_rfl) | (rw [if_neg (by decide +kernel)]; exact ⟨rfl, rfl⟩))
    (fun os started H enc _ => lifted os started H enc)

end Go.Proofs.Ytflboggjbjfkjaa.treeReads
