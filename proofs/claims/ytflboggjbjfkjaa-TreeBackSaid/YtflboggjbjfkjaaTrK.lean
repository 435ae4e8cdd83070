/-
  Contracts of hamperref06: Pairs, Same.
-/
import Derived.Test.YtflboggjbjfkjaaTrJ
namespace Go.Proofs.Ytflboggjbjfkjaa
open Go.RowKit
set_option linter.unusedVariables false
set_option linter.unusedSimpArgs false
set_option maxRecDepth 100000

def FreshP (L : List (Nat × Nat)) (w : World) (e : Ending) (w' : World) : Prop :=
  ∃ v : Value, e = .returned v ∧ Recs pairC w' 48 2 v L ∧ (∀ q, v.ownBlock = some q → w.heap.size ≤ q) ∧ Below w.heap.size w w'

set_option maxHeartbeats 1000000 in
theorem pairs6_any (l : List UInt8) (w : World) (hp : isP l = true) :
    Calls Try.prog 29 #[.string ⟨l.toArray⟩] w (FreshP (leafEnts l) w) := by
  obtain ⟨h128, hmy⟩ := isP_may hp
  match l, h128 with
  | a :: b :: r, h128 =>
    have hr : r.length = 126 := by simpa using h128
    have hix0 : ∀ h, (⟨(a :: b :: r).toArray⟩ : ByteArray)[0]'h = a := fun _ => rfl
    have hix1 : ∀ h, (⟨(a :: b :: r).toArray⟩ : ByteArray)[1]'h = b := fun _ => rfl
    have hmy : mayN a.toNat b.toNat = true := hmy
    rcases mayN_cases hmy with ⟨k1, hc⟩ | ⟨k2, hc1, hc2⟩
    · obtain rfl : a = 1 := UInt8.toNat_inj.1 k1
      have hle : leafEnts (1 :: b :: r) = entsOf (1 :: b :: r) := if_pos rfl
      have hel : (entsOf (1 :: b :: r)).length = b.toNat := entsOf_length _
      have hsuc := fun j (h : j < b.toNat) => ents_succ (1 :: b :: r) j h
      have hat : ∀ j, entAt (kindL (1 :: b :: r)) (1 :: b :: r) j = (le (((1 :: b :: r).drop (2 + 16 * j)).take 8), le (((1 :: b :: r).drop (10 + 16 * j)).take 8)) := fun _ => rfl
      have CA := Lib.hid (fun j u (h : j + 8 ≤ 128) => at8_any (1 :: b :: r) j u (by rw [h128]; exact h) (by rw [h128]; omega))
      rw [hle]
      have HEL := Lib.hid hel
      have HSUC := Lib.hid hsuc
      have HAT := Lib.hid hat
      clear hp hmy k1 hle hel hsuc hat h128
      generalize entsOf (1 :: b :: r) = es at *
      have hcb : (b.toNat : Int) ≤ 7 := by omega
      go_enter Try.func29, Try.ntmps29
      go_wp2
      go_loopw [3, 4] (fun x i wr => ∃ k : Nat, k ≤ b.toNat ∧ i = .int .i64 k ∧ Recs pairC wr 48 2 x (es.take k) ∧ (∀ q, x.ownBlock = some q → w.heap.size ≤ q) ∧ Below w.heap.size w wr) (fun _ i _ => 8 - (intOf i).toNat)
      case atStart => exact ⟨0, Nat.zero_le _, rfl, by rw [List.take_zero]; exact Recs.nil _ _ _ _, fun q hq => by simp [Value.ownBlock] at hq, Below.refl _ _⟩
      case round =>
        obtain ⟨k, hk, rfl, hrec, hown, hb⟩ := hrel
        obtain ⟨ax, cx, hxe, _, _⟩ := hrec.form
        have hlk : (es.take k).length = k := by rw [List.length_take, HEL.out]; omega
        rw [hlk] at hxe
        subst hxe
        have HR := Lib.hid hrec
        have HO := Lib.hid hown
        have HB := Lib.hid hb
        have HLK := Lib.hid hlk
        clear hrec hown hb hlk
        by_cases hlt : k < b.toNat
        · have hki : (k : Int) < (b.toNat : Int) := by omega
          have hs := HSUC.out k hlt
          rw [HAT.out k] at hs
          have D1 := CA.out (2 + 16 * k) wr (by omega)
          have D2 := CA.out (10 + 16 * k) wr (by omega)
          generalize le (((1 :: b :: r).drop (2 + 16 * k)).take 8) = x1 at *
          generalize le (((1 :: b :: r).drop (10 + 16 * k)).take 8) = x2 at *
          obtain ⟨t1, ht1⟩ : ∃ t, 2 + 16 * k = t := ⟨_, rfl⟩
          obtain ⟨t2, ht2⟩ : ∃ t, 10 + 16 * k = t := ⟨_, rfl⟩
          have q1 : (2 : Int) + 16 * (k : Int) = (t1 : Int) := by omega
          have q2 : (10 : Int) + 16 * (k : Int) = (t2 : Int) := by omega
          rw [ht1] at D1
          rw [ht2] at D2
          have D1 := Lib.hid D1
          have D2 := Lib.hid D2
          have HS := Lib.hid hs
          obtain ⟨i0, hi0, hz0, hz1, hz2⟩ := info_parts infoPair
          have HI := Lib.hid (And.intro hi0 (And.intro hz0 (And.intro hz1 hz2)))
          have hal : Below wr.heap.size wr (wr.alloc (.cells (pairC (x1, x2)).toArray 48)) := (Below.refl _ _).alloc (Nat.le_refl _) _
          have HR2 := Lib.hid (HR.out.below hal)
          have HM1 := Lib.hid (show (es.take k).length + 1 ≤ maxLen by rw [HLK.out]; unfold maxLen; omega)
          have HM2 := Lib.hid (show ((es.take k).length + 1) * 16 ≤ 140737488355328 by rw [HLK.out]; omega)
          clear hs hi0 hz0 hz1 hz2 hal ht1 ht2
          go_wp2_with fail
          refine (D1.out).mono ?_
          rintro e w1 ⟨rfl, rfl⟩
          go_wp2_with fail
          refine (D2.out).mono ?_
          rintro e w1 ⟨rfl, rfl⟩
          go_wp2_with (first
            | (refine wpList_buildSliceV rfl 22 1 _ rfl #[(0, .agg (pairC (x1, x2)).toArray)] (by simp [go_sem, pairC]) _ _ (built_pair (pairC (x1, x2)).toArray rfl _) ?_)
            | (refine wpList_append_recs rfl _ _ 22 rfl 48 i0 _ 2 16 Try.underlying22 HI.out.1 HI.out.2.1 HI.out.2.2.1 HI.out.2.2.2 (by simp [Value.cells]) (by omega) _ _ rfl HR2.out ⟨wr.heap.size, 0, none⟩ 1 1 [(x1, x2)] rfl rfl (fun y _ => pairC_len y) (fun y _ => pairC_one y) (one_rec (heap_alloc_new wr _)) HM1.out HM2.out ?_; intro v5 w5 hrec5 hg5 hv5))
          rw [← HS.out] at hrec5
          have hb1 := HB.out.alloc HB.out.size (.cells (pairC (x1, x2)).toArray 48)
          have hb5 : Below w.heap.size w w5 := hb1.grown hg5 hb1.size (fun q hq => HO.out q hq)
          have hown5 : ∀ q, v5.ownBlock = some q → w.heap.size ≤ q := fun q hq => by
            rcases hv5 with e | e
            · exact HO.out q (e ▸ hq)
            · rw [e] at hq; have := HB.out.size; simp at hq; omega
          exact ⟨⟨k + 1, by omega, by go_num, hrec5, hown5, hb5⟩, by simp [intOf]; omega⟩
        · obtain rfl : k = b.toNat := by omega
          have hre := HR.out
          rw [List.take_of_length_le (Nat.le_of_eq HEL.out)] at hre
          have H := Lib.hid (show FreshP es w (.returned _) wr from ⟨_, rfl, hre, HO.out, HB.out⟩)
          clear hre
          go_wp2
          go_ret
          exact H.out
    · obtain rfl : a = 2 := UInt8.toNat_inj.1 k2
      have hle : leafEnts (2 :: b :: r) = [] := if_neg (show ¬ (2 : UInt8).toNat = 1 by decide)
      rw [hle]
      clear hp hmy k2 hle h128
      go_enter Try.func29, Try.ntmps29
      go_wp2
      go_loop [3, 4] (fun x i => x = .slice none 0 0 ∧ i = .int .i64 0) (fun _ i => 1)
      case atStart => exact ⟨rfl, rfl⟩
      case round =>
        obtain ⟨rfl, rfl⟩ := hrel
        have hb0 : (0 : Int) < (b.toNat : Int) := by omega
        go_wp2
        go_ret
        exact ⟨_, rfl, Recs.nil _ _ _ _, fun q hq => by simp [Value.ownBlock] at hq, Below.refl _ _⟩


theorem pairs_eq (p q : Nat × Nat) (w : World) : (Op.equalIn 10000 48 (.agg (pairC p).toArray) (.agg (pairC q).toArray)).run Try.prog w = .ok (decide (p = q)) w := by
  obtain ⟨p1, p2⟩ := p
  obtain ⟨q1, q2⟩ := q
  have hu := Try.underlying48
  have h64 := Try.underlying44
  rw [show (10000 : Nat) = 9999 + 1 from rfl, run_equalIn_struct (P := Try.prog) w 9999 48 _ _ (by simp only [Program.fieldsOf, hu]) (by kernel_rfl)]
  have e1 := run_equalIn_int (P := Try.prog) w 9998 44 .u64 .u64 (p1 : Int) (q1 : Int) h64
  have e2 := run_equalIn_int (P := Try.prog) w 9998 44 .u64 .u64 (p2 : Int) (q2 : Int) h64
  have d1 : ((p1 : Int) == (q1 : Int)) = decide (p1 = q1) := by
    by_cases h : p1 = q1
    · subst h; simp
    · rw [decide_eq_false h]; exact beq_eq_false_iff_ne.2 (by omega)
  have d2 : ((p2 : Int) == (q2 : Int)) = decide (p2 = q2) := by
    by_cases h : p2 = q2
    · subst h; simp
    · rw [decide_eq_false h]; exact beq_eq_false_iff_ne.2 (by omega)
  rw [d1] at e1
  rw [d2] at e2
  simp only [Program.fieldsOf, hu, Op.eqFields]
  simp [go_sem, pairC, e1, e2]
  by_cases h1 : p1 = q1 <;> by_cases h2 : p2 = q2 <;> simp [h1, h2] <;> omega

set_option maxHeartbeats 1000000 in
theorem same6_any (a : Option Addr) (n cap : Nat) (L : List (Nat × Nat)) (b : Option Addr) (m c : Nat) (M : List (Nat × Nat)) (w : World) (hL : PairsAt w a n cap L) (hM : PairsAt w b m c M) :
    Calls Try.prog 16 #[.slice a n cap, .slice b m c] w fun e w' => e = .returned (.bool (decide (L = M))) ∧ Below w.heap.size w w' := by
  have HL := Lib.hid hL
  have HM := Lib.hid hM
  have hnx : n ≤ 9223372036854775807 := by have := hL.2.1; have := hL.2.2.1; unfold maxLen at *; omega
  have HLL := Lib.hid hL.1
  have HML := Lib.hid hM.1
  clear hL hM
  by_cases hnm : n = m
  · subst hnm
    go_enter Try.func16, Try.ntmps16
    go_wp2
    go_loopw [5] (fun i wr => ∃ k : Nat, k ≤ n ∧ i = .int .i64 k ∧ (∀ j, j < k → L.getD j (0, 0) = M.getD j (0, 0)) ∧ Below w.heap.size w wr) (fun i _ => n - (intOf i).toNat)
    case atStart => exact ⟨0, Nat.zero_le _, rfl, fun j hj => by omega, Below.refl _ _⟩
    case round =>
      obtain ⟨k, hk, rfl, heq, hb⟩ := hrel
      have HEQ := Lib.hid heq
      have HB := Lib.hid hb
      clear heq hb
      by_cases hlt : k < n
      · obtain ⟨b1, off1, rfl, hb1, hc1⟩ := PairsAt.cells (CameAt.below HL.out (Nat.zero_lt_succ 1) HB.out) (by omega)
        obtain ⟨_, _, hr1⟩ := hc1 k hlt
        obtain ⟨b2, off2, rfl, hb2, hc2⟩ := PairsAt.cells (CameAt.below HM.out (Nat.zero_lt_succ 1) HB.out) (by omega)
        obtain ⟨_, _, hr2⟩ := hc2 k hlt
        have HY := Lib.hid (fun (h : L.getD k (0, 0) = M.getD k (0, 0)) => (fun j hj => by
          by_cases e : j = k
          · subst e; exact h
          · exact HEQ.out j (by omega) : ∀ j, j < k + 1 → L.getD j (0, 0) = M.getD j (0, 0)))
        have HN := Lib.hid (fun (h : L.getD k (0, 0) ≠ M.getD k (0, 0)) => (decide_eq_false (fun e => h (by rw [e])) : decide (L = M) = false))
        have hki : (k : Int) < (n : Int) := by omega
        clear hc1 hc2
        generalize L.getD k (0, 0) = x at *
        generalize M.getD k (0, 0) = y at *
        have HR1 := Lib.hid hr1
        have HR2 := Lib.hid hr2
        have hS : wr.drew.rangeAt b1 (off1 + k * 2) (pairC x) ∧ wr.drew.rangeAt b2 (off2 + k * 2) (pairC y) := ⟨hr1, hr2⟩
        have pe := fun u => pairs_eq x y u
        clear hr1 hr2
        go_upto_region 6 with (fail)
        refine region_head 9 [0, 1, 2, 3, 4, 5, 6, 7, 8] [] (fun u => u.rangeAt b1 (off1 + k * 2) (pairC x) ∧ u.rangeAt b2 (off2 + k * 2) (pairC y)) (by kernel_rfl) (by kernel_rfl) hS ?_
        simp only [pickO, List.filterMap_cons, List.filterMap_nil, List.getElem?_cons_zero, List.getElem?_cons_succ, Option.map_some, List.drop_succ_cons, List.drop_zero]
        clear hS
        iterate 3
          refine seqH_read _ rfl rfl (by rintro u ⟨hu1, hu2⟩; clear hu1 hu2; go_simp; with_reducible rfl) ?_
          try simp only [Act.put, List.setIfInBounds_toArray, List.set_cons_zero, List.set_cons_succ]
        refine seqH_load_mid rfl rfl 48 _ rfl b1 (off1 + k * 2) (by simp [Act.eval]) (pairC x) _ (fun u hu => hu.1) Try.underlying48 rfl sizePair ?_
        try simp only [Act.put, List.setIfInBounds_toArray, List.set_cons_zero, List.set_cons_succ]
        iterate 3
          refine seqH_read _ rfl rfl (by rintro u ⟨hu1, hu2⟩; clear hu1 hu2; go_simp; with_reducible rfl) ?_
          try simp only [Act.put, List.setIfInBounds_toArray, List.set_cons_zero, List.set_cons_succ]
        refine seqH_load_mid rfl rfl 48 _ rfl b2 (off2 + k * 2) (by simp [Act.eval]) (pairC y) _ (fun u hu => hu.2) Try.underlying48 rfl sizePair ?_
        try simp only [Act.put, List.setIfInBounds_toArray, List.set_cons_zero, List.set_cons_succ]
        refine seqH_read (.bool (!decide (x = y))) rfl rfl (by rintro u ⟨hu1, hu2⟩; clear hu1 hu2; go_simp) ?_
        try simp only [Act.put, List.setIfInBounds_toArray, List.set_cons_zero, List.set_cons_succ]
        refine seqH_nil ?_
        by_cases hxy : x = y
        · rw [decide_eq_true hxy]
          have H := Lib.hid (HY.out hxy)
          clear HY HN hxy
          go_wp2
          exact ⟨⟨k + 1, by omega, by go_num, H.out, HB.out.drew⟩, by simp [intOf]; omega⟩
        · rw [decide_eq_false hxy]
          have H := Lib.hid (HN.out hxy)
          clear HY HN hxy
          go_wp2
          go_ret
          exact ⟨congrArg (fun b => Ending.returned (.bool b)) H.out.symm, HB.out.drew⟩
      · obtain rfl : k = n := by omega
        have hLM : L = M := by
          have e1 := HLL.out
          have e2 := HML.out
          apply List.ext_getElem?
          intro j
          by_cases hj : j < k
          · have h1 := HEQ.out j hj
            rw [List.getD, List.getD, List.getElem?_eq_getElem (by omega), List.getElem?_eq_getElem (by omega)] at h1
            rw [List.getElem?_eq_getElem (by omega), List.getElem?_eq_getElem (by omega)]
            exact congrArg some h1
          · rw [List.getElem?_eq_none (by omega), List.getElem?_eq_none (by omega)]
        have H := Lib.hid (decide_eq_true hLM)
        clear hLM HEQ
        go_wp2
        go_ret
        exact ⟨congrArg (fun b => Ending.returned (.bool b)) H.out.symm, HB.out⟩
  · have H := Lib.hid (decide_eq_false (fun (e : L = M) => hnm (by have := HLL.out; have := HML.out; rw [e] at *; omega)))
    have hni : ¬ (n : Int) = (m : Int) := by omega
    go_enter Try.func16, Try.ntmps16
    go_wp2
    go_ret
    exact ⟨congrArg (fun b => Ending.returned (.bool b)) H.out.symm, Below.refl _ _⟩

end Go.Proofs.Ytflboggjbjfkjaa
