/-
  The document's own answers for layer 11 (hamperref11): May, Find, Same.
-/
import Derived.Test.YtonfppbijofapaaMaR
import Derived.Test.YtonfppbijofapaaFill
import Derived.Test.YtonfppbijofapaaHead
namespace Go.Proofs.Ytonfppbijofapaa
open Go.RowKit
set_option linter.unusedVariables false
set_option linter.unusedSimpArgs false
set_option maxRecDepth 100000

def tokC (t : Tok) : List Value := [.int .u8 (t.lit.toNat : Int), .int .i64 t.len, .int .i64 t.dist]
theorem tokC_one (t : Tok) : ∀ u ∈ tokC t, u.oneCell' = true := by
  intro u hu; simp only [tokC, List.mem_cons, List.not_mem_nil, or_false] at hu; rcases hu with rfl | rfl | rfl <;> rfl
theorem infoTok : (Try.prog.info? 51).map (fun i => (i.zero, i.size, i.bytes)) = some (some (.agg #[.int .u8 0, .int .i64 0, .int .i64 0]), 3, 24) := by kernel_rfl
theorem sizeTok : (Try.prog.info? 51).map (·.size) = some 3 := by kernel_rfl
abbrev TokI := OwnI tokC 51 3
abbrev FreshT := FreshI8 tokC 51 3

set_option maxHeartbeats 2000000 in
theorem maMay_any (t : Tok) (w : World) :
    Calls Try.prog 25 #[.agg (tokC t).toArray] w fun e w' => e = .returned (.bool (mayT t)) ∧ Below w.heap.size w w' := by
  obtain ⟨lit, len, dist⟩ := t
  have HL := Lib.hid (show ((lit.toNat : Int) == 0) = decide (lit = 0) by
    rw [Bool.eq_iff_iff, beq_iff_eq, decide_eq_true_iff, ← UInt8.toNat_inj]; simp)
  unfold tokC
  dsimp only
  generalize hx : (lit.toNat : Int) = x at *
  clear hx
  go_enter Try.func25, Try.ntmps25
  by_cases a1 : len = 0
  · subst a1
    by_cases a2 : dist = 0
    · subst a2
      go_wp2
      go_ret
      exact ⟨by simp [mayT], (Below.refl _ _).alloc (Nat.le_refl _) _⟩
    · have a2b : (dist == 0) = false := by simpa using a2
      have HM := Lib.hid (show mayT ⟨lit, 0, dist⟩ = false by simp [mayT, a2])
      clear a2
      by_cases a3 : x = 0
      · subst a3
        go_wp2
        go_ret
        exact ⟨by rw [HM.out]; rfl, (Below.refl _ _).alloc (Nat.le_refl _) _⟩
      · have a3b : (x == 0) = false := by simpa using a3
        clear a3
        go_wp2
        go_ret
        exact ⟨by rw [HM.out]; rfl, (Below.refl _ _).alloc (Nat.le_refl _) _⟩
  · have a1b : (len == 0) = false := by simpa using a1
    have HM := Lib.hid (show mayT ⟨lit, len, dist⟩ = (decide (lit = 0) && decide (3 ≤ len) && decide (len ≤ 258) && decide (1 ≤ dist) && decide (dist ≤ 32768)) by simp [mayT, a1])
    rw [← HL.out] at HM
    clear a1
    by_cases a3 : x = 0
    · subst a3
      by_cases b1 : 3 ≤ len
      · by_cases b2 : len ≤ 258
        · by_cases b3 : 1 ≤ dist
          · by_cases b4 : dist ≤ 32768
            · go_wp2
              go_ret
              exact ⟨by rw [HM.out]; simp [b1, b2, b3, b4], (Below.refl _ _).alloc (Nat.le_refl _) _⟩
            · go_wp2
              go_ret
              exact ⟨by rw [HM.out]; simp [b1, b2, b3, b4], (Below.refl _ _).alloc (Nat.le_refl _) _⟩
          · go_wp2
            go_ret
            exact ⟨by rw [HM.out]; simp [b1, b2, b3]; omega, (Below.refl _ _).alloc (Nat.le_refl _) _⟩
        · go_wp2
          go_ret
          exact ⟨by rw [HM.out]; simp [b1, b2]; omega, (Below.refl _ _).alloc (Nat.le_refl _) _⟩
      · go_wp2
        go_ret
        exact ⟨by rw [HM.out]; simp [b1]; omega, (Below.refl _ _).alloc (Nat.le_refl _) _⟩
    · have a3b : (x == 0) = false := by simpa using a3
      go_wp2
      go_ret
      exact ⟨by rw [HM.out, a3b]; simp, (Below.refl _ _).alloc (Nat.le_refl _) _⟩

/-! ### tokens that came in -/
def TokAt := CameAt tokC 3
theorem TokAt.cells {w : World} {a : Option Addr} {n cap : Nat} {L : List Tok} (h : TokAt w a n cap L) (hn : 0 < n) :
    ∃ b off, a = some ⟨b, off, none⟩ ∧ b < w.heap.size ∧ ∀ i, i < n → w.rangeAt b (off + i * 3) (tokC (L.getD i default)) := by
  obtain ⟨b, off, h1, h2, h3⟩ := CameAt.at h hn (by omega)
  refine ⟨b, off, h1, h2, fun i hi => ?_⟩
  have hx : L[i]? = some (L.getD i default) := by rw [List.getD, List.getElem?_eq_getElem (by have := h.1; omega)]; rfl
  intro j u hu
  have hj : j < 3 := (List.getElem?_eq_some_iff.1 hu).1
  rw [Nat.add_assoc, h3 i j _ hx hj, hu]
theorem toks_eq (p q : Tok) (w : World) : (Op.equalIn 10000 51 (.agg (tokC p).toArray) (.agg (tokC q).toArray)).run Try.prog w = .ok (decide (p = q)) w := by
  obtain ⟨p1, p2, p3⟩ := p
  obtain ⟨q1, q2, q3⟩ := q
  have hu := Try.underlying51
  have h8 := Try.underlying5
  have h64 := Try.underlying3
  rw [show (10000 : Nat) = 9999 + 1 from rfl, run_equalIn_struct (P := Try.prog) w 9999 51 _ _ (by simp only [Program.fieldsOf, hu]) (by kernel_rfl)]
  have e1 := run_equalIn_int (P := Try.prog) w 9998 5 .u8 .u8 (p1.toNat : Int) (q1.toNat : Int) h8
  have e2 := run_equalIn_int (P := Try.prog) w 9998 3 .i64 .i64 p2 q2 h64
  have e3 := run_equalIn_int (P := Try.prog) w 9998 3 .i64 .i64 p3 q3 h64
  have d1 : ((p1.toNat : Int) == (q1.toNat : Int)) = decide (p1 = q1) := by
    by_cases h : p1 = q1
    · subst h; simp
    · rw [decide_eq_false h]; exact beq_eq_false_iff_ne.2 (fun hh => h (UInt8.toNat_inj.1 (by omega)))
  have d2 : (p2 == q2) = decide (p2 = q2) := by
    by_cases h : p2 = q2
    · subst h; simp
    · rw [decide_eq_false h]; exact beq_eq_false_iff_ne.2 h
  have d3 : (p3 == q3) = decide (p3 = q3) := by
    by_cases h : p3 = q3
    · subst h; simp
    · rw [decide_eq_false h]; exact beq_eq_false_iff_ne.2 h
  rw [d1] at e1
  rw [d2] at e2
  rw [d3] at e3
  simp only [Program.fieldsOf, hu, Op.eqFields]
  simp [go_sem, tokC, e1, e2, e3]
  by_cases h1 : p1 = q1 <;> by_cases h2 : p2 = q2 <;> by_cases h3 : p3 = q3 <;> simp [h1, h2, h3] <;> simp_all

set_option maxHeartbeats 1000000 in
theorem maSame_any (a : Option Addr) (n cap : Nat) (L : List Tok) (b : Option Addr) (m c : Nat) (M : List Tok) (w : World) (hL : TokAt w a n cap L) (hM : TokAt w b m c M) :
    Calls Try.prog 13 #[.slice a n cap, .slice b m c] w fun e w' => e = .returned (.bool (decide (L = M))) ∧ Below w.heap.size w w' := by
  have HL := Lib.hid hL
  have HM := Lib.hid hM
  have hnx : n ≤ 9223372036854775807 := by have := hL.2.1; have := hL.2.2.1; unfold maxLen at *; omega
  have HLL := Lib.hid hL.1
  have HML := Lib.hid hM.1
  clear hL hM
  by_cases hnm : n = m
  · subst hnm
    go_enter Try.func13, Try.ntmps13
    go_wp2
    go_loopw [5] (fun i wr => ∃ k : Nat, k ≤ n ∧ i = .int .i64 k ∧ (∀ j, j < k → L.getD j default = M.getD j default) ∧ Below w.heap.size w wr) (fun i _ => n - (intOf i).toNat)
    case atStart => exact ⟨0, Nat.zero_le _, rfl, fun j hj => by omega, Below.refl _ _⟩
    case round =>
      obtain ⟨k, hk, rfl, heq, hb⟩ := hrel
      have HEQ := Lib.hid heq
      have HB := Lib.hid hb
      clear heq hb
      by_cases hlt : k < n
      · obtain ⟨b1, off1, rfl, hb1, hc1⟩ := TokAt.cells (CameAt.below HL.out (Nat.zero_lt_succ 2) HB.out) (by omega)
        have hr1 := hc1 k hlt
        obtain ⟨b2, off2, rfl, hb2, hc2⟩ := TokAt.cells (CameAt.below HM.out (Nat.zero_lt_succ 2) HB.out) (by omega)
        have hr2 := hc2 k hlt
        have HY := Lib.hid (fun (h : L.getD k default = M.getD k default) => (fun j hj => by
          by_cases e : j = k
          · subst e; exact h
          · exact HEQ.out j (by omega) : ∀ j, j < k + 1 → L.getD j default = M.getD j default))
        have HN := Lib.hid (fun (h : L.getD k default ≠ M.getD k default) => (decide_eq_false (fun e => h (by rw [e])) : decide (L = M) = false))
        have hki : (k : Int) < (n : Int) := by omega
        clear hc1 hc2
        generalize L.getD k default = x at *
        generalize M.getD k default = y at *
        have HR1 := Lib.hid hr1
        have HR2 := Lib.hid hr2
        have hS : wr.drew.rangeAt b1 (off1 + k * 3) (tokC x) ∧ wr.drew.rangeAt b2 (off2 + k * 3) (tokC y) := ⟨hr1, hr2⟩
        have pe := fun u => toks_eq x y u
        clear hr1 hr2
        go_upto_region 6 with (fail)
        refine region_head 9 [0, 1, 2, 3, 4, 5, 6, 7, 8] [] (fun u => u.rangeAt b1 (off1 + k * 3) (tokC x) ∧ u.rangeAt b2 (off2 + k * 3) (tokC y)) (by kernel_rfl) (by kernel_rfl) hS ?_
        simp only [pickO, List.filterMap_cons, List.filterMap_nil, List.getElem?_cons_zero, List.getElem?_cons_succ, Option.map_some, List.drop_succ_cons, List.drop_zero]
        clear hS
        iterate 3
          refine seqH_read _ rfl rfl (by rintro u ⟨hu1, hu2⟩; clear hu1 hu2; go_simp; with_reducible rfl) ?_
          try simp only [Act.put, List.setIfInBounds_toArray, List.set_cons_zero, List.set_cons_succ]
        refine seqH_load_mid rfl rfl 51 _ rfl b1 (off1 + k * 3) (by simp [Act.eval]) (tokC x) _ (fun u hu => hu.1) Try.underlying51 rfl sizeTok ?_
        try simp only [Act.put, List.setIfInBounds_toArray, List.set_cons_zero, List.set_cons_succ]
        iterate 3
          refine seqH_read _ rfl rfl (by rintro u ⟨hu1, hu2⟩; clear hu1 hu2; go_simp; with_reducible rfl) ?_
          try simp only [Act.put, List.setIfInBounds_toArray, List.set_cons_zero, List.set_cons_succ]
        refine seqH_load_mid rfl rfl 51 _ rfl b2 (off2 + k * 3) (by simp [Act.eval]) (tokC y) _ (fun u hu => hu.2) Try.underlying51 rfl sizeTok ?_
        try simp only [Act.put, List.setIfInBounds_toArray, List.set_cons_zero, List.set_cons_succ]
        refine seqH_read (.bool (!decide (x = y))) rfl rfl (by rintro u ⟨hu1, hu2⟩; clear hu1 hu2; go_simp) ?_
        try simp only [Act.put, List.setIfInBounds_toArray, List.set_cons_zero, List.set_cons_succ]
        refine seqH_nil ?_
        by_cases hxy : x = y
        · rw [decide_eq_true hxy]
          have H := Lib.hid (HY.out hxy)
          clear HY HN hxy
          go_wp2
          exact ⟨⟨k + 1, by omega, by go_num, H.out, HB.out.drew⟩, by simp [intOf]; omega⟩
        · rw [decide_eq_false hxy]
          have H := Lib.hid (HN.out hxy)
          clear HY HN hxy
          go_wp2
          go_ret
          exact ⟨congrArg (fun b => Ending.returned (.bool b)) H.out.symm, HB.out.drew⟩
      · obtain rfl : k = n := by omega
        have hLM : L = M := by
          have e1 := HLL.out
          have e2 := HML.out
          apply List.ext_getElem?
          intro j
          by_cases hj : j < k
          · have h1 := HEQ.out j hj
            rw [List.getD, List.getD, List.getElem?_eq_getElem (by omega), List.getElem?_eq_getElem (by omega)] at h1
            rw [List.getElem?_eq_getElem (by omega), List.getElem?_eq_getElem (by omega)]
            exact congrArg some h1
          · rw [List.getElem?_eq_none (by omega), List.getElem?_eq_none (by omega)]
        have H := Lib.hid (decide_eq_true hLM)
        clear hLM HEQ
        go_wp2
        go_ret
        exact ⟨congrArg (fun b => Ending.returned (.bool b)) H.out.symm, HB.out⟩
  · have H := Lib.hid (decide_eq_false (fun (e : L = M) => hnm (by have := HLL.out; have := HML.out; rw [e] at *; omega)))
    have hni : ¬ (n : Int) = (m : Int) := by omega
    go_enter Try.func13, Try.ntmps13
    go_wp2
    go_ret
    exact ⟨congrArg (fun b => Ending.returned (.bool b)) H.out.symm, Below.refl _ _⟩

end Go.Proofs.Ytonfppbijofapaa
