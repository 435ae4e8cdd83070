/-
  Contracts of package canon: Put; codes that are compared.
-/
import Derived.Test.YtgfdonmkhmolpaaCnC
import Derived.Test.YtgfdonmkhmolpaaBtU
namespace Go.Proofs.Ytgfdonmkhmolpaa
open Go.RowKit Go.Deep
set_option linter.unusedVariables false
set_option linter.unusedSimpArgs false
set_option maxRecDepth 100000

/-- a code that came in: its bits, its length, whatever that is -/
def codeZ (c : Nat × Int) : List Value := [.int .u64 (c.1 : Int), .int .i64 c.2]
abbrev CodesAt := CameAt codeZ 2
def toZ (c : Nat × Nat) : Nat × Int := (c.1, (c.2 : Int))
theorem codes_came {w : World} {a : Option Addr} {n cap : Nat} {L : List (Nat × Nat)} (h : CameAt codeC 2 w a n cap L) : CodesAt w a n cap (L.map toZ) := by
  obtain ⟨h1, h2, h3, h4, h5⟩ := h
  refine ⟨by rw [List.length_map]; exact h1, h2, h3, fun x _ => rfl, ?_⟩
  rcases h5 with h5 | ⟨p, rfl, hp⟩
  · exact .inl h5
  · refine .inr ⟨p, rfl, fun i j x hi hj => ?_⟩
    rw [List.getElem?_map] at hi
    cases hx : L[i]? with
    | none => rw [hx] at hi; cases hi
    | some y => rw [hx] at hi; injection hi with hi; subst hi; exact hp i j y hx hj
theorem CodesAt.cell {w : World} {a : Option Addr} {n cap : Nat} {L : List (Nat × Int)} (h : CodesAt w a n cap L) (hn : 0 < n) :
    ∃ b off, a = some ⟨b, off, none⟩ ∧ b < w.heap.size ∧ ∀ i, i < n → w.cell? ⟨b, off + i * 2, none⟩ = some (.int .u64 ((L.getD i (0, 0)).1 : Nat)) ∧ w.cell? ⟨b, off + i * 2 + 1, none⟩ = some (.int .i64 (L.getD i (0, 0)).2) := by
  obtain ⟨b, off, h1, h2, h3⟩ := CameAt.at h hn (by omega)
  refine ⟨b, off, h1, h2, fun i hi => ?_⟩
  have hx : L[i]? = some (L.getD i (0, 0)) := by rw [List.getD, List.getElem?_eq_getElem (by have := h.1; omega)]; rfl
  exact ⟨h3 i 0 _ hx (by omega), h3 i 1 _ hx (by omega)⟩
theorem codes_eq (p q : Nat × Int) (w : World) : (Op.equalIn 10000 34 (.agg #[.int .u64 (p.1 : Int), .int .i64 p.2]) (.agg #[.int .u64 (q.1 : Int), .int .i64 q.2])).run Try.prog w = .ok (decide (p = q)) w := by
  obtain ⟨p1, p2⟩ := p
  obtain ⟨q1, q2⟩ := q
  have hu := Try.underlying34
  have hu64 := Try.underlying32
  have h64 := Try.underlying3
  rw [show (10000 : Nat) = 9999 + 1 from rfl, run_equalIn_struct (P := Try.prog) w 9999 34 _ _ (by simp only [Program.fieldsOf, hu]) (by kernel_rfl)]
  have e1 := run_equalIn_int (P := Try.prog) w 9998 32 .u64 .u64 (p1 : Int) (q1 : Int) hu64
  have e2 := run_equalIn_int (P := Try.prog) w 9998 3 .i64 .i64 p2 q2 h64
  have d1 : ((p1 : Int) == (q1 : Int)) = decide (p1 = q1) := by
    by_cases h : p1 = q1
    · subst h; simp
    · rw [decide_eq_false h]; exact beq_eq_false_iff_ne.2 (fun hh => h (by omega))
  have d2 : (p2 == q2) = decide (p2 = q2) := by
    by_cases h : p2 = q2
    · subst h; simp
    · rw [decide_eq_false h]; exact beq_eq_false_iff_ne.2 h
  rw [d1] at e1
  rw [d2] at e2
  simp only [Program.fieldsOf, hu, Op.eqFields]
  simp [go_sem, e1, e2]
  by_cases h1 : p1 = q1 <;> by_cases h2 : p2 = q2 <;> simp [h1, h2] <;> simp_all

/-- Put's error -/
def putE (cs : List (Nat × Int)) (s : Int) : Int :=
  if s < 0 ∨ (cs.length : Int) ≤ s then 4 else if cs.getD s.toNat (0, 0) = (0, 0) then 11 else if (cs.getD s.toNat (0, 0)).2 < 1 ∨ 15 < (cs.getD s.toNat (0, 0)).2 then 8
  else fitE (cs.getD s.toNat (0, 0)).1 (cs.getD s.toNat (0, 0)).2
/-- what was written, behind it -/
def putsL (cs : List (Nat × Int)) (s : Int) (F : List Bool) : List Bool := if putE cs s = 0 then turnL (cs.getD s.toNat (0, 0)).1 (cs.getD s.toNat (0, 0)).2 F else F
theorem WrK.refl {n0 B : Nat} {F : List Bool} {w w' : World} (h : WrS n0 w B F) (hb : Below w.heap.size w w') : WrK n0 B F w w' :=
  ⟨h.below hb, hb.mono h.le, fun k c t hk _ _ => (hb.block k (Array.getElem?_eq_some_iff.1 hk).1).trans hk⟩
theorem WrK.since {n0 B : Nat} {F : List Bool} {v w w' : World} (h : WrK n0 B F w w') (hn : n0 ≤ v.heap.size) (hb : Below v.heap.size v w) : WrK n0 B F v w' :=
  ⟨h.1, (hb.mono hn).trans h.2.1, fun k c t hk hB ht => h.2.2 k c t ((hb.block k (Array.getElem?_eq_some_iff.1 hk).1).trans hk) hB ht⟩

set_option maxHeartbeats 4000000 in
theorem cnPut_any {n0 B : Nat} {F : List Bool} {w : World} (hw : WrS n0 w B F) (a : Option Addr) (n cap : Nat) (cs : List (Nat × Int)) (h : CodesAt w a n cap cs) (s : Int) (h64 : ∀ c ∈ cs, c.1 < 18446744073709551616) (hF : F.length ≤ 1099511627000) :
    Calls Try.prog 21 #[.pointer (some ⟨B, 0, none⟩), .slice a n cap, .int .i64 s] w fun e w' => e = .returned (.int .i64 (putE cs s)) ∧ WrK n0 B (putsL cs s F) w w' := by
  have hl : cs.length = n := h.1
  have HW := Lib.hid hw
  by_cases h1 : s < 0
  · have HE := Lib.hid (show putE cs s = 4 by unfold putE; rw [if_pos (.inl h1)])
    have HP := Lib.hid (show putsL cs s F = F by unfold putsL; rw [HE.out]; rfl)
    clear h hw hl
    go_enter Try.func21, Try.ntmps21
    go_wp2
    go_ret
    exact ⟨by rw [HE.out]; rfl, by rw [HP.out]; exact WrK.refl HW.out (Below.refl _ _)⟩
  by_cases h2 : (n : Int) ≤ s
  · have HE := Lib.hid (show putE cs s = 4 by unfold putE; rw [if_pos (.inr (by rw [hl]; exact h2))])
    have HP := Lib.hid (show putsL cs s F = F by unfold putsL; rw [HE.out]; rfl)
    clear h hw hl
    go_enter Try.func21, Try.ntmps21
    go_wp2
    go_ret
    exact ⟨by rw [HE.out]; rfl, by rw [HP.out]; exact WrK.refl HW.out (Below.refl _ _)⟩
  obtain ⟨k, rfl⟩ : ∃ k : Nat, s = k := ⟨s.toNat, by omega⟩
  have hkn : k < n := by omega
  have hki : ¬ (n : Int) ≤ (k : Int) := h2
  have HPE := Lib.hid (show putE cs k = if cs.getD k (0, 0) = (0, 0) then 11 else if (cs.getD k (0, 0)).2 < 1 ∨ 15 < (cs.getD k (0, 0)).2 then 8 else fitE (cs.getD k (0, 0)).1 (cs.getD k (0, 0)).2 by
    unfold putE; rw [if_neg (by rw [hl]; omega), Int.toNat_natCast])
  have HPL := Lib.hid (show putsL cs k F = if putE cs k = 0 then turnL (cs.getD k (0, 0)).1 (cs.getD k (0, 0)).2 F else F from rfl)
  have hc64 : (cs.getD k (0, 0)).1 < 18446744073709551616 := h64 _ (by rw [List.getD, List.getElem?_eq_getElem (by omega)]; exact List.getElem_mem _)
  obtain ⟨b, off, rfl, _, hc⟩ := CodesAt.cell h (by omega)
  obtain ⟨x1, x2⟩ := hc k hkn
  clear hc h64 h2 h1 hw h
  generalize putE cs k = PE at *
  generalize putsL cs k F = PL at *
  generalize cs.getD k (0, 0) = c at *
  obtain ⟨v, m⟩ := c
  dsimp only at x1 x2 hc64 HPE HPL
  have HBW := Lib.hid (show Below w.heap.size w (w.alloc (.cells #[.int .u64 (v : Int), .int .i64 m] 34)) from (Below.refl _ _).alloc (Nat.le_refl _) _)
  have HEQ := Lib.hid (fun u => codes_eq (v, m) (0, 0) u)
  by_cases h0 : (v, m) = ((0, 0) : Nat × Int)
  · have HE := Lib.hid (show PE = 11 by rw [HPE.out, if_pos h0])
    have HP := Lib.hid (show PL = F by rw [HPL.out, HE.out]; rfl)
    simp only [Prod.mk.injEq] at h0
    obtain ⟨rfl, rfl⟩ := h0
    have e0 := HEQ.out
    simp only [decide_true] at e0
    go_enter Try.func21, Try.ntmps21
    go_wp2
    go_ret
    exact ⟨by rw [HE.out]; rfl, by rw [HP.out]; exact WrK.refl HW.out HBW.out⟩
  · have hd := decide_eq_false h0
    have e0 := HEQ.out
    simp only [hd] at e0
    have HPE2 := Lib.hid (HPE.out.trans (if_neg h0))
    clear hd h0 HEQ HPE
    have e1 : ∀ u, (Op.equalIn 10000 34 (.agg #[.int .u64 (v : Int), .int .i64 m]) (.agg #[.int .u64 0, .int .i64 0])).run Try.prog u = .ok false u := e0
    clear e0
    by_cases hlo : m < 1
    · have HE := Lib.hid (show PE = 8 by rw [HPE2.out, if_pos (.inl hlo)])
      have HP := Lib.hid (show PL = F by rw [HPL.out, HE.out]; rfl)
      go_enter Try.func21, Try.ntmps21
      go_wp2
      go_ret
      exact ⟨by rw [HE.out]; rfl, by rw [HP.out]; exact WrK.refl HW.out HBW.out⟩
    by_cases hhi : 15 < m
    · have HE := Lib.hid (show PE = 8 by rw [HPE2.out, if_pos (.inr hhi)])
      have HP := Lib.hid (show PL = F by rw [HPL.out, HE.out]; rfl)
      go_enter Try.func21, Try.ntmps21
      go_wp2
      go_ret
      exact ⟨by rw [HE.out]; rfl, by rw [HP.out]; exact WrK.refl HW.out HBW.out⟩
    have HE := Lib.hid (show PE = fitE v m by rw [HPE2.out, if_neg (by omega)])
    have HP := Lib.hid (show PL = turnL v m F by
      rw [HPL.out, HE.out]
      by_cases h : fitE v m = 0
      · rw [if_pos h]
      · rw [if_neg h]; unfold turnL; rw [if_neg h])
    have C := Lib.hid (turnS (HW.out.below HBW.out) v m hc64 hF)
    go_enter Try.func21, Try.ntmps21
    go_wp2_with fail
    refine C.out.mono ?_
    rintro e w1 ⟨rfl, hk1⟩
    have HK := Lib.hid (hk1.since HW.out.le HBW.out)
    clear C hk1
    go_wp2
    go_ret
    exact ⟨by rw [HE.out]; rfl, by rw [HP.out]; exact HK.out⟩
end Go.Proofs.Ytgfdonmkhmolpaa
