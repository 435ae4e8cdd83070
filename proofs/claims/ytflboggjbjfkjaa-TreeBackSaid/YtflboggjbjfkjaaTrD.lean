/-
  Contracts of package tree: valid, leastOf, pagesFor, Pages; of hamperref06: May.
-/
import Derived.Test.YtflboggjbjfkjaaTrC
namespace Go.Proofs.Ytflboggjbjfkjaa
open Go.RowKit
set_option linter.unusedVariables false
set_option linter.unusedSimpArgs false
set_option maxRecDepth 100000

theorem mayL_iff {L : List (Nat × Nat)} (h : ∀ j, j + 1 < L.length → (L.getD j (0, 0)).1 < (L.getD (j + 1) (0, 0)).1) : mayL L = decide ((L.length : Int) ≤ 600) := by
  unfold mayL
  have : (List.range (L.length - 1)).all (fun i => decide ((L.getD i (0, 0)).1 < (L.getD (i + 1) (0, 0)).1)) = true := by
    rw [List.all_eq_true]
    intro i hi
    simp only [List.mem_range] at hi
    exact decide_eq_true (h i (by omega))
  rw [this, Bool.true_and]
  apply decide_eq_decide.2
  omega
theorem mayL_no {L : List (Nat × Nat)} (j : Nat) (hj : j + 1 < L.length) (h : ¬ (L.getD j (0, 0)).1 < (L.getD (j + 1) (0, 0)).1) : mayL L = false := by
  unfold mayL
  have : (List.range (L.length - 1)).all (fun i => decide ((L.getD i (0, 0)).1 < (L.getD (i + 1) (0, 0)).1)) = false := by
    rw [List.all_eq_false]
    exact ⟨j, List.mem_range.2 (by omega), by simpa using h⟩
  rw [this, Bool.false_and]

set_option maxHeartbeats 1000000 in
theorem valid_any (a : Option Addr) (n cap : Nat) (L : List (Nat × Nat)) (w : World) (he : PairsAt w a n cap L) :
    Calls Try.prog 18 #[.slice a n cap] w fun e w' => e = .returned (.bool (mayL L)) ∧ Below w.heap.size w w' := by
  have HE := Lib.hid he
  have HL := Lib.hid he.1
  have hn : n ≤ 9223372036854775807 := by have := he.2.1; have := he.2.2.1; unfold maxLen at *; omega
  clear he
  go_enter Try.func18, Try.ntmps18
  go_wp2
  go_loopw [3] (fun i wr => ∃ k : Nat, 1 ≤ k ∧ (k ≤ n ∨ k = 1) ∧ i = .int .i64 k ∧ (∀ j, j + 1 < k → (L.getD j (0, 0)).1 < (L.getD (j + 1) (0, 0)).1) ∧ Below w.heap.size w wr) (fun i _ => n - (intOf i).toNat)
  case atStart => exact ⟨1, Nat.le_refl _, .inr rfl, rfl, fun j hj => by omega, Below.refl _ _⟩
  case round =>
    obtain ⟨k, hk1, hk, rfl, hasc, hb⟩ := hrel
    have HA := Lib.hid hasc
    have HB := Lib.hid hb
    clear hasc hb
    by_cases hlt : k < n
    · obtain ⟨q, rfl⟩ : ∃ q, k = q + 1 := ⟨k - 1, by omega⟩
      obtain ⟨b, off, rfl, hbb, hc⟩ := PairsAt.cells (CameAt.below HE.out (Nat.zero_lt_succ 1) HB.out) (by omega)
      obtain ⟨c0, _, _⟩ := hc q (by omega)
      obtain ⟨c1, _, _⟩ := hc (q + 1) hlt
      have HN := Lib.hid (fun (h : ¬ (L.getD q (0, 0)).1 < (L.getD (q + 1) (0, 0)).1) => mayL_no q (by rw [HL.out]; exact hlt) h)
      have HY := Lib.hid (fun (h : (L.getD q (0, 0)).1 < (L.getD (q + 1) (0, 0)).1) => (fun j hj => by
        by_cases e : j = q
        · subst e; exact h
        · exact HA.out j (by omega) : ∀ j, j + 1 < q + 1 + 1 → (L.getD j (0, 0)).1 < (L.getD (j + 1) (0, 0)).1))
      clear hc
      generalize (L.getD q (0, 0)).1 = x at *
      generalize (L.getD (q + 1) (0, 0)).1 = y at *
      have e1 : ((q + 1 : Nat) : Int) - 1 = (q : Int) := by omega
      generalize hkk : q + 1 = k at *
      by_cases hxy : x < y
      · have h1 : (x : Int) < (y : Int) := by omega
        have HYY := Lib.hid (HY.out hxy)
        clear HN HY
        go_wp2
        go_quiet (fail)
        go_wp2
        refine ⟨⟨k + 1, by omega, by omega, by go_num, HYY.out, below_drewN HB.out _⟩, by simp [intOf]; omega⟩
      · have h1 : ¬ (x : Int) < (y : Int) := by omega
        have HNN := Lib.hid (HN.out hxy)
        clear HN HY
        go_wp2
        go_quiet (fail)
        go_wp2
        go_ret
        exact ⟨congrArg (fun b => Ending.returned (.bool b)) HNN.out.symm, below_drewN HB.out _⟩
    · have HM := Lib.hid (mayL_iff (L := L) (fun j hj => HA.out j (by rw [HL.out] at hj; omega)))
      rw [HL.out] at HM
      go_wp2
      go_ret
      exact ⟨congrArg (fun b => Ending.returned (.bool b)) HM.out.symm, HB.out⟩

set_option maxHeartbeats 1000000 in
theorem may6_any (a : Option Addr) (n cap : Nat) (L : List (Nat × Nat)) (w : World) (he : PairsAt w a n cap L) :
    Calls Try.prog 11 #[.slice a n cap] w fun e w' => e = .returned (.bool (mayL L)) ∧ Below w.heap.size w w' := by
  have HE := Lib.hid he
  have HL := Lib.hid he.1
  have hn : n ≤ 9223372036854775807 := by have := he.2.1; have := he.2.2.1; unfold maxLen at *; omega
  clear he
  go_enter Try.func11, Try.ntmps11
  go_wp2
  go_loopw [3] (fun i wr => ∃ k : Nat, 1 ≤ k ∧ (k ≤ n ∨ k = 1) ∧ i = .int .i64 k ∧ (∀ j, j + 1 < k → (L.getD j (0, 0)).1 < (L.getD (j + 1) (0, 0)).1) ∧ Below w.heap.size w wr) (fun i _ => n - (intOf i).toNat)
  case atStart => exact ⟨1, Nat.le_refl _, .inr rfl, rfl, fun j hj => by omega, Below.refl _ _⟩
  case round =>
    obtain ⟨k, hk1, hk, rfl, hasc, hb⟩ := hrel
    have HA := Lib.hid hasc
    have HB := Lib.hid hb
    clear hasc hb
    by_cases hlt : k < n
    · obtain ⟨q, rfl⟩ : ∃ q, k = q + 1 := ⟨k - 1, by omega⟩
      obtain ⟨b, off, rfl, hbb, hc⟩ := PairsAt.cells (CameAt.below HE.out (Nat.zero_lt_succ 1) HB.out) (by omega)
      obtain ⟨c0, _, _⟩ := hc q (by omega)
      obtain ⟨c1, _, _⟩ := hc (q + 1) hlt
      have HN := Lib.hid (fun (h : ¬ (L.getD q (0, 0)).1 < (L.getD (q + 1) (0, 0)).1) => mayL_no q (by rw [HL.out]; exact hlt) h)
      have HY := Lib.hid (fun (h : (L.getD q (0, 0)).1 < (L.getD (q + 1) (0, 0)).1) => (fun j hj => by
        by_cases e : j = q
        · subst e; exact h
        · exact HA.out j (by omega) : ∀ j, j + 1 < q + 1 + 1 → (L.getD j (0, 0)).1 < (L.getD (j + 1) (0, 0)).1))
      clear hc
      generalize (L.getD q (0, 0)).1 = x at *
      generalize (L.getD (q + 1) (0, 0)).1 = y at *
      have e1 : ((q + 1 : Nat) : Int) - 1 = (q : Int) := by omega
      generalize hkk : q + 1 = k at *
      by_cases hxy : x < y
      · have h1 : (x : Int) < (y : Int) := by omega
        have HYY := Lib.hid (HY.out hxy)
        clear HN HY
        go_wp2
        go_quiet (fail)
        go_wp2
        refine ⟨⟨k + 1, by omega, by omega, by go_num, HYY.out, below_drewN HB.out _⟩, by simp [intOf]; omega⟩
      · have h1 : ¬ (x : Int) < (y : Int) := by omega
        have HNN := Lib.hid (HN.out hxy)
        clear HN HY
        go_wp2
        go_quiet (fail)
        go_wp2
        go_ret
        exact ⟨congrArg (fun b => Ending.returned (.bool b)) HNN.out.symm, below_drewN HB.out _⟩
    · have HM := Lib.hid (mayL_iff (L := L) (fun j hj => HA.out j (by rw [HL.out] at hj; omega)))
      rw [HL.out] at HM
      go_wp2
      go_ret
      exact ⟨congrArg (fun b => Ending.returned (.bool b)) HM.out.symm, HB.out⟩

theorem least_any (a : Option Addr) (n cap : Nat) (L : List (Nat × Nat)) (w : World) (he : PairsAt w a n cap L) :
    Calls Try.prog 32 #[.slice a n cap] w fun e w' => e = .returned (.int .u64 (leastL L : Nat)) ∧ w = w' := by
  by_cases h0 : 0 < n
  · obtain ⟨b, off, rfl, hbb, hc⟩ := PairsAt.cells he h0
    obtain ⟨c0, _, _⟩ := hc 0 h0
    have e : (L.getD 0 (0, 0)).1 = leastL L := rfl
    rw [e, Nat.zero_mul, Nat.add_zero] at c0
    clear hc he
    generalize leastL L = q at *
    go_enter Try.func32, Try.ntmps32
    go_wp2
    go_ret
    exact ⟨rfl, rfl⟩
  · obtain rfl : n = 0 := by omega
    have e : leastL L = 0 := by
      rw [List.eq_nil_of_length_eq_zero he.1]; rfl
    rw [e]
    clear he
    go_enter Try.func32, Try.ntmps32
    go_wp2
    go_ret
    exact ⟨rfl, rfl⟩

theorem pagesFor_any (n m : Nat) (w : World) (hn : n ≤ 100000) (h0 : 0 < m) (hm : m ≤ 100) :
    Calls Try.prog 24 #[.int .i64 n, .int .i64 m] w fun e w' => e = .returned (.int .i64 ((n + (m - 1)) / m : Nat)) ∧ w = w' := by
  have e1 : (n : Int) + (m : Int) - 1 = ((n + (m - 1) : Nat) : Int) := by omega
  have e2 : Int.tdiv ((n + (m - 1) : Nat) : Int) (m : Int) = ((n + (m - 1)) / m : Nat) := by
    rw [Int.tdiv_eq_ediv_of_nonneg (Int.natCast_nonneg _)]
    exact (Int.natCast_ediv _ _).symm
  have hlt : (n + (m - 1)) / m ≤ n + (m - 1) := Nat.div_le_self _ _
  have H2 := Lib.hid e2
  have hm0 : ¬ (m : Int) = 0 := by omega
  clear e2
  go_enter Try.func24, Try.ntmps24
  go_wp2
  go_ret
  exact ⟨congrArg (fun x => Ending.returned (.int .i64 x)) H2.out, rfl⟩

set_option maxHeartbeats 1000000 in
theorem pages_any (n : Nat) (w : World) (hn : n ≤ 600) :
    Calls Try.prog 10 #[.int .i64 n] w fun e w' => e = .returned (.int .i64 (pagesN n : Nat)) ∧ w = w' := by
  have C1 := Lib.hid (pagesFor_any n 7 w (by omega) (by omega) (by omega))
  have CF := Lib.hid (fun (m : Nat) (h : m ≤ 100000) => pagesFor_any m 12 w h (by omega) (by omega))
  have hp : finN (max 1 ((n + 6) / 7), max 1 ((n + 6) / 7)) = pagesN n := rfl
  have HP := Lib.hid hp
  have e7 : n + (7 - 1) = n + 6 := rfl
  rw [e7] at C1
  have hq : (n + 6) / 7 ≤ 86 := by omega
  clear hp e7
  generalize pagesN n = T at *
  generalize (n + 6) / 7 = q at *
  obtain ⟨r, hr⟩ : ∃ r, max 1 q = r := ⟨_, rfl⟩
  rw [hr] at HP
  have HR := Lib.hid hr
  clear hr
  have hn0 : ¬ (n : Int) < 0 := by omega
  have hn6 : ¬ (600 : Int) < (n : Int) := by omega
  by_cases hq1 : (1 : Int) < (q : Int)
  · skip
    go_enter Try.func10, Try.ntmps10
    go_wp2_with fail
    refine (C1.out).mono ?_
    rintro e w1 ⟨rfl, rfl⟩
    go_wp2
    go_loop [3, 4] (fun x y => ∃ lv al : Nat, x = .int .i64 lv ∧ y = .int .i64 al ∧ lv ≤ 86 ∧ 1 ≤ lv ∧ al + 2 * lv ≤ 300 ∧ finN (al, lv) = T) (fun x _ => (intOf x).toNat)
    case atStart => exact ⟨r, r, by have := HR.out; congr 1; omega, by have := HR.out; congr 1; omega, by have := HR.out; omega, by have := HR.out; omega, by have := HR.out; omega, HP.out⟩
    case round =>
      obtain ⟨lv, al, rfl, rfl, h86, h1, hs, hf⟩ := hrel
      by_cases hlt : 1 < lv
      · have hfs := finN_step (al, lv) hlt
        rw [hf] at hfs
        have HFS := Lib.hid hfs
        clear hfs hf
        have C2 := CF.out lv (by omega)
        have e11 : lv + (12 - 1) = lv + 11 := rfl
        rw [e11] at C2
        have C2 := Lib.hid C2
        have hq2 : (lv + 11) / 12 < lv := by omega
        have hq3 : 1 ≤ (lv + 11) / 12 := by omega
        have hq4 : 3 * ((lv + 11) / 12) ≤ 2 * lv := by omega
        dsimp only at HFS
        generalize (lv + 11) / 12 = q2 at *
        go_wp2_with (go_at_call 24; refine (C2.out).mono ?_; rintro e w2 ⟨rfl, rfl⟩)
        refine ⟨⟨q2, al + q2, rfl, by go_num, by omega, hq3, by omega, HFS.out.symm⟩, by simp [intOf]; omega⟩
      · have hfs := finN_done (al, lv) (by simp only []; omega)
        rw [hf] at hfs
        dsimp only at hfs
        subst hfs
        go_wp2
        go_ret
        exact ⟨rfl, rfl⟩
  · skip
    go_enter Try.func10, Try.ntmps10
    go_wp2_with fail
    refine (C1.out).mono ?_
    rintro e w1 ⟨rfl, rfl⟩
    go_wp2
    go_loop [3, 4] (fun x y => ∃ lv al : Nat, x = .int .i64 lv ∧ y = .int .i64 al ∧ lv ≤ 86 ∧ 1 ≤ lv ∧ al + 2 * lv ≤ 300 ∧ finN (al, lv) = T) (fun x _ => (intOf x).toNat)
    case atStart => exact ⟨r, r, by have := HR.out; congr 1; omega, by have := HR.out; congr 1; omega, by have := HR.out; omega, by have := HR.out; omega, by have := HR.out; omega, HP.out⟩
    case round =>
      obtain ⟨lv, al, rfl, rfl, h86, h1, hs, hf⟩ := hrel
      by_cases hlt : 1 < lv
      · have hfs := finN_step (al, lv) hlt
        rw [hf] at hfs
        have HFS := Lib.hid hfs
        clear hfs hf
        have C2 := CF.out lv (by omega)
        have e11 : lv + (12 - 1) = lv + 11 := rfl
        rw [e11] at C2
        have C2 := Lib.hid C2
        have hq2 : (lv + 11) / 12 < lv := by omega
        have hq3 : 1 ≤ (lv + 11) / 12 := by omega
        have hq4 : 3 * ((lv + 11) / 12) ≤ 2 * lv := by omega
        dsimp only at HFS
        generalize (lv + 11) / 12 = q2 at *
        go_wp2_with (go_at_call 24; refine (C2.out).mono ?_; rintro e w2 ⟨rfl, rfl⟩)
        refine ⟨⟨q2, al + q2, rfl, by go_num, by omega, hq3, by omega, HFS.out.symm⟩, by simp [intOf]; omega⟩
      · have hfs := finN_done (al, lv) (by simp only []; omega)
        rw [hf] at hfs
        dsimp only at hfs
        subst hfs
        go_wp2
        go_ret
        exact ⟨rfl, rfl⟩

theorem pages_out (n : Int) (w : World) (hn : n < 0 ∨ 600 < n) :
    Calls Try.prog 10 #[.int .i64 n] w fun e w' => e = .returned (.int .i64 0) ∧ w = w' := by
  by_cases h : n < 0
  · go_enter Try.func10, Try.ntmps10
    go_wp2
    go_ret
    exact ⟨rfl, rfl⟩
  · have h6 : 600 < n := by omega
    go_enter Try.func10, Try.ntmps10
    go_wp2
    go_ret
    exact ⟨rfl, rfl⟩

end Go.Proofs.Ytflboggjbjfkjaa
