/-
  The chapter's examples.
-/
import Derived.Test.YtflboggjbjfkjaaTrN
namespace Go.Proofs.Ytflboggjbjfkjaa
open Go.RowKit
set_option linter.unusedVariables false
set_option linter.unusedSimpArgs false
set_option maxRecDepth 100000

theorem one_asc : ([(5, 9)] : List (Nat × Nat)).Pairwise fun a b => a.1 < b.1 := by simp
theorem one_fits : Fits 1 ([(5, 9)] : List (Nat × Nat)) := by
  intro p hp
  simp only [List.mem_singleton] at hp
  subst hp
  exact ⟨by decide, by decide⟩
theorem ex_len1 : (buildL [(5, 9)]).length = 1 := by rw [buildL_length]; decide
theorem ex_len8 : (buildL (someL 8)).length = 3 := by rw [buildL_length, someL_length]; decide
theorem ex_find5 : findTop (buildL [(5, 9)]) 5 = (9, 1, 0) := by
  rcases find_built [(5, 9)] one_asc one_fits (by decide) 5 with ⟨v, h1, h2⟩ | ⟨h1, _⟩
  · have h3 : valAt [(5, 9)] 5 = some 9 := by decide
    rw [h3] at h1
    cases h1
    exact h2
  · have h3 : valAt [(5, 9)] 5 = some 9 := by decide
    rw [h3] at h1
    cases h1
theorem ex_find6 : findTop (buildL [(5, 9)]) 6 = (0, 1, 6) := by
  have h3 : valAt [(5, 9)] 6 = none := by decide
  rcases find_built [(5, 9)] one_asc one_fits (by decide) 6 with ⟨v, h1, h2⟩ | ⟨h1, n, hn1, hn2, h2⟩
  · rw [h3] at h1
    cases h1
  · have : levN [(5, 9)].length = 1 := by decide
    rw [this] at hn2
    obtain rfl : n = 1 := by omega
    exact h2
theorem ex_find8 : findTop (buildL (someL 8)) 8 = (24, 2, 0) := by
  have h3 : valAt (someL 8) 8 = some 24 := by decide
  rcases find_built (someL 8) (someL_asc 8) (someL_fits 8 (by omega)) (by rw [someL_length]; omega) 8 with ⟨v, h1, h2⟩ | ⟨h1, _⟩
  · rw [h3] at h1
    cases h1
    rw [someL_length] at h2
    exact h2
  · rw [h3] at h1
    cases h1

set_option maxHeartbeats 2000000 in
theorem awake6_any (w : World) : Calls Try.prog 12 #[] w fun e w' => e = .returned (.bool true) ∧ Below w.heap.size w w' := by
  have hal : Below w.heap.size w (w.alloc (.cells (pairC (5, 9)).toArray 48)) := (Below.refl _ _).alloc (Nat.le_refl _) _
  have h1 : PairsAt (w.alloc (.cells (pairC (5, 9)).toArray 48)) (some ⟨w.heap.size, 0, none⟩) 1 1 [(5, 9)] := by
    refine ⟨rfl, Nat.le_refl _, by unfold maxLen; omega, fun _ _ => rfl, .inr ⟨_, rfl, fun i j x hi hj => ?_⟩⟩
    have hi0 : i = 0 := by
      have := (List.getElem?_eq_some_iff.1 hi).1
      simpa using this
    subst hi0
    obtain rfl : (5, 9) = x := by simpa using hi
    rw [Addr.add_mid, Nat.zero_add, cell_of_row _ _ _ _ _ _ (heap_alloc_new w _), ← Array.getElem?_toList]
    simp
  have CB := Lib.hid (build_yes _ 1 1 [(5, 9)] _ h1 (mayL_of one_asc (by decide)) one_fits)
  have HAL := Lib.hid hal
  have CS := Lib.hid (fun u => some6_any 8 u (by omega))
  have CP := fun u => pages_any 600 u (Nat.le_refl _)
  simp only [pagesN_600] at CP
  have CP := Lib.hid CP
  clear hal h1
  go_enter Try.func12, Try.ntmps12
  go_wp2_with (refine wpList_buildSliceV rfl 22 1 _ rfl #[(0, .agg (pairC (5, 9)).toArray)] (by simp [go_sem, pairC]) _ _ (built_pair (pairC (5, 9)).toArray rfl _) ?_)
  refine (CB.out).mono ?_
  rintro e w1 ⟨v1, rfl, hr1, _, hb1⟩
  obtain ⟨a1, c1, rfl, _, _⟩ := hr1.form
  have hrd := hr1.read
  rw [ex_len1] at hrd
  have HB1 := Lib.hid (HAL.out.trans (hb1.mono HAL.out.size))
  have C5 := fun u (h : Below w1.heap.size w1 u) => find_any a1 1 c1 (buildL [(5, 9)]) 5 u (hrd.below h) (by omega) (by omega)
  have C6 := fun u (h : Below w1.heap.size w1 u) => find_any a1 1 c1 (buildL [(5, 9)]) 6 u (hrd.below h) (by omega) (by omega)
  rw [ex_find5] at C5
  rw [ex_find6] at C6
  have C5 := Lib.hid C5
  have C6 := Lib.hid C6
  rw [ex_len1]
  clear hr1 hrd hb1 CB
  go_wp2_with fail
  refine (C5.out _ (Below.refl _ _)).mono ?_
  rintro e w2 ⟨rfl, hb2⟩
  unfold findV
  go_wp2_with fail
  refine (C6.out _ hb2).mono ?_
  rintro e w3 ⟨rfl, hb3⟩
  unfold findV
  go_wp2_with fail
  refine (CS.out _).mono ?_
  rintro e w4 ⟨v4, rfl, hr4, _, hb4⟩
  obtain ⟨a4, c4, rfl, _, _⟩ := hr4.form
  have CB2 := Lib.hid (build_yes a4 (someL 8).length c4 (someL 8) w4 hr4.came (mayL_of (someL_asc 8) (by rw [someL_length]; omega)) (someL_fits 8 (by omega)))
  have HB4 := Lib.hid (((HB1.out.trans (hb2.mono HB1.out.size)).trans (hb3.mono (Nat.le_trans HB1.out.size hb2.size))).trans (hb4.mono (Nat.le_trans (Nat.le_trans HB1.out.size hb2.size) hb3.size)))
  rw [someL_length] at CB2 ⊢
  clear hr4 hb2 hb3 hb4 C5 C6
  go_wp2_with fail
  refine (CB2.out).mono ?_
  rintro e w5 ⟨v5, rfl, hr5, _, hb5⟩
  obtain ⟨a5, c5, rfl, _, _⟩ := hr5.form
  have hrd := hr5.read
  rw [ex_len8] at hrd
  have C8 := find_any a5 3 c5 (buildL (someL 8)) 8 w5 hrd (by omega) (by omega)
  rw [ex_find8] at C8
  have C8 := Lib.hid C8
  rw [ex_len8]
  have HB5 := Lib.hid (HB4.out.trans (hb5.mono HB4.out.size))
  clear hr5 hrd hb5 CB2
  go_wp2_with fail
  refine (C8.out).mono ?_
  rintro e w6 ⟨rfl, hb6⟩
  unfold findV
  go_wp2_with (go_at_call 10; refine (CP.out _).mono ?_; rintro e w7 ⟨rfl, rfl⟩)
  go_ret
  exact ⟨rfl, HB5.out.trans (hb6.mono HB5.out.size)⟩

end Go.Proofs.Ytflboggjbjfkjaa
