/-
  What is found in the pages that are laid down.
-/
import Derived.Test.YtflboggjbjfkjaaTrMath
namespace Go.Proofs.Ytflboggjbjfkjaa
set_option linter.unusedVariables false
set_option linter.unusedSimpArgs false

abbrev LvS := List (List UInt8) × List (Nat × Nat)
def lastLe : List (Nat × Nat) → Nat → Option (Nat × Nat)
  | [], _ => none
  | x :: es, key => match lastLe es key with
    | some y => some y
    | none => if x.1 ≤ key then some x else none
def valAt (es : List (Nat × Nat)) (key : Nat) : Option Nat := (es.find? fun p => decide (p.1 = key)).map (·.2)
def leafEnts (b : List UInt8) : List (Nat × Nat) := if kindL b = 1 then entsOf b else []
def valR (r : Nat) : Option Nat → Nat × Nat × Nat
  | some v => (v, r, 0)
  | none => (0, r, 6)
def findF (P : List (List UInt8)) (key : Nat) : Nat → Nat → Nat → Nat × Nat × Nat
  | 0, _, _ => (0, 0, 3)
  | f + 1, at_, r =>
    if isP (P.getD at_ []) = true then
      if kindL (P.getD at_ []) = 1 then valR r (valAt (entsOf (P.getD at_ [])) key)
      else match lastLe (entsOf (P.getD at_ [])) key with
        | none => (0, r, 6)
        | some p => if at_ ≤ p.2 then (0, 0, 3) else findF P key f p.2 (r + 1)
    else (0, 0, 3)
def findTop (P : List (List UInt8)) (key : Nat) : Nat × Nat × Nat := findF P key P.length (P.length - 1) 1

theorem findF_fuel (P : List (List UInt8)) (key : Nat) : ∀ (f g at_ r : Nat), at_ < f → at_ < g → findF P key f at_ r = findF P key g at_ r
  | 0, _, _, _, h, _ => by omega
  | _ + 1, 0, _, _, _, h => by omega
  | f + 1, g + 1, at_, r, h1, h2 => by
    simp only [findF]
    split
    · split
      · rfl
      · split
        · rfl
        · split
          · rfl
          · exact findF_fuel P key f g _ _ (by omega) (by omega)
    · rfl

/-! ### the last that is not above -/
theorem lastLe_mem : ∀ {es : List (Nat × Nat)} {key : Nat} {y : Nat × Nat}, lastLe es key = some y → y ∈ es ∧ y.1 ≤ key
  | [], _, _, h => by simp [lastLe] at h
  | x :: es, key, y, h => by
    simp only [lastLe] at h
    split at h
    · rename_i z hz
      obtain rfl : z = y := by simpa using h
      exact ⟨List.mem_cons_of_mem _ (lastLe_mem hz).1, (lastLe_mem hz).2⟩
    · split at h
      · rename_i hx
        obtain rfl : x = y := by simpa using h
        exact ⟨List.mem_cons_self, hx⟩
      · cases h
theorem lastLe_none : ∀ {es : List (Nat × Nat)} {key : Nat}, lastLe es key = none ↔ ∀ x ∈ es, key < x.1
  | [], _ => by simp [lastLe]
  | x :: es, key => by
    have ih := lastLe_none (es := es) (key := key)
    simp only [lastLe]
    split
    · rename_i z hz
      constructor
      · intro h; cases h
      · intro h
        have := ih.2 (fun x hx => h x (List.mem_cons_of_mem _ hx))
        rw [hz] at this
        cases this
    · rename_i hz
      split
      · rename_i hx
        constructor
        · intro h; cases h
        · intro h; have := h x List.mem_cons_self; omega
      · rename_i hx
        refine ⟨fun _ y hy => ?_, fun _ => rfl⟩
        rcases List.mem_cons.1 hy with rfl | hy
        · omega
        · exact ih.1 hz y hy
theorem lastLe_append (es fs : List (Nat × Nat)) (key : Nat) : lastLe (es ++ fs) key = (match lastLe fs key with | some y => some y | none => lastLe es key) := by
  induction es with
  | nil => simp only [List.nil_append, lastLe]; split <;> simp_all
  | cons x es ih =>
    simp only [List.cons_append, lastLe, ih]
    cases lastLe fs key <;> rfl
theorem valAt_last : ∀ (es : List (Nat × Nat)) (key : Nat), es.Pairwise (fun a b => a.1 < b.1) → valAt es key = (lastLe es key).bind fun p => if p.1 = key then some p.2 else none
  | [], _, _ => rfl
  | x :: es, key, h => by
    obtain ⟨h1, h2⟩ := List.pairwise_cons.1 h
    have ih := valAt_last es key h2
    simp only [lastLe]
    split
    · rename_i y hy
      obtain ⟨m1, m2⟩ := lastLe_mem hy
      have := h1 y m1
      rw [hy] at ih
      rw [← ih]
      unfold valAt
      rw [List.find?_cons_of_neg (by simp; omega)]
    · rename_i hn
      rw [hn] at ih
      unfold valAt at ih ⊢
      by_cases hx : x.1 = key
      · rw [List.find?_cons_of_pos (by simp [hx])]
        simp [hx]
      · rw [List.find?_cons_of_neg (by simp [hx]), ih]
        by_cases hle : x.1 ≤ key
        · simp [hle, hx]
        · simp [hle]

/-! ### parts -/
theorem chunk_flat {α : Type} (m : Nat) (l : List α) (hm : 0 < m) : (chunk m l).flatten = l := by
  have h := flat_seg (fun i => (l.drop (m * i)).take m) l 0 m ((l.length + (m - 1)) / m) (fun i _ => by simp)
  unfold chunk
  rw [← List.flatMap_def, h, List.drop_zero]
  apply List.take_of_length_le
  have := Nat.lt_mul_div_succ (l.length + (m - 1)) hm
  rw [Nat.mul_add] at this
  omega
theorem partsL_flat (m : Nat) (l : List (Nat × Nat)) (hm : 0 < m) : (partsL m l).flatten = l := by
  unfold partsL
  split
  · rename_i h
    rw [List.eq_nil_of_length_eq_zero h]
    rfl
  · exact chunk_flat m l hm
theorem partsL_part {m : Nat} {l : List (Nat × Nat)} (hm : 0 < m) {p : List (Nat × Nat)} (h : p ∈ partsL m l) : p.length ≤ m ∧ p.Sublist l ∧ (l.length ≠ 0 → p ≠ []) := by
  unfold partsL at h
  split at h
  · rename_i h0
    obtain rfl : p = [] := by simpa using h
    exact ⟨by simp, List.nil_sublist _, fun h => absurd h0 h⟩
  · rename_i h0
    unfold chunk at h
    simp only [List.mem_map, List.mem_range] at h
    obtain ⟨i, hi, rfl⟩ := h
    have h1 := (Nat.le_div_iff_mul_le hm).1 hi
    rw [Nat.succ_mul, Nat.mul_comm] at h1
    refine ⟨by simp; omega, (List.take_sublist _ _).trans (List.drop_sublist _ _), fun _ he => ?_⟩
    have := congrArg List.length he
    simp at this
    omega
theorem aboveL_nil (b : Nat) : aboveL b [] = [] := rfl
theorem aboveL_cons (b : Nat) (p : List (Nat × Nat)) (ps : List (List (Nat × Nat))) : aboveL b (p :: ps) = (leastL p, b) :: aboveL (b + 1) ps := by
  unfold aboveL
  rw [List.length_cons, List.range_succ_eq_map, List.map_cons, List.map_map]
  congr 1
  apply List.map_congr_left
  intro i _
  simp
  omega
theorem aboveL_snoc (b : Nat) (ps : List (List (Nat × Nat))) (p : List (Nat × Nat)) : aboveL b (ps ++ [p]) = aboveL b ps ++ [(leastL p, b + ps.length)] := by
  induction ps generalizing b with
  | nil => simp [aboveL_cons, aboveL_nil]
  | cons q ps ih => simp [aboveL_cons, ih]; omega
theorem aboveL_mem {b : Nat} {ps : List (List (Nat × Nat))} {x : Nat × Nat} (h : x ∈ aboveL b ps) : ∃ j p, ps[j]? = some p ∧ x = (leastL p, b + j) := by
  unfold aboveL at h
  simp only [List.mem_map, List.mem_range] at h
  obtain ⟨i, hi, rfl⟩ := h
  exact ⟨i, ps.getD i [], by simp [List.getD, List.getElem?_eq_getElem hi], rfl⟩
theorem leastL_mem {p : List (Nat × Nat)} (h : p ≠ []) : ∃ x ∈ p, leastL p = x.1 := by
  cases p with
  | nil => exact absurd rfl h
  | cons x p => exact ⟨x, List.mem_cons_self, rfl⟩
theorem least_le {p : List (Nat × Nat)} (h : p.Pairwise fun a b => a.1 < b.1) : ∀ x ∈ p, leastL p ≤ x.1 := by
  cases p with
  | nil => intro x hx; cases hx
  | cons y p =>
    intro x hx
    rcases List.mem_cons.1 hx with rfl | hx
    · exact Nat.le_refl _
    · exact Nat.le_of_lt ((List.pairwise_cons.1 h).1 x hx)
theorem above_sorted : ∀ (b : Nat) (ps : List (List (Nat × Nat))), (∀ p ∈ ps, p ≠ []) → ps.flatten.Pairwise (fun a b => a.1 < b.1) → (aboveL b ps).Pairwise fun a b => a.1 < b.1
  | _, [], _, _ => by simp [aboveL_nil]
  | b, p :: ps, h, hs => by
    rw [List.flatten_cons, List.pairwise_append] at hs
    obtain ⟨h1, h2, h3⟩ := hs
    rw [aboveL_cons, List.pairwise_cons]
    refine ⟨fun y hy => ?_, above_sorted _ ps (fun q hq => h q (List.mem_cons_of_mem _ hq)) h2⟩
    obtain ⟨j, q, hq, rfl⟩ := aboveL_mem hy
    have hqm := List.mem_of_getElem? hq
    obtain ⟨x, hx, e1⟩ := leastL_mem (h p List.mem_cons_self)
    obtain ⟨z, hz, e2⟩ := leastL_mem (h q (List.mem_cons_of_mem _ hqm))
    simp only [e1, e2]
    exact h3 x hx z (List.mem_flatten.2 ⟨q, hqm, hz⟩)

/-- the last part whose least is not above is where the last one that is not above stands -/
theorem pick_part (key : Nat) : ∀ (b : Nat) (ps : List (List (Nat × Nat))), (∀ p ∈ ps, ∀ x ∈ p, leastL p ≤ x.1) →
    (lastLe (aboveL b ps) key = none ∧ (∀ p ∈ ps, key < leastL p) ∧ lastLe ps.flatten key = none) ∨
    ∃ j p, ps[j]? = some p ∧ leastL p ≤ key ∧ lastLe (aboveL b ps) key = some (leastL p, b + j) ∧ (p ≠ [] → lastLe p key ≠ none) ∧ (p ≠ [] ∨ ps.length = 1 → lastLe ps.flatten key = lastLe p key)
  | _, [], _ => .inl ⟨rfl, by simp, rfl⟩
  | b, p :: ps, h => by
    rcases pick_part key (b + 1) ps (fun q hq => h q (List.mem_cons_of_mem _ hq)) with ⟨h1, h2, h3⟩ | ⟨j, q, h1, h2, h3, h4, h5⟩
    · by_cases hk : leastL p ≤ key
      · refine .inr ⟨0, p, rfl, hk, by rw [aboveL_cons, lastLe, h1]; simp [hk], fun hp hn => ?_, fun _ => by rw [List.flatten_cons, lastLe_append, h3]⟩
        obtain ⟨x, hx, e⟩ := leastL_mem hp
        have := lastLe_none.1 hn x hx
        omega
      · refine .inl ⟨by rw [aboveL_cons, lastLe, h1]; simp [hk], fun q hq => ?_, ?_⟩
        · rcases List.mem_cons.1 hq with rfl | hq
          · omega
          · exact h2 q hq
        · rw [List.flatten_cons, lastLe_append, h3]
          refine lastLe_none.2 fun x hx => ?_
          have := h p List.mem_cons_self x hx
          omega
    · refine .inr ⟨j + 1, q, by simpa using h1, h2, by rw [aboveL_cons, lastLe, h3]; simp; omega, h4, fun hq => ?_⟩
      have hq2 : q ≠ [] := by
        rcases hq with hq | hq
        · exact hq
        · have := (List.getElem?_eq_some_iff.1 h1).1
          rw [List.length_cons] at hq
          omega
      have h6 := h5 (.inl hq2)
      rw [List.flatten_cons, lastLe_append, h6]
      cases hl : lastLe q key with
      | none => exact absurd hl (h4 hq2)
      | some y => rfl

/-! ### a level, and what is found below it -/
structure Look (l : List (Nat × Nat)) (s : LvS) (d : Nat) : Prop where
  ne : s.2.length ≠ 0
  last : ∀ x, s.2 = [x] → x.2 + 1 = s.1.length
  sorted : s.2.Pairwise fun a b => a.1 < b.1
  fit : Fits 2 s.2
  small : s.1.length + s.2.length ≤ 1000
  page : ∀ b ∈ s.1, isP b = true
  flat : s.1.flatMap leafEnts = l
  hit : ∀ key p, lastLe s.2 key = some p → p.2 < s.1.length ∧ ∀ M f r, p.2 < f → findF (s.1 ++ M) key f p.2 r = valR (r + d) (valAt l key)
  miss : ∀ key, lastLe s.2 key = none → valAt l key = none ∧ ∀ x ∈ s.2, x.2 < s.1.length ∧ ∀ M f r, x.2 < f → findF (s.1 ++ M) key f x.2 r = (0, r, 6)

theorem getD_mid {α : Type} (A B M : List α) (d x : α) (j : Nat) (h : B[j]? = some x) : ((A ++ B) ++ M).getD (A.length + j) d = x := by
  have hj := (List.getElem?_eq_some_iff.1 h).1
  rw [List.getD, List.getElem?_append_left (by simp; omega), List.getElem?_append_right (by omega), Nat.add_sub_cancel_left, h]
  rfl

theorem levelL_one (k : Nat) (pages : List (List UInt8)) (ps : List (List (Nat × Nat))) : ∀ x, (levelL k pages ps).2 = [x] → x.2 + 1 = (levelL k pages ps).1.length := by
  intro x h
  obtain ⟨h1, h2⟩ := levelL_len k pages ps
  have hl : ps.length = 1 := by rw [← h2, h]; rfl
  rw [h1, hl]
  have hx : x ∈ aboveL pages.length ps := by
    show x ∈ (levelL k pages ps).2
    rw [h]; exact List.mem_cons_self
  obtain ⟨j, p, hj, rfl⟩ := aboveL_mem hx
  have := (List.getElem?_eq_some_iff.1 hj).1
  simp only
  omega

theorem above_fits {k : Nat} (b : Nat) (ps : List (List (Nat × Nat))) (h : ∀ p ∈ ps, Fits k p) (hb : b + ps.length ≤ 65536) : Fits 2 (aboveL b ps) := by
  intro x hx
  obtain ⟨j, p, hj, rfl⟩ := aboveL_mem hx
  have := (List.getElem?_eq_some_iff.1 hj).1
  refine ⟨?_, by show b + j < 65536; omega⟩
  by_cases hp : p = []
  · subst hp; show leastL [] < 18446744073709551616; decide
  · obtain ⟨x, hx, e⟩ := leastL_mem hp
    simp only [e]
    exact (h p (List.mem_of_getElem? hj) x hx).1

theorem mayL_asc {l : List (Nat × Nat)} (h : mayL l = true) : l.Pairwise (fun a b => a.1 < b.1) ∧ l.length ≤ 600 := by
  unfold mayL at h
  simp only [Bool.and_eq_true, List.all_eq_true, List.mem_range, decide_eq_true_eq] at h
  refine ⟨?_, h.2⟩
  have key : ∀ (j i : Nat) (hi : i < j) (hj : j < l.length), (l.getD i (0, 0)).1 < (l.getD j (0, 0)).1 := by
    intro j
    induction j with
    | zero => intro i hi; omega
    | succ j ih =>
      intro i hi hj
      have h1 := h.1 j (by omega)
      by_cases he : i = j
      · subst he; exact h1
      · exact Nat.lt_trans (ih i (by omega) (by omega)) h1
  rw [List.pairwise_iff_getElem]
  intro i j hi hj hij
  have := key j i hij hj
  simpa [List.getD, List.getElem?_eq_getElem hi, List.getElem?_eq_getElem hj] using this

theorem look_start (l : List (Nat × Nat)) (hl : l.Pairwise (fun a b => a.1 < b.1)) (hf : Fits 1 l) (h6 : l.length ≤ 700) : Look l (startL l) 0 := by
  obtain ⟨e1, e2⟩ := levelL_len 1 [] (partsL 7 l)
  have e3 := partsL_length 7 l (by omega)
  have hparts : ∀ p ∈ partsL 7 l, mayN 1 p.length = true ∧ Fits 1 p ∧ p.Pairwise (fun a b => a.1 < b.1) ∧ ∀ x ∈ p, leastL p ≤ x.1 := by
    intro p hp
    obtain ⟨h1, h2, _⟩ := partsL_part (by omega) hp
    exact ⟨by simp [mayN, h1], fun x hx => hf x (h2.subset hx), hl.sublist h2, least_le (hl.sublist h2)⟩
  have hempty : (∀ p ∈ partsL 7 l, p ≠ []) ∨ partsL 7 l = [[]] := by
    by_cases h0 : l.length = 0
    · right; unfold partsL; rw [if_pos h0]
    · left; intro p hp; exact (partsL_part (by omega) hp).2.2 h0
  have hflat : (partsL 7 l).flatten = l := partsL_flat 7 l (by omega)
  refine ⟨?_, levelL_one _ _ _, ?_, ?_, ?_, ?_, ?_, ?_, ?_⟩
  · show (levelL 1 [] (partsL 7 l)).2.length ≠ 0
    rw [e2, e3]; omega
  · show (aboveL 0 (partsL 7 l)).Pairwise _
    rcases hempty with h | h
    · exact above_sorted _ _ h (by rw [hflat]; exact hl)
    · rw [h, aboveL_cons, aboveL_nil]; simp
  · exact above_fits 0 (partsL 7 l) (fun p hp => (hparts p hp).2.1) (by rw [e3]; omega)
  · show (levelL 1 [] (partsL 7 l)).1.length + (levelL 1 [] (partsL 7 l)).2.length ≤ 1000
    rw [e1, e2, e3]; simp; omega
  · intro b hb
    have hb : b ∈ [] ++ (partsL 7 l).map (pageL 1) := hb
    simp only [List.nil_append, List.mem_map] at hb
    obtain ⟨p, hp, rfl⟩ := hb
    exact isP_page (hparts p hp).1 (hparts p hp).2.1
  · show ([] ++ (partsL 7 l).map (pageL 1)).flatMap leafEnts = l
    rw [List.nil_append, List.flatMap_map]
    have : (partsL 7 l).flatMap (fun p => leafEnts (pageL 1 p)) = (partsL 7 l).flatMap id := by
      rw [List.flatMap_def, List.flatMap_def]
      congr 1
      apply List.map_congr_left
      intro p hp
      unfold leafEnts
      rw [pageL_kind (hparts p hp).1, if_pos rfl, ents_page (hparts p hp).1 (hparts p hp).2.1]
      rfl
    rw [this, List.flatMap_id, hflat]
  · intro key q hq
    have hq : lastLe (aboveL 0 (partsL 7 l)) key = some q := hq
    rcases pick_part key 0 (partsL 7 l) (fun p hp => (hparts p hp).2.2.2) with ⟨h1, _, _⟩ | ⟨j, p, h1, h2, h3, h4, h5⟩
    · rw [h1] at hq; cases hq
    · rw [h3] at hq
      obtain rfl : (leastL p, 0 + j) = q := by simpa using hq
      have hj := (List.getElem?_eq_some_iff.1 h1).1
      have hpm := List.mem_of_getElem? h1
      refine ⟨by show 0 + j < (levelL 1 [] (partsL 7 l)).1.length; rw [e1]; simpa using hj, fun M f r hfu => ?_⟩
      obtain ⟨f, rfl⟩ : ∃ g, f = g + 1 := ⟨f - 1, by simp only at hfu; omega⟩
      have hg : (((startL l).1 ++ M).getD (0 + j) []) = pageL 1 p := by
        have := getD_mid [] ((partsL 7 l).map (pageL 1)) M [] (pageL 1 p) j (by simp [h1])
        simpa [startL, levelL] using this
      simp only [findF, hg, isP_page (hparts p hpm).1 (hparts p hpm).2.1, pageL_kind (hparts p hpm).1, ents_page (hparts p hpm).1 (hparts p hpm).2.1, if_true]
      have h6 : lastLe (partsL 7 l).flatten key = lastLe p key := h5 (by
        rcases hempty with h | h
        · exact .inl (h p hpm)
        · right; rw [h]; rfl)
      rw [hflat] at h6
      rw [valAt_last p key (hparts p hpm).2.2.1, valAt_last l key hl, h6]
      rfl
  · intro key hq
    have hq : lastLe (aboveL 0 (partsL 7 l)) key = none := hq
    rcases pick_part key 0 (partsL 7 l) (fun p hp => (hparts p hp).2.2.2) with ⟨h1, h2, h3⟩ | ⟨j, p, h1, h2, h3, h4, h5⟩
    · rw [hflat] at h3
      refine ⟨by rw [valAt_last l key hl, h3]; rfl, fun x hx => ?_⟩
      obtain ⟨j, p, hj, rfl⟩ := aboveL_mem (show x ∈ aboveL 0 (partsL 7 l) from hx)
      have hjl := (List.getElem?_eq_some_iff.1 hj).1
      have hpm := List.mem_of_getElem? hj
      refine ⟨by show 0 + j < (levelL 1 [] (partsL 7 l)).1.length; rw [e1]; simpa using hjl, fun M f r hfu => ?_⟩
      obtain ⟨f, rfl⟩ : ∃ g, f = g + 1 := ⟨f - 1, by simp only at hfu; omega⟩
      have hg : (((startL l).1 ++ M).getD (0 + j) []) = pageL 1 p := by
        have := getD_mid [] ((partsL 7 l).map (pageL 1)) M [] (pageL 1 p) j (by simp [hj])
        simpa [startL, levelL] using this
      simp only [findF, hg, isP_page (hparts p hpm).1 (hparts p hpm).2.1, pageL_kind (hparts p hpm).1, ents_page (hparts p hpm).1 (hparts p hpm).2.1, if_true]
      have hn : lastLe p key = none := lastLe_none.2 fun x hx => Nat.lt_of_lt_of_le (h2 p hpm) ((hparts p hpm).2.2.2 x hx)
      rw [valAt_last p key (hparts p hpm).2.2.1, hn]
      rfl
    · rw [h3] at hq; cases hq

theorem look_step {l : List (Nat × Nat)} {s : LvS} {d : Nat} (h : Look l s d) (h1 : 1 < s.2.length) : Look l (stepL s) (d + 1) := by
  obtain ⟨e1, e2⟩ := levelL_len 2 s.1 (partsL 12 s.2)
  have e3 := partsL_length 12 s.2 (by omega)
  have hparts : ∀ p ∈ partsL 12 s.2, mayN 2 p.length = true ∧ Fits 2 p ∧ p ≠ [] ∧ ∀ x ∈ p, leastL p ≤ x.1 := by
    intro p hp
    obtain ⟨g1, g2, g3⟩ := partsL_part (by omega) hp
    have g4 := g3 h.ne
    have : p.length ≠ 0 := fun h0 => g4 (List.eq_nil_of_length_eq_zero h0)
    exact ⟨by simp [mayN]; omega, fun x hx => h.fit x (g2.subset hx), g4, least_le (h.sorted.sublist g2)⟩
  have hflat : (partsL 12 s.2).flatten = s.2 := partsL_flat 12 s.2 (by omega)
  have hsm := h.small
  have hpage : ∀ (j : Nat) (p : List (Nat × Nat)) (M : List (List UInt8)), (partsL 12 s.2)[j]? = some p → (((stepL s).1 ++ M).getD (s.1.length + j) []) = pageL 2 p := by
    intro j p M hj
    exact getD_mid s.1 ((partsL 12 s.2).map (pageL 2)) M [] (pageL 2 p) j (by simp [hj])
  have happ : ∀ M, (stepL s).1 ++ M = s.1 ++ ((partsL 12 s.2).map (pageL 2) ++ M) := fun M => List.append_assoc _ _ _
  refine ⟨?_, levelL_one _ _ _, ?_, ?_, ?_, ?_, ?_, ?_, ?_⟩
  · show (levelL 2 s.1 (partsL 12 s.2)).2.length ≠ 0
    rw [e2, e3]; omega
  · exact above_sorted _ _ (fun p hp => (hparts p hp).2.2.1) (by rw [hflat]; exact h.sorted)
  · exact above_fits s.1.length (partsL 12 s.2) (fun p hp => (hparts p hp).2.1) (by rw [e3]; omega)
  · show (levelL 2 s.1 (partsL 12 s.2)).1.length + (levelL 2 s.1 (partsL 12 s.2)).2.length ≤ 1000
    rw [e1, e2, e3]; omega
  · intro b hb
    have hb : b ∈ s.1 ++ (partsL 12 s.2).map (pageL 2) := hb
    rcases List.mem_append.1 hb with hb | hb
    · exact h.page b hb
    · simp only [List.mem_map] at hb
      obtain ⟨p, hp, rfl⟩ := hb
      exact isP_page (hparts p hp).1 (hparts p hp).2.1
  · show (s.1 ++ (partsL 12 s.2).map (pageL 2)).flatMap leafEnts = l
    rw [List.flatMap_append, h.flat, List.flatMap_map]
    have : (partsL 12 s.2).flatMap (fun p => leafEnts (pageL 2 p)) = [] := by
      rw [List.flatMap_eq_nil_iff]
      intro p hp
      unfold leafEnts
      rw [pageL_kind (hparts p hp).1, if_neg (by omega)]
    rw [this, List.append_nil]
  · intro key q hq
    have hq : lastLe (aboveL s.1.length (partsL 12 s.2)) key = some q := hq
    rcases pick_part key s.1.length (partsL 12 s.2) (fun p hp => (hparts p hp).2.2.2) with ⟨g1, _, _⟩ | ⟨j, p, g1, g2, g3, g4, g5⟩
    · rw [g1] at hq; cases hq
    · rw [g3] at hq
      obtain rfl : (leastL p, s.1.length + j) = q := by simpa using hq
      have hj := (List.getElem?_eq_some_iff.1 g1).1
      have hpm := List.mem_of_getElem? g1
      refine ⟨by show s.1.length + j < (levelL 2 s.1 (partsL 12 s.2)).1.length; rw [e1]; omega, fun M f r hfu => ?_⟩
      obtain ⟨f, rfl⟩ : ∃ g, f = g + 1 := ⟨f - 1, by simp only at hfu; omega⟩
      have g6 : lastLe s.2 key = lastLe p key := by
        have := g5 (.inl (hparts p hpm).2.2.1)
        rwa [hflat] at this
      cases hp0 : lastLe p key with
      | none => exact absurd hp0 (g4 (hparts p hpm).2.2.1)
      | some p0 =>
        rw [hp0] at g6
        obtain ⟨k1, k2⟩ := h.hit key p0 g6
        simp only [findF, hpage j p M g1, isP_page (hparts p hpm).1 (hparts p hpm).2.1, pageL_kind (hparts p hpm).1, ents_page (hparts p hpm).1 (hparts p hpm).2.1, if_true, hp0]
        rw [if_neg (by omega), if_neg (by omega), happ, k2 _ f (r + 1) (by simp only at hfu; omega), Nat.add_assoc, Nat.add_comm 1 d]
  · intro key hq
    have hq : lastLe (aboveL s.1.length (partsL 12 s.2)) key = none := hq
    rcases pick_part key s.1.length (partsL 12 s.2) (fun p hp => (hparts p hp).2.2.2) with ⟨g1, g2, g3⟩ | ⟨j, p, g1, g2, g3, g4, g5⟩
    · rw [hflat] at g3
      refine ⟨(h.miss key g3).1, fun x hx => ?_⟩
      obtain ⟨j, p, hj, rfl⟩ := aboveL_mem (show x ∈ aboveL s.1.length (partsL 12 s.2) from hx)
      have hjl := (List.getElem?_eq_some_iff.1 hj).1
      have hpm := List.mem_of_getElem? hj
      refine ⟨by show s.1.length + j < (levelL 2 s.1 (partsL 12 s.2)).1.length; rw [e1]; omega, fun M f r hfu => ?_⟩
      obtain ⟨f, rfl⟩ : ∃ g, f = g + 1 := ⟨f - 1, by simp only at hfu; omega⟩
      have hn : lastLe p key = none := lastLe_none.2 fun x hx => Nat.lt_of_lt_of_le (g2 p hpm) ((hparts p hpm).2.2.2 x hx)
      simp only [findF, hpage j p M hj, isP_page (hparts p hpm).1 (hparts p hpm).2.1, pageL_kind (hparts p hpm).1, ents_page (hparts p hpm).1 (hparts p hpm).2.1, if_true, hn]
      rw [if_neg (by omega)]
    · rw [g3] at hq; cases hq

def levN (n : Nat) : Nat := if n ≤ 7 then 1 else if n ≤ 84 then 2 else 3

theorem look_fin (l : List (Nat × Nat)) (hl : l.Pairwise (fun a b => a.1 < b.1)) (hf : Fits 1 l) (h6 : l.length ≤ 600) : ∃ s d, Look l s d ∧ buildL l = s.1 ∧ s.2.length = 1 ∧ d + 1 = levN l.length := by
  have k0 := look_start l hl hf (by omega)
  have e0 : (startL l).2.length = max 1 ((l.length + 6) / 7) := by
    unfold startL
    rw [(levelL_len 1 [] (partsL 7 l)).2, partsL_length 7 l (by omega)]
  unfold buildL levN
  by_cases a1 : l.length ≤ 7
  · have hle : (startL l).2.length = 1 := by rw [e0]; omega
    exact ⟨_, 0, k0, finL_done _ (by omega), hle, by rw [if_pos a1]⟩
  · have hgt : 1 < (startL l).2.length := by rw [e0]; omega
    have k1 := look_step k0 hgt
    have e1 := (stepL_len (startL l) hgt).1
    rw [if_neg a1, finL_step _ hgt]
    by_cases a2 : l.length ≤ 84
    · have hle : (stepL (startL l)).2.length = 1 := by rw [e1, e0]; omega
      exact ⟨_, 1, k1, finL_done _ (by omega), hle, by rw [if_pos a2]⟩
    · have hgt2 : 1 < (stepL (startL l)).2.length := by rw [e1, e0]; omega
      have k2 := look_step k1 hgt2
      have e2 := (stepL_len _ hgt2).1
      have hle : (stepL (stepL (startL l))).2.length = 1 := by rw [e2, e1, e0]; omega
      exact ⟨_, 2, k2, by rw [finL_step _ hgt2, finL_done _ (by omega)], hle, by rw [if_neg a2]⟩

/-- each key is found by one page a level, and no other key is -/
theorem find_built (l : List (Nat × Nat)) (hl : l.Pairwise (fun a b => a.1 < b.1)) (hf : Fits 1 l) (h6 : l.length ≤ 600) (key : Nat) :
    (∃ v, valAt l key = some v ∧ findTop (buildL l) key = (v, levN l.length, 0)) ∨ (valAt l key = none ∧ ∃ n, 1 ≤ n ∧ n ≤ levN l.length ∧ findTop (buildL l) key = (0, n, 6)) := by
  obtain ⟨s, d, hs, hb, h1, hd⟩ := look_fin l hl hf h6
  obtain ⟨x, hx⟩ : ∃ x, s.2 = [x] := by
    match hh : s.2, h1 with
    | [x], _ => exact ⟨x, rfl⟩
  have hlast := hs.last x hx
  rw [hb]
  unfold findTop
  have hat : s.1.length - 1 = x.2 := by omega
  cases hk : lastLe s.2 key with
  | some p =>
    have hp : p = x := by
      have := (lastLe_mem hk).1
      rw [hx] at this
      simpa using this
    subst hp
    have h2 := (hs.hit key p hk).2 [] s.1.length 1 (by omega)
    rw [List.append_nil, Nat.add_comm 1 d, hd] at h2
    rw [hat, h2]
    cases hv : valAt l key with
    | some v => exact .inl ⟨v, rfl, rfl⟩
    | none => exact .inr ⟨rfl, _, by omega, Nat.le_refl _, rfl⟩
  | none =>
    obtain ⟨h2, h3⟩ := hs.miss key hk
    have h4 := (h3 x (by rw [hx]; exact List.mem_cons_self)).2 [] s.1.length 1 (by omega)
    rw [List.append_nil] at h4
    rw [hat, h4]
    exact .inr ⟨h2, 1, Nat.le_refl _, by omega, rfl⟩

theorem built_pages (l : List (Nat × Nat)) (hl : l.Pairwise (fun a b => a.1 < b.1)) (hf : Fits 1 l) (h6 : l.length ≤ 600) :
    (∀ b ∈ buildL l, isP b = true) ∧ (buildL l).flatMap leafEnts = l ∧ 1 ≤ (buildL l).length := by
  obtain ⟨s, d, hs, hb, h1, hd⟩ := look_fin l hl hf h6
  rw [hb]
  refine ⟨hs.page, hs.flat, ?_⟩
  obtain ⟨x, hx⟩ : ∃ x, s.2 = [x] := by
    match hh : s.2, h1 with
    | [x], _ => exact ⟨x, rfl⟩
  have := hs.last x hx
  omega

/-! ### all of them -/
def allR (P : List (List UInt8)) : Option (List (Nat × Nat)) :=
  if P.all isP = true ∧ mayL (P.flatMap leafEnts) = true ∧ buildL (P.flatMap leafEnts) = P then some (P.flatMap leafEnts) else none
theorem allR_build (l : List (Nat × Nat)) (hm : mayL l = true) (hf : Fits 1 l) : allR (buildL l) = some l := by
  obtain ⟨h1, h2⟩ := mayL_asc hm
  obtain ⟨g1, g2, g3⟩ := built_pages l h1 hf h2
  unfold allR
  rw [g2, if_pos ⟨List.all_eq_true.2 g1, hm, rfl⟩]

end Go.Proofs.Ytflboggjbjfkjaa
