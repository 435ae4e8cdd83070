/-
  Heaps as lists (container/heap): up, down, what they keep, and that the root is the least. No code is named here.
-/
import Derived.Test.YtklfoafbgniogaaOctMath
namespace Go.Proofs.Ytklfoafbgniogaa
set_option linter.unusedVariables false

section
variable {α : Type} [Inhabited α] (le : α → α → Prop)
/-- two places change -/
def swapL (l : List α) (i j : Nat) : List α := (l.set i (l.getD j default)).set j (l.getD i default)
theorem swapL_len (l : List α) (i j : Nat) : (swapL l i j).length = l.length := by simp [swapL]
theorem swapL_at (l : List α) (i j k : Nat) (hi : i < l.length) (hj : j < l.length) : (swapL l i j).getD k default = if k = j then l.getD i default else if k = i then l.getD j default else l.getD k default := by
  unfold swapL
  by_cases h1 : k = j
  · subst h1
    rw [if_pos rfl, List.getD, List.getElem?_set_self (by rw [List.length_set]; exact hj)]; rfl
  · rw [if_neg h1, List.getD, List.getElem?_set_ne (fun h => h1 h.symm)]
    by_cases h2 : k = i
    · subst h2
      rw [if_pos rfl, List.getElem?_set_self hi]; rfl
    · rw [if_neg h2, List.getElem?_set_ne (fun h => h2 h.symm)]; rfl
theorem swapL_perm (l : List α) (i j : Nat) (hi : i < l.length) (hj : j < l.length) : (swapL l i j).Perm l := by
  unfold swapL
  rw [List.getD, List.getD, List.getElem?_eq_getElem hi, List.getElem?_eq_getElem hj]
  exact List.set_set_perm hi hj
variable [∀ a b, Decidable (le a b)]
/-- is a less than b? -/
def lessB (a b : α) : Bool := decide (¬ le b a)
/-- the child that is asked -/
def childL (l : List α) (i n : Nat) : Nat := if 2 * i + 2 < n ∧ lessB le (l.getD (2 * i + 2) default) (l.getD (2 * i + 1) default) = true then 2 * i + 2 else 2 * i + 1
/-- down from i, among the first n -/
def downL : Nat → List α → Nat → Nat → List α
  | 0, l, _, _ => l
  | f + 1, l, i, n => if n ≤ 2 * i + 1 then l else if lessB le (l.getD (childL le l i n) default) (l.getD i default) = false then l else downL f (swapL l i (childL le l i n)) (childL le l i n) n
/-- up from j -/
def upL : Nat → List α → Nat → List α
  | 0, l, _ => l
  | f + 1, l, j => if j = 0 ∨ lessB le (l.getD j default) (l.getD ((j - 1) / 2) default) = false then l else upL f (swapL l ((j - 1) / 2) j) ((j - 1) / 2)

theorem childL_lt (l : List α) (i n : Nat) (h : ¬ n ≤ 2 * i + 1) : childL le l i n < n ∧ (childL le l i n - 1) / 2 = i ∧ i < childL le l i n := by
  unfold childL
  split
  · rename_i h2; omega
  · omega
theorem downL_perm : ∀ (f : Nat) (l : List α) (i n : Nat), n ≤ l.length → (downL le f l i n).Perm l
  | 0, l, i, n, h => by unfold downL; exact List.Perm.refl _
  | f + 1, l, i, n, h => by
    unfold downL
    split
    · exact List.Perm.refl _
    · rename_i h1
      split
      · exact List.Perm.refl _
      · obtain ⟨h2, h3, h4⟩ := childL_lt le l i n h1
        exact (downL_perm f _ _ n (by rw [swapL_len]; exact h)).trans (swapL_perm l i _ (by omega) (by omega))
theorem downL_len (f : Nat) (l : List α) (i n : Nat) (h : n ≤ l.length) : (downL le f l i n).length = l.length := (downL_perm le f l i n h).length_eq
/-- what lies behind the first n stays -/
theorem downL_behind : ∀ (f : Nat) (l : List α) (i n k : Nat), n ≤ l.length → i < n → n ≤ k → (downL le f l i n).getD k default = l.getD k default
  | 0, l, i, n, k, h, hi, hk => by unfold downL; rfl
  | f + 1, l, i, n, k, h, hi, hk => by
    unfold downL
    split
    · rfl
    · rename_i h1
      split
      · rfl
      · obtain ⟨h2, h3, h4⟩ := childL_lt le l i n h1
        rw [downL_behind f _ _ n k (by rw [swapL_len]; exact h) h2 hk, swapL_at l i _ k (by omega) (by omega), if_neg (by omega), if_neg (by omega)]
theorem upL_perm : ∀ (f : Nat) (l : List α) (j : Nat), j < l.length → (upL le f l j).Perm l
  | 0, l, j, h => by unfold upL; exact List.Perm.refl _
  | f + 1, l, j, h => by
    unfold upL
    split
    · exact List.Perm.refl _
    · exact (upL_perm f _ _ (by rw [swapL_len]; omega)).trans (swapL_perm l _ j (by omega) h)

/-- a heap, from place s on -/
def HpS (l : List α) (n s : Nat) : Prop := ∀ j, 0 < j → j < n → s ≤ (j - 1) / 2 → le (l.getD ((j - 1) / 2) default) (l.getD j default)
variable (hrefl : ∀ a, le a a) (htrans : ∀ a b c, le a b → le b c → le a c) (htotal : ∀ a b, le a b ∨ le b a)
include hrefl htrans htotal
omit hrefl in
theorem downL_heap (s : Nat) : ∀ (f : Nat) (l : List α) (i n : Nat), n ≤ l.length → n ≤ i + f → i < n → s ≤ i →
    (∀ j, 0 < j → j < n → s ≤ (j - 1) / 2 → (j - 1) / 2 ≠ i → le (l.getD ((j - 1) / 2) default) (l.getD j default)) →
    (∀ j, 0 < j → j < n → (j - 1) / 2 = i → 0 < i → s ≤ (i - 1) / 2 → le (l.getD ((i - 1) / 2) default) (l.getD j default)) → HpS le (downL le f l i n) n s
  | 0, l, i, n, hn, hf, hi, hs, h1, h2 => by omega
  | f + 1, l, i, n, hn, hf, hi, hs, h1, h2 => by
    unfold downL
    by_cases hc : n ≤ 2 * i + 1
    · rw [if_pos hc]
      intro j h3 h4 h5
      exact h1 j h3 h4 h5 (by omega)
    · rw [if_neg hc]
      obtain ⟨c1, c2, c3⟩ := childL_lt le l i n hc
      -- the child asked is not above the other one
      have hmin : ∀ j, 0 < j → j < n → (j - 1) / 2 = i → le (l.getD (childL le l i n) default) (l.getD j default) := by
        intro j h3 h4 h5
        have hj : j = 2 * i + 1 ∨ j = 2 * i + 2 := by omega
        unfold childL
        by_cases hb : 2 * i + 2 < n ∧ lessB le (l.getD (2 * i + 2) default) (l.getD (2 * i + 1) default) = true
        · rw [if_pos hb]
          have hnle : ¬ le (l.getD (2 * i + 1) default) (l.getD (2 * i + 2) default) := by simpa [lessB] using hb.2
          have hr : ∀ a : α, le a a := fun a => (htotal a a).elim id id
          rcases hj with rfl | rfl
          · exact (htotal _ _).resolve_left hnle
          · exact hr _
        · rw [if_neg hb]
          have hr : ∀ a : α, le a a := fun a => (htotal a a).elim id id
          rcases hj with rfl | rfl
          · exact hr _
          · by_cases h6 : 2 * i + 2 < n
            · have : ¬ lessB le (l.getD (2 * i + 2) default) (l.getD (2 * i + 1) default) = true := fun h => hb ⟨h6, h⟩
              simpa [lessB] using this
            · omega
      generalize childL le l i n = c at *
      by_cases hl : lessB le (l.getD c default) (l.getD i default) = false
      · rw [if_pos hl]
        have hle : le (l.getD i default) (l.getD c default) := by simpa [lessB] using hl
        intro j h3 h4 h5
        by_cases hp : (j - 1) / 2 = i
        · rw [hp]; exact htrans _ _ _ hle (hmin j h3 h4 hp)
        · exact h1 j h3 h4 h5 hp
      · rw [if_neg hl]
        have hlt : ¬ le (l.getD i default) (l.getD c default) := by simpa [lessB] using hl
        have hci : le (l.getD c default) (l.getD i default) := (htotal _ _).resolve_left hlt
        refine downL_heap s f (swapL l i c) c n (by rw [swapL_len]; exact hn) (by omega) c1 (by omega) (fun j h3 h4 h5 h6 => ?_) (fun j h3 h4 h5 h6 h7 => ?_)
        · rw [swapL_at l i c _ (by omega) (by omega), swapL_at l i c _ (by omega) (by omega), if_neg h6]
          by_cases hp : (j - 1) / 2 = i
          · rw [if_pos hp]
            by_cases hjc : j = c
            · rw [if_pos hjc]; exact hci
            · rw [if_neg hjc, if_neg (by omega)]; exact hmin j h3 h4 hp
          · rw [if_neg hp]
            by_cases hjc : j = c
            · rw [hjc] at hp; exact absurd c2 hp
            · rw [if_neg hjc]
              by_cases hji : j = i
              · rw [if_pos hji]
                subst hji
                exact h2 c (by omega) c1 c2 h3 h5
              · rw [if_neg hji]; exact h1 j h3 h4 h5 hp
        · rw [c2, swapL_at l i c _ (by omega) (by omega), swapL_at l i c _ (by omega) (by omega), if_neg (by omega), if_pos rfl, if_neg (by omega), if_neg (by omega)]
          have := h1 j h3 h4 (by rw [h5]; omega) (by rw [h5]; omega)
          rwa [h5] at this
omit hrefl in
theorem upL_heap : ∀ (f : Nat) (l : List α) (j n : Nat), n ≤ l.length → j < n → j < f →
    (∀ k, 0 < k → k < n → k ≠ j → le (l.getD ((k - 1) / 2) default) (l.getD k default)) →
    (∀ k, 0 < k → k < n → (k - 1) / 2 = j → 0 < j → le (l.getD ((j - 1) / 2) default) (l.getD k default)) → HpS le (upL le f l j) n 0
  | 0, l, j, n, hn, hj, hf, h1, h2 => by omega
  | f + 1, l, j, n, hn, hj, hf, h1, h2 => by
    unfold upL
    have hr : ∀ a : α, le a a := fun a => (htotal a a).elim id id
    by_cases hc : j = 0 ∨ lessB le (l.getD j default) (l.getD ((j - 1) / 2) default) = false
    · rw [if_pos hc]
      intro k h3 h4 _
      by_cases hk : k = j
      · subst hk
        rcases hc with hc | hc
        · omega
        · simpa [lessB] using hc
      · exact h1 k h3 h4 hk
    · rw [if_neg hc]
      have hj0 : 0 < j := by omega
      have hlt : ¬ le (l.getD ((j - 1) / 2) default) (l.getD j default) := by
        have : ¬ lessB le (l.getD j default) (l.getD ((j - 1) / 2) default) = false := fun h => hc (.inr h)
        simpa [lessB] using this
      have hji : le (l.getD j default) (l.getD ((j - 1) / 2) default) := (htotal _ _).resolve_left hlt
      obtain ⟨p, hp⟩ : ∃ p, p = (j - 1) / 2 := ⟨_, rfl⟩
      rw [← hp] at hji hlt ⊢
      refine upL_heap f (swapL l p j) p n (by rw [swapL_len]; exact hn) (by omega) (by omega) (fun k h3 h4 h5 => ?_) (fun k h3 h4 h5 h6 => ?_)
      · rw [swapL_at l p j _ (by omega) (by omega), swapL_at l p j _ (by omega) (by omega)]
        by_cases hkj : k = j
        · subst hkj
          rw [if_pos rfl, if_neg (by omega), if_pos (by omega)]
          exact hji
        · rw [if_neg hkj, if_neg h5]
          by_cases h6 : (k - 1) / 2 = j
          · rw [if_pos h6]
            have := h2 k h3 h4 h6 hj0
            rwa [← hp] at this
          · rw [if_neg h6]
            by_cases h7 : (k - 1) / 2 = p
            · rw [if_pos h7]
              have := h1 k h3 h4 hkj
              rw [h7] at this
              exact htrans _ _ _ hji this
            · rw [if_neg h7]; exact h1 k h3 h4 hkj
      · rw [swapL_at l p j _ (by omega) (by omega), swapL_at l p j _ (by omega) (by omega), if_neg (by omega), if_neg (by omega)]
        by_cases hkj : k = j
        · rw [if_pos hkj]; exact h1 p h6 (by omega) (by omega)
        · rw [if_neg hkj, if_neg (by omega)]
          have e1 := h1 k h3 h4 hkj
          rw [h5] at e1
          exact htrans _ _ _ (h1 p h6 (by omega) (by omega)) e1
omit [∀ a b, Decidable (le a b)] htotal in
/-- the root is the least -/
theorem heap_least (l : List α) (n : Nat) (h : HpS le l n 0) : ∀ j, j < n → le (l.getD 0 default) (l.getD j default) := by
  intro j
  induction j using Nat.strongRecOn with
  | _ j ih =>
    intro hj
    rcases Nat.eq_zero_or_pos j with h0 | h0
    · subst h0; exact hrefl _
    · exact htrans _ _ _ (ih ((j - 1) / 2) (by omega) (by omega)) (h j h0 hj (Nat.zero_le _))
/-- Init, from place i on: all that are above it have been done -/
def initL (le : α → α → Prop) [∀ a b, Decidable (le a b)] : Nat → List α → List α
  | 0, l => l
  | i + 1, l => initL le i (downL le l.length l i l.length)
omit htotal hrefl htrans in
theorem initL_perm : ∀ (i : Nat) (l : List α), (initL le i l).Perm l
  | 0, l => List.Perm.refl _
  | i + 1, l => by
    unfold initL
    exact (initL_perm i _).trans (downL_perm le _ l i _ (Nat.le_refl _))
omit hrefl in
theorem initL_heap : ∀ (i : Nat) (l : List α), i ≤ l.length → HpS le l l.length i → HpS le (initL le i l) l.length 0
  | 0, l, _, h => h
  | i + 1, l, hi, h => by
    unfold initL
    have hd := downL_heap le htrans htotal i l.length l i l.length (Nat.le_refl _) (by omega) (by omega) (Nat.le_refl _) (fun j h1 h2 h3 h4 => h j h1 h2 (by omega)) (fun j h1 h2 h3 h4 h5 => by omega)
    have hl := downL_len le l.length l i l.length (Nat.le_refl _)
    have := initL_heap i (downL le l.length l i l.length) (by rw [hl]; omega) (by rw [hl]; exact hd)
    rwa [hl] at this
omit htrans htotal hrefl in
/-- a heap from the middle on is nothing to ask -/
theorem heap_half (l : List α) (n s : Nat) (h : n ≤ 2 * s + 1) : HpS le l n s := fun j h1 h2 h3 => by omega
/-- Pop: the first and the last change, the rest is a heap again, the last is the least -/
def popL (le : α → α → Prop) [∀ a b, Decidable (le a b)] (l : List α) : List α := downL le l.length (swapL l 0 (l.length - 1)) 0 (l.length - 1)
theorem popL_spec (l : List α) (h0 : 0 < l.length) (h : HpS le l l.length 0) :
    (popL le l).Perm l ∧ (popL le l).length = l.length ∧ (popL le l).getD (l.length - 1) default = l.getD 0 default ∧ HpS le (popL le l) (l.length - 1) 0 ∧ ∀ j, j < l.length → le (l.getD 0 default) (l.getD j default) := by
  have hsl : (swapL l 0 (l.length - 1)).length = l.length := swapL_len _ _ _
  have hp : (popL le l).Perm l := (downL_perm le _ _ _ _ (by rw [hsl]; omega)).trans (swapL_perm l 0 _ (by omega) (by omega))
  refine ⟨hp, hp.length_eq, ?_, ?_, heap_least le hrefl htrans l l.length h⟩
  · unfold popL
    rcases Nat.lt_or_ge 0 (l.length - 1) with h1 | h1
    · rw [downL_behind le _ _ 0 (l.length - 1) _ (by rw [hsl]; omega) h1 (Nat.le_refl _), swapL_at l 0 _ _ (by omega) (by omega), if_pos rfl]
    · have hl1 : l.length = 1 := by omega
      rw [hl1]
      unfold downL
      rw [if_pos (by omega), swapL_at l 0 _ _ (by omega) (by omega)]
      simp
  · rcases Nat.lt_or_ge 0 (l.length - 1) with h1 | h1
    · refine downL_heap le htrans htotal 0 l.length (swapL l 0 (l.length - 1)) 0 (l.length - 1) (by rw [hsl]; omega) (by omega) h1 (Nat.le_refl _) (fun j h2 h3 _ h4 => ?_) (fun j _ _ _ h4 => by omega)
      rw [swapL_at l 0 _ _ (by omega) (by omega), swapL_at l 0 _ _ (by omega) (by omega), if_neg (by omega), if_neg (by omega), if_neg (by omega), if_neg (by omega)]
      exact h j h2 (by omega) (Nat.zero_le _)
    · intro j h2 h3; omega
/-- Push: laid behind, then up -/
def pushL (le : α → α → Prop) [∀ a b, Decidable (le a b)] (l : List α) (x : α) : List α := upL le (l.length + 1) (l ++ [x]) l.length
omit hrefl in
theorem pushL_spec (l : List α) (x : α) (h : HpS le l l.length 0) : (pushL le l x).Perm (l ++ [x]) ∧ HpS le (pushL le l x) (l.length + 1) 0 := by
  refine ⟨upL_perm le _ _ _ (by simp), ?_⟩
  refine upL_heap le htrans htotal (l.length + 1) (l ++ [x]) l.length (l.length + 1) (by simp) (by omega) (by omega) (fun k h1 h2 h3 => ?_) (fun k h1 h2 h3 h4 => by omega)
  have e : ∀ q, q < l.length → (l ++ [x]).getD q default = l.getD q default := fun q hq => by rw [List.getD, List.getElem?_append_left hq]; rfl
  rw [e _ (by omega), e _ (by omega)]
  exact h k h1 (by omega) (Nat.zero_le _)
end
end Go.Proofs.Ytklfoafbgniogaa
