/-
  Canonical codes by their lengths: the order of the symbols, the first code of each length, what codes come to, what is taken.
-/
import Derived.Test.YtklfoafbgniogaaBtMath
namespace Go.Proofs.Ytklfoafbgniogaa

/-- the symbols of one length, rising -/
def symsN (ls : List Nat) (n : Nat) : List Nat := (List.range ls.length).filter fun i => ls.getD i 0 == n
/-- how many symbols have codes of n bits -/
def cntN (ls : List Nat) (n : Nat) : Nat := if n = 0 then 0 else ls.count n
/-- the first code of each length -/
def firstN (ls : List Nat) : Nat → Nat
  | 0 => 0
  | n + 1 => 2 * (firstN ls n + cntN ls n)
/-- how many symbols ahead have codes as long -/
def rankN (ls : List Nat) (i : Nat) : Nat := ((List.range i).filter fun j => ls.getD j 0 == ls.getD i 0).length
/-- the code of a symbol (0: it has none) -/
def codeN (ls : List Nat) (i : Nat) : Nat := if ls.getD i 0 = 0 then 0 else firstN ls (ls.getD i 0) + rankN ls i
/-- the symbols that have codes of at most n bits, in order -/
def orderTo (ls : List Nat) (n : Nat) : List Nat := (List.range n).flatMap fun k => symsN ls (k + 1)
def orderN (ls : List Nat) : List Nat := orderTo ls 15
def codesN (ls : List Nat) : List (Nat × Nat) := (List.range ls.length).map fun i => (codeN ls i, ls.getD i 0)
/-- of 2^15 -/
def kraft (ls : List Nat) : Nat := (ls.map fun n => if n = 0 then 0 else 2 ^ (15 - n)).sum
/-- of 2^n, of the codes of at most n bits -/
def kraftTo (ls : List Nat) (n : Nat) : Nat := (ls.map fun x => if x = 0 ∨ n < x then 0 else 2 ^ (n - x)).sum

/-! ### lists of indices -/
theorem filter_rank (p : Nat → Bool) (N i : Nat) (hi : i < N) (hp : p i = true) : ((List.range N).filter p)[((List.range i).filter p).length]? = some i := by
  obtain ⟨d, rfl⟩ : ∃ d, N = i + 1 + d := ⟨N - (i + 1), by omega⟩
  rw [List.range_add, List.filter_append, List.range_succ, List.filter_append]
  simp [hp]
theorem filter_at (p : Nat → Bool) (N k : Nat) (hk : k < ((List.range N).filter p).length) :
    ∃ i, ((List.range N).filter p)[k]? = some i ∧ i < N ∧ p i = true ∧ ((List.range i).filter p).length = k := by
  have hm := List.getElem_mem hk
  obtain ⟨h1, h2⟩ := List.mem_filter.1 hm
  have h1 := List.mem_range.1 h1
  refine ⟨_, List.getElem?_eq_getElem hk, h1, h2, ?_⟩
  have hr := filter_rank p N _ h1 h2
  have hnd : ((List.range N).filter p).Nodup := List.Pairwise.filter _ List.nodup_range
  have hlt := (List.getElem?_eq_some_iff.1 hr).1
  have he := (List.getElem?_eq_some_iff.1 hr).2
  exact (List.getElem_inj (h₀ := hlt) (h₁ := hk) hnd).1 he
theorem symsN_count (ls : List Nat) (n : Nat) : (symsN ls n).length = ls.count n := by
  have h : ls = (List.range ls.length).map fun i => ls.getD i 0 := by
    apply List.ext_getElem (by simp)
    intro i h1 h2
    simp [List.getD, List.getElem?_eq_getElem h1]
  conv => rhs; rw [h]
  unfold symsN
  rw [List.count, List.countP_map, List.countP_eq_length_filter]
  rfl
theorem symsN_cnt (ls : List Nat) (n : Nat) (hn : n ≠ 0) : (symsN ls n).length = cntN ls n := by rw [symsN_count]; unfold cntN; rw [if_neg hn]
theorem symsN_rank (ls : List Nat) (i : Nat) (hi : i < ls.length) : (symsN ls (ls.getD i 0))[rankN ls i]? = some i :=
  filter_rank (fun j => ls.getD j 0 == ls.getD i 0) ls.length i hi (by simp)
theorem symsN_at (ls : List Nat) (n k : Nat) (hk : k < (symsN ls n).length) : ∃ i, (symsN ls n)[k]? = some i ∧ i < ls.length ∧ ls.getD i 0 = n ∧ rankN ls i = k := by
  obtain ⟨i, h1, h2, h3, h4⟩ := filter_at (fun i => ls.getD i 0 == n) ls.length k hk
  have h3 : ls.getD i 0 = n := by simpa using h3
  refine ⟨i, h1, h2, h3, ?_⟩
  unfold rankN
  rw [h3]
  exact h4
theorem rankN_lt (ls : List Nat) (i : Nat) (hi : i < ls.length) (h0 : ls.getD i 0 ≠ 0) : rankN ls i < cntN ls (ls.getD i 0) := by
  rw [← symsN_cnt ls _ h0]
  exact (List.getElem?_eq_some_iff.1 (symsN_rank ls i hi)).1

/-! ### a code is told by its length and its number -/
theorem codeN_at (ls : List Nat) (i : Nat) (h0 : ls.getD i 0 ≠ 0) : codeN ls i = firstN ls (ls.getD i 0) + rankN ls i := by unfold codeN; rw [if_neg h0]
/-- the symbol of a code, if there is one -/
def symOf (ls : List Nat) (n v : Nat) : Option Nat := if v < firstN ls n then none else (symsN ls n)[v - firstN ls n]?
theorem symOf_iff (ls : List Nat) (n v i : Nat) (hn : n ≠ 0) : symOf ls n v = some i ↔ (i < ls.length ∧ ls.getD i 0 = n ∧ codeN ls i = v) := by
  unfold symOf
  constructor
  · intro h
    split at h
    · cases h
    · rename_i hv
      have hk := (List.getElem?_eq_some_iff.1 h).1
      obtain ⟨j, h1, h2, h3, h4⟩ := symsN_at ls n _ hk
      rw [h] at h1
      injection h1 with h1
      subst h1
      refine ⟨h2, h3, ?_⟩
      rw [codeN_at ls i (by rw [h3]; exact hn), h3, h4]; omega
  · rintro ⟨h1, h2, h3⟩
    have h0 : ls.getD i 0 ≠ 0 := by rw [h2]; exact hn
    rw [codeN_at ls i h0, h2] at h3
    rw [if_neg (by omega), ← h3, Nat.add_sub_cancel_left, ← h2]
    exact symsN_rank ls i h1
theorem symOf_some (ls : List Nat) (n v : Nat) (hn : n ≠ 0) : (symOf ls n v).isSome = true ↔ (firstN ls n ≤ v ∧ v < firstN ls n + cntN ls n) := by
  unfold symOf
  rw [← symsN_cnt ls n hn]
  split
  · simp; omega
  · simp
    omega
/-- two symbols do not have one code -/
theorem code_inj (ls : List Nat) (i j : Nat) (hi : i < ls.length) (hj : j < ls.length) (h0 : ls.getD i 0 ≠ 0) (hl : ls.getD i 0 = ls.getD j 0) (hc : codeN ls i = codeN ls j) : i = j := by
  have h1 := (symOf_iff ls (ls.getD i 0) (codeN ls i) i h0).2 ⟨hi, rfl, rfl⟩
  have h2 := (symOf_iff ls (ls.getD i 0) (codeN ls i) j h0).2 ⟨hj, hl.symm, hc.symm⟩
  rw [h1] at h2
  exact Option.some.inj h2

/-! ### not too many -/
theorem sum_split (ls : List Nat) (f g h : Nat → Nat) (he : ∀ x, f x = 2 * g x + h x) : (ls.map f).sum = 2 * (ls.map g).sum + (ls.map h).sum := by
  induction ls with
  | nil => rfl
  | cons x l ih => simp only [List.map_cons, List.sum_cons, he x, ih]; omega
theorem count_sum (ls : List Nat) (n : Nat) : (ls.map fun x => if x = n then 1 else 0).sum = ls.count n := by
  induction ls with
  | nil => rfl
  | cons x l ih =>
    rw [List.map_cons, List.sum_cons, ih, List.count_cons]
    by_cases h : x = n
    · subst h; simp; omega
    · simp [h]
theorem kraftTo_succ (ls : List Nat) (n : Nat) : kraftTo ls (n + 1) = 2 * kraftTo ls n + cntN ls (n + 1) := by
  unfold kraftTo cntN
  rw [if_neg (by omega), ← count_sum]
  refine sum_split ls _ _ _ fun x => ?_
  by_cases h0 : x = 0
  · subst h0; simp
  · by_cases h1 : x ≤ n
    · rw [if_neg (by omega), if_neg (by omega), if_neg (by omega), show n + 1 - x = (n - x) + 1 by omega, Nat.pow_succ]; omega
    · by_cases h2 : x = n + 1
      · subst h2
        rw [if_neg (by omega), if_pos (by omega), if_pos rfl]; simp
      · rw [if_pos (by omega), if_pos (by omega), if_neg h2]
theorem kraftTo_zero (ls : List Nat) : kraftTo ls 0 = 0 := by
  unfold kraftTo
  induction ls with
  | nil => rfl
  | cons x l ih =>
    rw [List.map_cons, List.sum_cons, ih]
    split
    · rfl
    · omega
theorem first_kraft (ls : List Nat) : ∀ n, firstN ls n + cntN ls n = kraftTo ls n
  | 0 => by rw [kraftTo_zero]; rfl
  | n + 1 => by rw [kraftTo_succ, firstN, first_kraft ls n]
theorem sum_le (ls : List Nat) (f g : Nat → Nat) (c : Nat) (h : ∀ x, f x * c ≤ g x) : (ls.map f).sum * c ≤ (ls.map g).sum := by
  induction ls with
  | nil => simp
  | cons x l ih => simp only [List.map_cons, List.sum_cons, Nat.add_mul]; have := h x; omega
theorem kraftTo_le (ls : List Nat) (n : Nat) (hn : n ≤ 15) : kraftTo ls n * 2 ^ (15 - n) ≤ kraft ls := by
  unfold kraftTo kraft
  refine sum_le ls _ _ _ fun x => ?_
  by_cases h0 : x = 0
  · simp [h0]
  · by_cases h1 : n < x
    · rw [if_pos (.inr h1)]; simp
    · rw [if_neg (by omega), if_neg h0, ← Nat.pow_add, show n - x + (15 - n) = 15 - x by omega]
      exact Nat.le_refl _
/-- codes fit into their lengths -/
theorem first_le (ls : List Nat) (hk : kraft ls ≤ 32768) (n : Nat) (hn : n ≤ 15) : firstN ls n + cntN ls n ≤ 2 ^ n := by
  rw [first_kraft]
  have h1 := kraftTo_le ls n hn
  have h2 : kraftTo ls n * 2 ^ (15 - n) ≤ 2 ^ n * 2 ^ (15 - n) := by
    rw [← Nat.pow_add, show n + (15 - n) = 15 by omega]
    exact Nat.le_trans h1 hk
  exact Nat.le_of_mul_le_mul_right h2 (Nat.pow_pos (by omega))
theorem codeN_lt (ls : List Nat) (hk : kraft ls ≤ 32768) (i : Nat) (hi : i < ls.length) (h15 : ls.getD i 0 ≤ 15) (h0 : ls.getD i 0 ≠ 0) : codeN ls i < 2 ^ ls.getD i 0 := by
  rw [codeN_at ls i h0]
  have := rankN_lt ls i hi h0
  have := first_le ls hk _ h15
  omega

/-! ### codes one behind the other -/
/-- behind k symbols of the order: the last code, and its length -/
def foldC (ls : List Nat) : Nat → Nat × Nat
  | 0 => (0, 0)
  | k + 1 => ((if k = 0 then 0 else (foldC ls k).1 + 1) * 2 ^ (ls.getD ((orderN ls).getD k 0) 0 - (foldC ls k).2), ls.getD ((orderN ls).getD k 0) 0)
theorem orderTo_succ (ls : List Nat) (n : Nat) : orderTo ls (n + 1) = orderTo ls n ++ symsN ls (n + 1) := by unfold orderTo; rw [List.range_succ, List.flatMap_append]; simp
theorem orderTo_prefix (ls : List Nat) (n : Nat) : ∀ d, ∃ R, orderTo ls (n + d) = orderTo ls n ++ R
  | 0 => ⟨[], by simp⟩
  | d + 1 => by
    obtain ⟨R, hR⟩ := orderTo_prefix ls n d
    exact ⟨R ++ symsN ls (n + d + 1), by rw [show n + (d + 1) = (n + d) + 1 by omega, orderTo_succ, hR, List.append_assoc]⟩
/-- the next code, of n bits -/
def nxtC (ls : List Nat) (k n : Nat) : Nat := if k = 0 then 0 else ((foldC ls k).1 + 1) * 2 ^ (n - (foldC ls k).2)
theorem foldC_succ (ls : List Nat) (k : Nat) : foldC ls (k + 1) = (nxtC ls k (ls.getD ((orderN ls).getD k 0) 0), ls.getD ((orderN ls).getD k 0) 0) := by
  rw [foldC]; unfold nxtC
  split
  · rename_i h; simp
  · rfl
/-- the symbols of length n + 1, one behind the other -/
theorem foldC_row (ls : List Nat) (n : Nat) (hn : n + 1 ≤ 15) (K : Nat) (hK : K = (orderTo ls n).length) (hw : (foldC ls K).2 ≤ n) (hx : nxtC ls K n = firstN ls n + cntN ls n) :
    ∀ j, j ≤ (symsN ls (n + 1)).length → (0 < j → foldC ls (K + j) = (firstN ls (n + 1) + (j - 1), n + 1)) ∧ nxtC ls (K + j) (n + 1) = firstN ls (n + 1) + j := by
  have hsym : ∀ j, j < (symsN ls (n + 1)).length → (orderN ls).getD (K + j) 0 = (symsN ls (n + 1)).getD j 0 := by
    intro j hj
    obtain ⟨R, hR⟩ := orderTo_prefix ls (n + 1) (14 - n)
    rw [show n + 1 + (14 - n) = 15 by omega] at hR
    unfold orderN
    rw [hR, orderTo_succ, List.getD, List.getElem?_append_left (by simp; omega), List.getElem?_append_right (by omega), show K + j - (orderTo ls n).length = j by omega]
    rfl
  have h0 : nxtC ls K (n + 1) = firstN ls (n + 1) := by
    rw [firstN, ← hx]
    unfold nxtC
    split
    · rfl
    · rw [show n + 1 - (foldC ls K).2 = (n - (foldC ls K).2) + 1 by omega, Nat.pow_succ, ← Nat.mul_assoc]; omega
  intro j
  induction j with
  | zero => intro _; exact ⟨by omega, by rw [Nat.add_zero, h0]; rfl⟩
  | succ j ih =>
    intro hj
    obtain ⟨_, h2⟩ := ih (by omega)
    obtain ⟨i, hi1, _, hi3, _⟩ := symsN_at ls (n + 1) j (by omega)
    have hs : (orderN ls).getD (K + j) 0 = i := by rw [hsym j (by omega)]; simp [List.getD, hi1]
    have hf : foldC ls (K + (j + 1)) = (firstN ls (n + 1) + j, n + 1) := by
      rw [show K + (j + 1) = (K + j) + 1 by omega, foldC_succ, hs, hi3, h2]
    refine ⟨fun _ => hf, ?_⟩
    unfold nxtC
    rw [if_neg (by omega), hf]
    simp; omega
/-- behind all of at most n bits -/
theorem foldC_to (ls : List Nat) : ∀ n, n ≤ 15 → (foldC ls (orderTo ls n).length).2 ≤ n ∧ nxtC ls (orderTo ls n).length n = firstN ls n + cntN ls n
  | 0, _ => ⟨by simp [orderTo, foldC], by simp [orderTo, nxtC, firstN, cntN]⟩
  | n + 1, hn => by
    obtain ⟨h1, h2⟩ := foldC_to ls n (by omega)
    have hr := foldC_row ls n hn _ rfl h1 h2 (symsN ls (n + 1)).length (Nat.le_refl _)
    rw [orderTo_succ, List.length_append]
    refine ⟨?_, by rw [hr.2, symsN_cnt ls _ (by omega)]⟩
    by_cases hz : 0 < (symsN ls (n + 1)).length
    · rw [hr.1 hz]; exact Nat.le_refl _
    · rw [show (symsN ls (n + 1)).length = 0 by omega, Nat.add_zero]; omega
/-- the k-th symbol's code is the document's -/
theorem foldC_code (ls : List Nat) (k i : Nat) (h : (orderN ls)[k]? = some i) : foldC ls (k + 1) = (codeN ls i, ls.getD i 0) ∧ i < ls.length ∧ 1 ≤ ls.getD i 0 ∧ ls.getD i 0 ≤ 15 := by
  have key : ∀ n, n ≤ 15 → k < (orderTo ls n).length → ∃ m j, m < n ∧ k = (orderTo ls m).length + j ∧ j < (symsN ls (m + 1)).length := by
    intro n
    induction n with
    | zero => intro _ hk; simp [orderTo] at hk
    | succ n ih =>
      intro hn hk
      by_cases hlt : k < (orderTo ls n).length
      · obtain ⟨m, j, h1, h2, h3⟩ := ih (by omega) hlt
        exact ⟨m, j, by omega, h2, h3⟩
      · rw [orderTo_succ, List.length_append] at hk
        exact ⟨n, k - (orderTo ls n).length, by omega, by omega, by omega⟩
  obtain ⟨m, j, hm, hkj, hj⟩ := key 15 (Nat.le_refl _) (List.getElem?_eq_some_iff.1 h).1
  obtain ⟨h1, h2⟩ := foldC_to ls m (by omega)
  have hr := (foldC_row ls m (by omega) _ rfl h1 h2 (j + 1) (by omega)).1 (by omega)
  obtain ⟨i', hi1, hi2, hi3, hi4⟩ := symsN_at ls (m + 1) j hj
  have hii : i' = i := by
    obtain ⟨R, hR⟩ := orderTo_prefix ls (m + 1) (14 - m)
    rw [show m + 1 + (14 - m) = 15 by omega] at hR
    unfold orderN at h
    rw [hR, orderTo_succ, List.getElem?_append_left (by simp; omega), List.getElem?_append_right (by omega), show k - (orderTo ls m).length = j by omega, hi1] at h
    exact Option.some.inj h
  subst hii
  rw [show k + 1 = (orderTo ls m).length + (j + 1) by omega, hr, codeN_at ls _ (by omega), hi3, hi4]
  exact ⟨by simp, hi2, by omega, by omega⟩
/-- each symbol that has a code stands in the order, once -/
theorem orderN_nodup (ls : List Nat) : (orderN ls).Nodup := by
  unfold orderN orderTo
  rw [List.Nodup, List.pairwise_flatMap]
  refine ⟨fun x _ => List.Pairwise.filter _ List.nodup_range, ?_⟩
  refine List.Pairwise.imp ?_ (List.nodup_range (n := 15))
  intro a b hab x hx y hy hxy
  subst hxy
  simp only [symsN, List.mem_filter, beq_iff_eq] at hx hy
  omega
theorem orderN_mem (ls : List Nat) (h15 : ∀ x ∈ ls, x ≤ 15) (i : Nat) : i ∈ orderN ls ↔ i < ls.length ∧ ls.getD i 0 ≠ 0 := by
  unfold orderN orderTo
  simp only [List.mem_flatMap, List.mem_range, symsN, List.mem_filter, beq_iff_eq]
  constructor
  · rintro ⟨k, h1, h2, h3⟩; exact ⟨h2, by omega⟩
  · rintro ⟨h1, h2⟩
    have : ls.getD i 0 ≤ 15 := by rw [List.getD, List.getElem?_eq_getElem h1]; exact h15 _ (List.getElem_mem h1)
    exact ⟨ls.getD i 0 - 1, by omega, h1, by omega⟩

theorem orderTo_len (ls : List Nat) (n : Nat) : (orderTo ls (n + 1)).length = (orderTo ls n).length + cntN ls (n + 1) := by rw [orderTo_succ, List.length_append, symsN_cnt ls _ (by omega)]
theorem order_row (ls : List Nat) (n j : Nat) (hn : n + 1 ≤ 15) (hj : j < (symsN ls (n + 1)).length) : (orderN ls)[(orderTo ls n).length + j]? = (symsN ls (n + 1))[j]? := by
  obtain ⟨R, hR⟩ := orderTo_prefix ls (n + 1) (14 - n)
  rw [show n + 1 + (14 - n) = 15 by omega] at hR
  unfold orderN
  rw [hR, orderTo_succ, List.getElem?_append_left (by simp; omega), List.getElem?_append_right (by omega), show (orderTo ls n).length + j - (orderTo ls n).length = j by omega]
theorem orderTo_sum (ls : List Nat) : ∀ n, (orderTo ls n).length = (ls.map fun x => if x = 0 ∨ n < x then 0 else 1).sum
  | 0 => by
    have : ∀ l : List Nat, (l.map fun x => if x = 0 ∨ 0 < x then 0 else 1).sum = 0 := fun l => by
      induction l with
      | nil => rfl
      | cons x l ih => rw [List.map_cons, List.sum_cons, ih, if_pos (by omega)]
    rw [this]; rfl
  | n + 1 => by
    rw [orderTo_len, orderTo_sum ls n]
    unfold cntN
    rw [if_neg (by omega), ← count_sum]
    induction ls with
    | nil => rfl
    | cons x l ih =>
      simp only [List.map_cons, List.sum_cons] at ih ⊢
      rw [← ih]
      by_cases h0 : x = 0
      · subst h0; simp
      · by_cases h1 : x ≤ n
        · rw [if_neg (by omega), if_neg (by omega), if_neg (by omega)]; omega
        · by_cases h2 : x = n + 1
          · rw [if_pos (by omega), if_pos h2, if_neg (by omega)]; omega
          · rw [if_pos (by omega), if_neg h2, if_pos (by omega)]; omega
theorem orderN_len (ls : List Nat) : (orderN ls).length ≤ ls.length := by
  unfold orderN
  rw [orderTo_sum]
  induction ls with
  | nil => simp
  | cons x l ih =>
    rw [List.map_cons, List.sum_cons, List.length_cons]
    split <;> omega

/-! ### which lengths may be -/
def validL (l : List Int) : Bool := decide (l.length ≤ 320) && l.all fun x => decide (0 ≤ x) && decide (x ≤ 15)
def natsL (l : List Int) : List Nat := l.map Int.toNat
def checkE (l : List Int) : Int := if validL l = false then 1 else if 32768 < kraft (natsL l) then 8 else if kraft (natsL l) < 32768 then 2 else 0
def newE (l : List Int) : Int := if checkE l = 2 ∧ ((orderN (natsL l)).length = 0 ∨ ((orderN (natsL l)).length = 1 ∧ (natsL l).getD ((orderN (natsL l)).getD 0 0) 0 = 1)) then 0 else checkE l

/-! ### what is taken -/
/-- behind so many bits: their number, the highest first -/
def topN (F : List Bool) (at_ : Nat) : Nat → Nat
  | 0 => 0
  | n + 1 => 2 * topN F at_ n + (F.getD (at_ + n) false).toNat
/-- the most bits that are looked at -/
def mostN (ls : List Nat) : Nat := if (orderN ls).length < 2 then (orderN ls).length else 15
/-- from n bits on, d more of them: the symbol, the place behind it, the error -/
def takeCn (ls : List Nat) (F : List Bool) (at_ : Nat) : Nat → Nat → Nat × Nat × Int
  | _, 0 => (0, at_, 11)
  | n, d + 1 => if F.length ≤ at_ + n then (0, at_ + n, 2) else match symOf ls (n + 1) (topN F at_ (n + 1)) with
    | some i => (i, at_ + n + 1, 0)
    | none => if d = 0 then (0, at_ + n + 1, 11) else takeCn ls F at_ (n + 1) d
/-- what Take answers -/
def takesN (ls : List Nat) (F : List Bool) (at_ : Nat) : Nat × Nat × Int := takeCn ls F at_ 0 (mostN ls)
/-- as long as none was found, the number is not below the first code -/
theorem top_first (ls : List Nat) (F : List Bool) (at_ : Nat) : ∀ n, (∀ m, m < n → symOf ls (m + 1) (topN F at_ (m + 1)) = none) → firstN ls (n + 1) ≤ topN F at_ (n + 1)
  | 0, _ => by simp [firstN, cntN]
  | n + 1, h => by
    have ih := top_first ls F at_ n fun m hm => h m (by omega)
    have hn := h n (by omega)
    have hs : ¬ (symOf ls (n + 1) (topN F at_ (n + 1))).isSome = true := by rw [hn]; simp
    rw [symOf_some ls _ _ (by omega)] at hs
    rw [firstN, topN]
    have : firstN ls (n + 1) + cntN ls (n + 1) ≤ topN F at_ (n + 1) := by
      rcases Nat.lt_or_ge (topN F at_ (n + 1)) (firstN ls (n + 1) + cntN ls (n + 1)) with hh | hh
      · exact absurd ⟨ih, hh⟩ hs
      · exact hh
    omega
theorem topN_lt (F : List Bool) (at_ : Nat) : ∀ n, topN F at_ n < 2 ^ n
  | 0 => by simp [topN]
  | n + 1 => by
    have := topN_lt F at_ n
    have hb : (F.getD (at_ + n) false).toNat ≤ 1 := Bool.toNat_le _
    rw [topN, Nat.pow_succ]; omega

end Go.Proofs.Ytklfoafbgniogaa
