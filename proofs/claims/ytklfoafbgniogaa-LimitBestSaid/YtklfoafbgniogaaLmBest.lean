/-
  Package-merge: the lengths are whole, and none cost less.
-/
import Derived.Test.YtklfoafbgniogaaLmMath
namespace Go.Proofs.Ytklfoafbgniogaa
set_option linter.unusedVariables false

/-- coins in order, each of a symbol of its own -/
structure CoinsOk (C : List Itm) : Prop where
  sort : SortI C
  pos : ∀ x ∈ C, 0 < x.w
  one : ∀ x ∈ C, ∃ s, x.ms = [s]
  nodup : (C.map fun x => x.ms.headD 0).Nodup
/-- the length of a symbol -/
def lenI (C : List Itm) (m s : Nat) : Nat := sumI (fun p => p.ms.count s) ((lvI C (m - 1)).take (2 * C.length - 2))
/-- how many of a list are above t -/
def aboveT (D : List Nat) (t : Nat) : Nat := D.countP fun a => decide (t < a)

/-! ### sums over places -/
theorem sumI_range (f : Itm → Nat) (C : List Itm) : sumI f C = ((List.range C.length).map fun t => f (C.getD t default)).sum := by
  have h : C = (List.range C.length).map fun t => C.getD t default := by
    apply List.ext_getElem (by simp)
    intro i h1 h2
    simp [List.getD, List.getElem?_eq_getElem h1]
  conv => lhs; rw [h]
  unfold sumI
  rw [List.map_map]; rfl
theorem sum_add (l : List Nat) (f g : Nat → Nat) : (l.map fun t => f t + g t).sum = (l.map f).sum + (l.map g).sum := by
  induction l with
  | nil => rfl
  | cons x l ih => simp only [List.map_cons, List.sum_cons, ih]; omega
theorem sum_congr (l : List Nat) (f g : Nat → Nat) (h : ∀ t ∈ l, f t = g t) : (l.map f).sum = (l.map g).sum := by
  induction l with
  | nil => rfl
  | cons x l ih => simp only [List.map_cons, List.sum_cons]; rw [h x (by simp), ih fun t ht => h t (by simp [ht])]
theorem sum_const (l : List Nat) (c : Nat) : (l.map fun _ => c).sum = l.length * c := by
  induction l with
  | nil => simp
  | cons x l ih => simp only [List.map_cons, List.sum_cons, ih, List.length_cons, Nat.succ_mul]; omega
theorem range_one : ∀ (n t : Nat), t < n → (List.range n).count t = 1
  | 0, t, h => by omega
  | n + 1, t, h => by
    rw [List.range_succ, List.count_append]
    by_cases ht : t = n
    · subst ht
      rw [List.count_eq_zero.2 (by simp)]; simp
    · rw [range_one n t (by omega)]
      have : List.count t [n] = 0 := List.count_eq_zero.2 (by simp; exact ht)
      omega
theorem sum_below (N a c : Nat) (h : a ≤ N) : ((List.range N).map fun t => if t < a then c else 0).sum = a * c := by
  obtain ⟨d, rfl⟩ : ∃ d, N = a + d := ⟨N - a, by omega⟩
  rw [List.range_add, List.map_append, List.sum_append, List.map_map]
  rw [sum_congr (List.range a) _ (fun _ => c) (fun t ht => by rw [if_pos (List.mem_range.1 ht)]), sum_const, List.length_range]
  have : ((List.range d).map ((fun t => if t < a then c else 0) ∘ fun x => a + x)).sum = 0 := by
    rw [sum_congr (List.range d) _ (fun _ => 0) (fun t _ => by show (if a + t < a then c else 0) = 0; rw [if_neg (by omega)]), sum_const]; omega
  omega
theorem sumI_take (f : Itm → Nat) (C : List Itm) (a : Nat) (h : a ≤ C.length) : sumI f (C.take a) = ((List.range C.length).map fun t => if t < a then f (C.getD t default) else 0).sum := by
  obtain ⟨d, hd⟩ : ∃ d, C.length = a + d := ⟨C.length - a, by omega⟩
  rw [hd, List.range_add, List.map_append, List.sum_append, List.map_map]
  rw [sumI_range f (C.take a), List.length_take, Nat.min_eq_left h]
  rw [sum_congr (List.range a) _ (fun t => if t < a then f (C.getD t default) else 0) (fun t ht => by
    have := List.mem_range.1 ht
    rw [if_pos this]; congr 1; simp [List.getD, List.getElem?_take_of_lt this])]
  have : ((List.range d).map ((fun t => if t < a then f (C.getD t default) else 0) ∘ fun x => a + x)).sum = 0 := by
    rw [sum_congr (List.range d) _ (fun _ => 0) (fun t _ => by show (if a + t < a then f (C.getD (a + t) default) else 0) = 0; rw [if_neg (by omega)]), sum_const]; omega
  omega
theorem sums_swap (N : Nat) (g : Nat → Nat) : ∀ D : List Nat, (D.map fun a => ((List.range N).map fun t => if t < a then g t else 0).sum).sum = ((List.range N).map fun t => g t * aboveT D t).sum
  | [] => by
    have h : ((List.range N).map fun t => g t * aboveT [] t).sum = ((List.range N).map fun _ => 0).sum := sum_congr _ _ _ fun t _ => by simp [aboveT]
    rw [h, sum_const]; simp
  | a :: D => by
    rw [List.map_cons, List.sum_cons, sums_swap N g D, ← sum_add]
    refine sum_congr _ _ _ fun t _ => ?_
    unfold aboveT
    rw [List.countP_cons]
    by_cases h : t < a
    · simp [h, Nat.mul_add]; omega
    · simp [h]

/-! ### how wide -/
theorem above_zero (D : List Nat) (t : Nat) (h : ∀ a ∈ D, a ≤ t) : aboveT D t = 0 := by
  unfold aboveT
  rw [List.countP_eq_zero]
  intro a ha
  have := h a ha
  simp; omega
theorem above_le (D : List Nat) (t : Nat) : aboveT D t ≤ D.length := List.countP_le_length
theorem wide_sum : ∀ (D : List Nat) (N : Nat), (∀ a ∈ D, a ≤ N) → D.Pairwise (fun a b => b ≤ a) → ((List.range N).map fun t => 2 ^ D.length - 2 ^ (D.length - aboveT D t)).sum = wideL D
  | [], N, _, _ => by
    rw [sum_congr _ _ (fun _ => 0) (fun t _ => by simp), sum_const]; simp [wideL]
  | a :: D, N, hN, hD => by
    obtain ⟨h1, h2⟩ := List.pairwise_cons.1 hD
    have ih := wide_sum D N (fun x hx => hN x (by simp [hx])) h2
    rw [wideL, ← ih, ← sum_below N a _ (hN a (by simp)), ← sum_add]
    refine sum_congr _ _ _ fun t _ => ?_
    have hle := above_le D t
    rw [List.length_cons]
    by_cases ht : t < a
    · have hc : aboveT (a :: D) t = aboveT D t + 1 := by unfold aboveT; rw [List.countP_cons]; simp [ht]
      rw [if_pos ht, hc, show D.length + 1 - (aboveT D t + 1) = D.length - aboveT D t by omega, Nat.pow_succ]
      have : 2 ^ (D.length - aboveT D t) ≤ 2 ^ D.length := Nat.pow_le_pow_right (by omega) (by omega)
      omega
    · rw [if_neg ht, above_zero (a :: D) t (fun x hx => by
        rcases List.mem_cons.1 hx with rfl | hx
        · omega
        · have := h1 x hx; omega), above_zero D t (fun x hx => by have := h1 x hx; omega)]
      simp
theorem sum_sub (l : List Nat) (c : Nat) (f : Nat → Nat) (h : ∀ t ∈ l, f t ≤ c) : (l.map fun t => c - f t).sum + (l.map f).sum = l.length * c := by
  rw [← sum_add, sum_congr _ _ (fun _ => c) (fun t ht => by have := h t ht; omega), sum_const]
theorem wide_all (N m : Nat) : wideI (fun _ => N) m + N = N * 2 ^ (m + 1) := by
  induction m with
  | zero => simp [wideI]; omega
  | succ m ih => rw [wideI, Nat.pow_succ 2 (m + 1), ← Nat.mul_assoc]; omega

section
variable {C : List Itm} (hC : CoinsOk C)
include hC
/-- there are as many as are taken -/
theorem lvI_room (m : Nat) (hm : 1 ≤ m) (hN : C.length ≤ 2 ^ m) : 2 * C.length - 2 ≤ (lvI C (m - 1)).length := by
  refine (lower_bound C hC.sort (fun _ => C.length) (fun _ => Nat.le_refl _) (m - 1) _ ?_).1
  have h := wide_all C.length (m - 1)
  rw [show m - 1 + 1 = m by omega] at h
  have e : (2 * C.length - 2) * 2 ^ (m - 1) = (C.length - 1) * 2 ^ m := by
    obtain ⟨k, rfl⟩ : ∃ k, m = k + 1 := ⟨m - 1, by omega⟩
    rw [Nat.add_sub_cancel, Nat.pow_succ, show 2 * C.length - 2 = (C.length - 1) * 2 by omega, Nat.mul_assoc, Nat.mul_comm 2]
  rw [e, Nat.sub_mul, Nat.one_mul]
  omega
/-- a symbol's place among the coins -/
theorem coin_count (t : Nat) (ht : t < C.length) (u : Nat) (hu : u < C.length) : (C.getD u default).ms.count ((C.getD t default).ms.headD 0) = if u = t then 1 else 0 := by
  have hg : ∀ i, i < C.length → ∃ s, (C.getD i default).ms = [s] ∧ (C.map fun x => x.ms.headD 0)[i]? = some s := fun i hi => by
    have hm : C.getD i default ∈ C := by rw [List.getD, List.getElem?_eq_getElem hi]; exact List.getElem_mem _
    obtain ⟨s, hs⟩ := hC.one _ hm
    refine ⟨s, hs, ?_⟩
    rw [List.getElem?_map, List.getElem?_eq_getElem hi, Option.map_some]
    rw [List.getD, List.getElem?_eq_getElem hi] at hs
    simp only [Option.getD_some] at hs
    rw [hs]; rfl
  obtain ⟨s, h1, h2⟩ := hg t ht
  obtain ⟨r, h3, h4⟩ := hg u hu
  rw [h1, h3]
  simp only [List.headD_cons, List.count_cons, List.count_nil, Nat.zero_add, beq_iff_eq]
  by_cases h : u = t
  · subst h
    rw [h2] at h4
    injection h4 with h4
    simp [h4]
  · rw [if_neg h, if_neg]
    rintro rfl
    apply h
    obtain ⟨a1, a2⟩ := List.getElem?_eq_some_iff.1 h4
    obtain ⟨b1, b2⟩ := List.getElem?_eq_some_iff.1 h2
    exact (List.getElem_inj (h₀ := a1) (h₁ := b1) hC.nodup).1 (a2.trans b2.symm)
theorem lenI_above (m : Nat) (hm : 1 ≤ m) (hN : C.length ≤ 2 ^ m) (t : Nat) (ht : t < C.length) :
    lenI C m ((C.getD t default).ms.headD 0) = aboveT (levI C (m - 1) (2 * C.length - 2)) t := by
  have hr := lvI_room hC m hm hN
  unfold lenI
  rw [levI_sum C hC.sort _ (fun a b => by simp [twoI]) _ _ hr]
  have hle := levI_le C (m - 1) _ hr
  generalize levI C (m - 1) (2 * C.length - 2) = D at *
  induction D with
  | nil => simp [aboveT]
  | cons a D ih =>
    have ih := ih fun x hx => hle x (by simp [hx])
    rw [List.map_cons, List.sum_cons, ih, sumI_take _ _ _ (hle a (by simp))]
    rw [sum_congr _ _ (fun u => if u < a then (if u = t then 1 else 0) else 0) (fun u hu => by
      by_cases h : u < a
      · rw [if_pos h, if_pos h]; exact coin_count hC t ht u (List.mem_range.1 hu)
      · rw [if_neg h, if_neg h])]
    unfold aboveT
    rw [List.countP_cons]
    have key : ((List.range C.length).map fun u => if u < a then (if u = t then 1 else 0) else 0).sum = if t < a then 1 else 0 := by
      by_cases h : t < a
      · rw [if_pos h, sum_congr _ _ (fun u => if u = t then 1 else 0) (fun u _ => by
          by_cases hu : u = t
          · subst hu; rw [if_pos h]
          · rw [if_neg hu]; simp), count_sum, range_one _ _ ht]
      · rw [if_neg h, sum_congr _ _ (fun _ => 0) (fun u _ => by
          by_cases hu : u = t
          · subst hu; rw [if_neg h]
          · rw [if_neg hu]; simp), sum_const]; omega
    rw [key]
    by_cases h : t < a <;> simp [h] <;> omega
/-- the lengths are whole -/
theorem lenI_whole (m : Nat) (hm : 1 ≤ m) (hN : C.length ≤ 2 ^ m) (h2 : 2 ≤ C.length) :
    sumI (fun x => 2 ^ (m - lenI C m (x.ms.headD 0))) C = 2 ^ m ∧ ∀ x ∈ C, 1 ≤ lenI C m (x.ms.headD 0) ∧ lenI C m (x.ms.headD 0) ≤ m := by
  have hr := lvI_room hC m hm hN
  have hla : ∀ t, t < C.length → lenI C m ((C.getD t default).ms.headD 0) = aboveT (levI C (m - 1) (2 * C.length - 2)) t := fun t ht => lenI_above hC m hm hN t ht
  have hw := wide_sum (levI C (m - 1) (2 * C.length - 2)) C.length (levI_le C (m - 1) _ hr) (levI_desc C hC.sort hC.pos (m - 1) _ hr)
  rw [levI_wide C _ _ hr, levI_len, show m - 1 + 1 = m by omega] at hw
  have hDl := levI_len C (m - 1) (2 * C.length - 2)
  rw [show m - 1 + 1 = m by omega] at hDl
  have hup : ∀ t, aboveT (levI C (m - 1) (2 * C.length - 2)) t ≤ m := fun t => by have h := above_le (levI C (m - 1) (2 * C.length - 2)) t; rw [hDl] at h; exact h
  generalize levI C (m - 1) (2 * C.length - 2) = D at *
  have e : (2 * C.length - 2) * 2 ^ (m - 1) = (C.length - 1) * 2 ^ m := by
    obtain ⟨k, rfl⟩ : ∃ k, m = k + 1 := ⟨m - 1, by omega⟩
    rw [Nat.add_sub_cancel, Nat.pow_succ, show 2 * C.length - 2 = (C.length - 1) * 2 by omega, Nat.mul_assoc, Nat.mul_comm 2]
  rw [e] at hw
  have hs := sum_sub (List.range C.length) (2 ^ m) (fun t => 2 ^ (m - aboveT D t)) (fun t _ => Nat.pow_le_pow_right (by omega) (by omega))
  rw [hw, List.length_range] at hs
  have htot : ((List.range C.length).map fun t => 2 ^ (m - aboveT D t)).sum = 2 ^ m := by
    obtain ⟨n, hn⟩ : ∃ n, C.length = n + 1 := ⟨C.length - 1, by omega⟩
    rw [hn, Nat.add_sub_cancel, Nat.succ_mul] at hs
    rw [hn]; omega
  have hsum : sumI (fun x => 2 ^ (m - lenI C m (x.ms.headD 0))) C = 2 ^ m := by
    rw [sumI_range, ← htot]
    exact sum_congr _ _ _ fun t ht => by rw [hla t (List.mem_range.1 ht)]
  refine ⟨hsum, fun x hx => ?_⟩
  obtain ⟨t, ht, rfl⟩ := List.getElem_of_mem hx
  have hgd : C.getD t default = C[t] := by rw [List.getD, List.getElem?_eq_getElem ht]; rfl
  have h1 := hla t ht
  rw [hgd] at h1
  refine ⟨?_, by rw [h1]; exact hup t⟩
  rcases Nat.eq_zero_or_pos (lenI C m (C[t].ms.headD 0)) with h0 | h0
  · exfalso
    rw [h1] at h0
    -- that one alone is as wide as all
    obtain ⟨u, hu, hut⟩ : ∃ u, u < C.length ∧ u ≠ t := by
      by_cases h : t = 0
      · exact ⟨1, by omega, by omega⟩
      · exact ⟨0, by omega, by omega⟩
    have hbig : ((List.range C.length).map fun v => (if v = t then 2 ^ m else 0) + (if v = u then 1 else 0)).sum ≤ ((List.range C.length).map fun t => 2 ^ (m - aboveT D t)).sum := by
      have : ∀ l : List Nat, (l.map fun v => (if v = t then 2 ^ m else 0) + (if v = u then 1 else 0)).sum ≤ (l.map fun t => 2 ^ (m - aboveT D t)).sum := by
        intro l
        induction l with
        | nil => simp
        | cons v l ih =>
          simp only [List.map_cons, List.sum_cons]
          have hp : 0 < 2 ^ (m - aboveT D v) := Nat.pow_pos (by omega)
          by_cases hvt : v = t
          · subst hvt
            rw [if_pos rfl, if_neg (fun h => hut h.symm), h0, Nat.sub_zero]; omega
          · rw [if_neg hvt]
            by_cases hvu : v = u
            · rw [if_pos hvu]; omega
            · rw [if_neg hvu]; omega
      exact this _
    rw [sum_add, count_sum, range_one _ _ hu, htot] at hbig
    have hone : ((List.range C.length).map fun v => if v = t then 2 ^ m else 0).sum = 2 ^ m := by
      have hg : ∀ l : List Nat, (l.map fun v => if v = t then 2 ^ m else 0).sum = l.count t * 2 ^ m := by
        intro l
        induction l with
        | nil => simp
        | cons v l ih =>
          rw [List.map_cons, List.sum_cons, ih, List.count_cons]
          by_cases h : v = t
          · subst h; simp [Nat.add_mul]; omega
          · simp [h]
      rw [hg, range_one _ _ ht, Nat.one_mul]
    omega
  · exact h0
/-- what they cost -/
theorem lenI_cost (m : Nat) (hm : 1 ≤ m) (hN : C.length ≤ 2 ^ m) : sumI (fun x => x.w * lenI C m (x.ms.headD 0)) C = sumI (·.w) ((lvI C (m - 1)).take (2 * C.length - 2)) := by
  have hr := lvI_room hC m hm hN
  rw [levI_sum C hC.sort (·.w) (fun _ _ => rfl) _ _ hr, sumI_range]
  have hle := levI_le C (m - 1) _ hr
  rw [sum_congr _ _ (fun t => (C.getD t default).w * aboveT (levI C (m - 1) (2 * C.length - 2)) t) (fun t ht => by rw [lenI_above hC m hm hN t (List.mem_range.1 ht)])]
  rw [← sums_swap]
  refine sum_congr _ _ _ fun a ha => ?_
  rw [sumI_take _ _ _ (hle a ha)]

/-! ### no others cost less -/
def hI (m : Nat) (o : Itm → Nat) (x : Itm) : Nat → Nat
  | 0 => if m ≤ o x then 1 else 0
  | k + 1 => (if m - (k + 1) ≤ o x then 2 ^ (k + 1) else 0) + hI m o x k
omit hC in
theorem sumI_count (b : Itm → Bool) (c : Nat) : ∀ C : List Itm, C.countP b * c = sumI (fun x => if b x then c else 0) C
  | [] => by simp [sumI]
  | x :: C => by
    rw [sumI_cons, ← sumI_count b c C, List.countP_cons]
    by_cases h : b x = true
    · simp [h, Nat.add_mul]; omega
    · simp [h]
omit hC in
theorem sumI_add (f g : Itm → Nat) : ∀ C : List Itm, sumI (fun x => f x + g x) C = sumI f C + sumI g C
  | [] => rfl
  | x :: C => by rw [sumI_cons, sumI_cons, sumI_cons, sumI_add f g C]; omega
omit hC in
theorem sumI_congr (f g : Itm → Nat) : ∀ C : List Itm, (∀ x ∈ C, f x = g x) → sumI f C = sumI g C
  | [], _ => rfl
  | x :: C, h => by rw [sumI_cons, sumI_cons, h x (by simp), sumI_congr f g C fun y hy => h y (by simp [hy])]
omit hC in
theorem hI_closed (m : Nat) (o : Itm → Nat) (x : Itm) (h1 : 1 ≤ o x) (hm : o x ≤ m) : ∀ k, k < m → hI m o x k + 2 ^ (min (m - o x) (k + 1)) = 2 ^ (k + 1)
  | 0, hk => by
    unfold hI
    by_cases h : m ≤ o x
    · rw [if_pos h, show min (m - o x) (0 + 1) = 0 by omega]
    · rw [if_neg h, show min (m - o x) (0 + 1) = 1 by omega]
  | k + 1, hk => by
    have ih := hI_closed m o x h1 hm k (by omega)
    unfold hI
    by_cases h : m - (k + 1) ≤ o x
    · rw [if_pos h, show min (m - o x) (k + 1 + 1) = min (m - o x) (k + 1) by omega, Nat.pow_succ 2 (k + 1)]; omega
    · rw [if_neg h, show min (m - o x) (k + 1 + 1) = k + 1 + 1 by omega]
      rw [show min (m - o x) (k + 1) = k + 1 by omega] at ih
      omega
omit hC in
theorem wideI_sum (C : List Itm) (m : Nat) (o : Itm → Nat) : ∀ k, wideI (fun j => C.countP fun x => decide (m - j ≤ o x)) k = sumI (fun x => hI m o x k) C
  | 0 => by
    have := sumI_count (fun x => decide (m - 0 ≤ o x)) 1 C
    rw [Nat.mul_one] at this
    rw [wideI, this]
    exact sumI_congr _ _ _ fun x _ => by simp [hI]
  | k + 1 => by
    rw [wideI, wideI_sum C m o k, sumI_count, ← sumI_add]
    exact sumI_congr _ _ _ fun x _ => by simp [hI]
theorem costI_sum (m : Nat) (o : Itm → Nat) : ∀ k, k < m → costI C (fun j => C.countP fun x => decide (m - j ≤ o x)) k ≤ sumI (fun x => x.w * (k + 1 - min (m - o x) (k + 1))) C
  | 0, hk => by
    rw [costI]
    refine Nat.le_trans (some_coins _ C hC.sort) (Nat.le_of_eq (sumI_congr _ _ _ fun x _ => ?_))
    by_cases h : m ≤ o x
    · rw [if_pos (by simpa using h), show 0 + 1 - min (m - o x) (0 + 1) = 1 by omega, Nat.mul_one]
    · rw [if_neg (by simpa using h), show 0 + 1 - min (m - o x) (0 + 1) = 0 by omega, Nat.mul_zero]
  | k + 1, hk => by
    rw [costI]
    have ih := costI_sum m o k (by omega)
    have h1 := some_coins (fun x => decide (m - (k + 1) ≤ o x)) C hC.sort
    have e : sumI (fun x => x.w * (k + 1 + 1 - min (m - o x) (k + 1 + 1))) C = sumI (fun x => if decide (m - (k + 1) ≤ o x) then x.w else 0) C + sumI (fun x => x.w * (k + 1 - min (m - o x) (k + 1))) C := by
      rw [← sumI_add]
      refine sumI_congr _ _ _ fun x _ => ?_
      by_cases h : m - (k + 1) ≤ o x
      · rw [if_pos (by simpa using h), show k + 1 + 1 - min (m - o x) (k + 1 + 1) = (k + 1 - min (m - o x) (k + 1)) + 1 by omega, Nat.mul_add, Nat.mul_one]; omega
      · rw [if_neg (by simpa using h), show k + 1 + 1 - min (m - o x) (k + 1 + 1) = 0 by omega, show k + 1 - min (m - o x) (k + 1) = 0 by omega]; omega
    rw [e]; omega
/-- NO OTHER IS BETTER -/
theorem lenI_best (m : Nat) (hm : 1 ≤ m) (hN : C.length ≤ 2 ^ m) (o : Itm → Nat) (ho : ∀ x ∈ C, 1 ≤ o x ∧ o x ≤ m) (hk : sumI (fun x => 2 ^ (m - o x)) C ≤ 2 ^ m) :
    sumI (fun x => x.w * lenI C m (x.ms.headD 0)) C ≤ sumI (fun x => x.w * o x) C := by
  rw [lenI_cost hC m hm hN]
  have hw := wideI_sum C m o (m - 1)
  have hh : sumI (fun x => hI m o x (m - 1)) C + sumI (fun x => 2 ^ (m - o x)) C = C.length * 2 ^ m := by
    rw [← sumI_add, sumI_congr _ (fun _ => 2 ^ m) C (fun x hx => by
      have := hI_closed m o x (ho x hx).1 (ho x hx).2 (m - 1) (by omega)
      rw [show m - 1 + 1 = m by omega, show min (m - o x) m = m - o x by omega] at this
      exact this)]
    have := sumI_count (fun _ => true) (2 ^ m) C
    simpa using this.symm
  have e : (2 * C.length - 2) * 2 ^ (m - 1) = (C.length - 1) * 2 ^ m := by
    obtain ⟨k, rfl⟩ : ∃ k, m = k + 1 := ⟨m - 1, by omega⟩
    rw [Nat.add_sub_cancel, Nat.pow_succ, show 2 * C.length - 2 = (C.length - 1) * 2 by omega, Nat.mul_assoc, Nat.mul_comm 2]
  have hlb := lower_bound C hC.sort (fun j => C.countP fun x => decide (m - j ≤ o x)) (fun j => List.countP_le_length) (m - 1) (2 * C.length - 2) (by
    rw [hw, e, Nat.sub_mul, Nat.one_mul]; omega)
  refine Nat.le_trans hlb.2 (Nat.le_trans (costI_sum hC m o (m - 1) (by omega)) (Nat.le_of_eq (sumI_congr _ _ _ fun x hx => ?_)))
  have := ho x hx
  rw [show m - 1 + 1 - min (m - o x) (m - 1 + 1) = o x by omega]
end
end Go.Proofs.Ytklfoafbgniogaa
