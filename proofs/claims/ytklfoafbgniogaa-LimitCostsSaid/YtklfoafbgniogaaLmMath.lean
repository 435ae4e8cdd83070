/-
  Package-merge: items, merged lists, and why no other lengths cost less.
-/
import Derived.Test.YtklfoafbgniogaaCnMath
namespace Go.Proofs.Ytklfoafbgniogaa
set_option linter.unusedVariables false

/-- an item: how much it counts, and the symbols in it -/
structure Itm where
  w : Nat
  ms : List Nat
deriving Inhabited
def twoI (a b : Itm) : Itm := ⟨a.w + b.w, a.ms ++ b.ms⟩
/-- an item behind all that count as much or less -/
def insI (p : Itm) : List Itm → List Itm
  | [] => [p]
  | x :: l => if x.w ≤ p.w then x :: insI p l else p :: x :: l
def pairsI : List Itm → List Itm
  | a :: b :: r => twoI a b :: pairsI r
  | _ => []
def mergedI (C L : List Itm) : List Itm := (pairsI L).foldl (fun out p => insI p out) C
/-- the list behind k rounds -/
def lvI (C : List Itm) : Nat → List Itm
  | 0 => C
  | k + 1 => mergedI C (lvI C k)
/-- coins and packages, merged: coins first where they count as much -/
def mrgI : List Itm → List Itm → List Itm
  | [], P => P
  | x :: C, [] => x :: C
  | x :: C, p :: P => if x.w ≤ p.w then x :: mrgI C (p :: P) else p :: mrgI (x :: C) P
termination_by C P => C.length + P.length
def SortI (l : List Itm) : Prop := l.Pairwise fun a b => a.w ≤ b.w
/-- the sum of a number of each -/
def sumI (f : Itm → Nat) (l : List Itm) : Nat := (l.map f).sum

section
variable (f : Itm → Nat)
theorem sumI_nil : sumI f [] = 0 := rfl
theorem sumI_cons (x : Itm) (l : List Itm) : sumI f (x :: l) = f x + sumI f l := by simp [sumI]
theorem sumI_app (l m : List Itm) : sumI f (l ++ m) = sumI f l + sumI f m := by simp [sumI]
theorem sumI_ins (p : Itm) : ∀ l, sumI f (insI p l) = f p + sumI f l
  | [] => by simp [insI, sumI]
  | x :: l => by
    unfold insI
    split
    · rw [sumI_cons, sumI_ins p l, sumI_cons]; omega
    · rw [sumI_cons]
theorem sumI_take_succ (l : List Itm) (k : Nat) (h : k < l.length) : sumI f (l.take (k + 1)) = sumI f (l.take k) + f l[k] := by
  rw [List.take_succ_eq_append_getElem h, sumI_app, sumI_cons, sumI_nil]; omega
theorem sumI_take_le (l : List Itm) : ∀ (j k : Nat), j ≤ k → sumI f (l.take j) ≤ sumI f (l.take k) := by
  induction l with
  | nil => intro j k _; simp
  | cons x l ih =>
    intro j k h
    cases j with
    | zero => simp [sumI]
    | succ j =>
      cases k with
      | zero => omega
      | succ k => simp only [List.take_succ_cons, sumI_cons]; have := ih j k (by omega); omega
end

/-! ### pairs -/
theorem pairsI_len : ∀ l, (pairsI l).length = l.length / 2
  | [] => rfl
  | [_] => by simp [pairsI]
  | a :: b :: r => by simp only [pairsI, List.length_cons]; rw [pairsI_len r]; omega
theorem pairsI_sum (f : Itm → Nat) (hf : ∀ a b, f (twoI a b) = f a + f b) : ∀ (l : List Itm) (q : Nat), 2 * q ≤ l.length → sumI f ((pairsI l).take q) = sumI f (l.take (2 * q))
  | [], q, h => by
    have : q = 0 := by simp at h; omega
    subst this; simp
  | [_], q, h => by simp at h; have : q = 0 := by omega
                    subst this; simp
  | a :: b :: r, 0, h => by simp [sumI]
  | a :: b :: r, q + 1, h => by
    have ih := pairsI_sum f hf r q (by simp at h; omega)
    rw [show 2 * (q + 1) = 2 * q + 1 + 1 by omega]
    simp only [pairsI, List.take_succ_cons, sumI_cons, hf, ih]; omega
theorem pairsI_le : ∀ (l : List Itm) (x : Itm), (∀ y ∈ l, x.w ≤ y.w) → ∀ p ∈ pairsI l, x.w ≤ p.w
  | [], _, _, p, hp => by simp [pairsI] at hp
  | [_], _, _, p, hp => by simp [pairsI] at hp
  | a :: b :: r, x, h, p, hp => by
    simp only [pairsI, List.mem_cons] at hp
    rcases hp with rfl | hp
    · have := h a (by simp); simp only [twoI]; omega
    · exact pairsI_le r x (fun y hy => h y (by simp [hy])) p hp
theorem pairsI_ge : ∀ (l : List Itm) (a b : Itm), (∀ y ∈ l, a.w ≤ y.w) → (∀ y ∈ l, b.w ≤ y.w) → ∀ p ∈ pairsI l, a.w + b.w ≤ p.w
  | [], _, _, _, _, p, hp => by simp [pairsI] at hp
  | [_], _, _, _, _, p, hp => by simp [pairsI] at hp
  | c :: d :: r, a, b, ha, hb, p, hp => by
    simp only [pairsI, List.mem_cons] at hp
    rcases hp with rfl | hp
    · have := ha c (by simp); have := hb d (by simp); simp only [twoI]; omega
    · exact pairsI_ge r a b (fun y hy => ha y (by simp [hy])) (fun y hy => hb y (by simp [hy])) p hp
theorem pairsI_sort : ∀ l, SortI l → SortI (pairsI l)
  | [], _ => List.Pairwise.nil
  | [_], _ => List.Pairwise.nil
  | a :: b :: r, h => by
    obtain ⟨h1, h2⟩ := List.pairwise_cons.1 h
    obtain ⟨h3, h4⟩ := List.pairwise_cons.1 h2
    refine List.pairwise_cons.2 ⟨fun p hp => ?_, pairsI_sort r h4⟩
    exact pairsI_ge r a b (fun y hy => h1 y (by simp [hy])) h3 p hp
/-- the two of a package -/
theorem pairsI_at : ∀ (l : List Itm) (q : Nat), 2 * q + 1 < l.length → ∃ a b, l[2 * q]? = some a ∧ l[2 * q + 1]? = some b ∧ (pairsI l)[q]? = some (twoI a b)
  | [], q, h => by simp at h
  | [_], q, h => by simp at h
  | a :: b :: r, 0, _ => ⟨a, b, rfl, rfl, rfl⟩
  | a :: b :: r, q + 1, h => by
    obtain ⟨x, y, h1, h2, h3⟩ := pairsI_at r q (by simp at h; omega)
    exact ⟨x, y, by rw [show 2 * (q + 1) = 2 * q + 1 + 1 by omega]; simpa using h1, by rw [show 2 * (q + 1) + 1 = 2 * q + 1 + 1 + 1 by omega]; simpa using h2, by simpa [pairsI] using h3⟩

/-! ### merged lists -/
theorem mrgI_nil_left (P : List Itm) : mrgI [] P = P := by unfold mrgI; rfl
theorem mrgI_nil_right (C : List Itm) : mrgI C [] = C := by cases C <;> (unfold mrgI; rfl)
theorem mrgI_cons (x : Itm) (C : List Itm) (p : Itm) (P : List Itm) : mrgI (x :: C) (p :: P) = if x.w ≤ p.w then x :: mrgI C (p :: P) else p :: mrgI (x :: C) P := by conv => lhs; unfold mrgI
theorem mrgI_ins (p : Itm) (P : List Itm) (hp : ∀ y ∈ P, p.w ≤ y.w) : ∀ C, SortI C → mrgI C (p :: P) = mrgI (insI p C) P
  | [], _ => by
    rw [mrgI_nil_left]; unfold insI
    cases P with
    | nil => rw [mrgI_nil_right]
    | cons y P => rw [mrgI_cons, if_pos (hp y (by simp)), mrgI_nil_left]
  | x :: C, h => by
    obtain ⟨h1, h2⟩ := List.pairwise_cons.1 h
    have ih := mrgI_ins p P hp C h2
    rw [mrgI_cons]
    unfold insI
    by_cases hx : x.w ≤ p.w
    · rw [if_pos hx, if_pos hx, ih]
      cases P with
      | nil => rw [mrgI_nil_right, mrgI_nil_right]
      | cons y P => rw [mrgI_cons, if_pos (Nat.le_trans hx (hp y (by simp)))]
    · rw [if_neg hx, if_neg hx]
      cases P with
      | nil => rw [mrgI_nil_right, mrgI_nil_right]
      | cons y P =>
        conv => rhs; rw [mrgI_cons, if_pos (hp y (by simp))]
theorem insI_mem (p : Itm) (l : List Itm) (y : Itm) : y ∈ insI p l ↔ y = p ∨ y ∈ l := by
  induction l with
  | nil => simp [insI]
  | cons x l ih =>
    unfold insI
    split
    · simp only [List.mem_cons, ih]
      constructor
      · rintro (h | h | h)
        · exact .inr (.inl h)
        · exact .inl h
        · exact .inr (.inr h)
      · rintro (h | h | h)
        · exact .inr (.inl h)
        · exact .inl h
        · exact .inr (.inr h)
    · simp
theorem insI_sort (p : Itm) : ∀ l, SortI l → SortI (insI p l)
  | [], _ => by simp [insI, SortI]
  | x :: l, h => by
    obtain ⟨h1, h2⟩ := List.pairwise_cons.1 h
    unfold insI
    split
    · rename_i hx
      refine List.pairwise_cons.2 ⟨fun y hy => ?_, insI_sort p l h2⟩
      rcases (insI_mem p l y).1 hy with rfl | hy
      · exact hx
      · exact h1 y hy
    · rename_i hx
      refine List.pairwise_cons.2 ⟨fun y hy => ?_, h⟩
      rcases List.mem_cons.1 hy with rfl | hy
      · omega
      · have := h1 y hy; omega
theorem foldI_mrg : ∀ (P C : List Itm), SortI P → SortI C → P.foldl (fun out p => insI p out) C = mrgI C P
  | [], C, _, _ => by rw [mrgI_nil_right]; rfl
  | p :: P, C, hP, hC => by
    obtain ⟨h1, h2⟩ := List.pairwise_cons.1 hP
    rw [List.foldl_cons, foldI_mrg P _ h2 (insI_sort p C hC), mrgI_ins p P h1 C hC]
theorem foldI_sort : ∀ (P C : List Itm), SortI C → SortI (P.foldl (fun out p => insI p out) C)
  | [], _, h => h
  | p :: P, C, h => foldI_sort P _ (insI_sort p C h)
theorem insI_len (p : Itm) : ∀ l, (insI p l).length = l.length + 1
  | [] => rfl
  | x :: l => by unfold insI; split <;> simp [insI_len p l]
theorem foldI_len : ∀ (P C : List Itm), (P.foldl (fun out p => insI p out) C).length = C.length + P.length
  | [], _ => rfl
  | p :: P, C => by rw [List.foldl_cons, foldI_len P, insI_len, List.length_cons]; omega
theorem lvI_sort (C : List Itm) (h : SortI C) : ∀ k, SortI (lvI C k)
  | 0 => h
  | k + 1 => foldI_sort _ _ h
theorem lvI_mrg (C : List Itm) (h : SortI C) (k : Nat) : lvI C (k + 1) = mrgI C (pairsI (lvI C k)) := foldI_mrg _ _ (pairsI_sort _ (lvI_sort C h k)) h
theorem lvI_len (C : List Itm) (k : Nat) : (lvI C (k + 1)).length = C.length + (lvI C k).length / 2 := by
  show (mergedI C (lvI C k)).length = _
  unfold mergedI; rw [foldI_len, pairsI_len]
theorem lvI_ge (C : List Itm) (k : Nat) : C.length ≤ (lvI C k).length := by
  cases k with
  | zero => exact Nat.le_refl _
  | succ k => rw [lvI_len]; omega

/-- of the first c of a merged list: how many coins -/
def splitI : List Itm → List Itm → Nat → Nat
  | _, _, 0 => 0
  | [], _, _ + 1 => 0
  | _ :: C, [], c + 1 => 1 + splitI C [] c
  | x :: C, p :: P, c + 1 => if x.w ≤ p.w then 1 + splitI C (p :: P) c else splitI (x :: C) P c
theorem splitI_le : ∀ (c : Nat) (C P : List Itm), splitI C P c ≤ c ∧ splitI C P c ≤ C.length
  | 0, C, P => by simp [splitI]
  | c + 1, [], P => by simp [splitI]
  | c + 1, x :: C, [] => by have := splitI_le c C []; simp only [splitI, List.length_cons]; omega
  | c + 1, x :: C, p :: P => by
    unfold splitI
    split
    · have := splitI_le c C (p :: P); simp only [List.length_cons]; omega
    · have := splitI_le c (x :: C) P; omega
theorem splitI_rest : ∀ (c : Nat) (C P : List Itm), c ≤ C.length + P.length → c - splitI C P c ≤ P.length
  | 0, C, P, _ => by simp
  | c + 1, [], P, h => by simp [splitI]; simpa using h
  | c + 1, x :: C, [], h => by
    have := splitI_rest c C [] (by simp at h; simp; omega)
    simp only [splitI, List.length_nil] at this ⊢; omega
  | c + 1, x :: C, p :: P, h => by
    unfold splitI
    split
    · have := splitI_rest c C (p :: P) (by simp at h ⊢; omega)
      omega
    · have h1 := splitI_rest c (x :: C) P (by simp at h ⊢; omega)
      have h2 := (splitI_le c (x :: C) P).1
      simp only [List.length_cons]; omega
/-- the first c are so many coins, and so many packages -/
theorem splitI_sum (f : Itm → Nat) : ∀ (c : Nat) (C P : List Itm), sumI f ((mrgI C P).take c) = sumI f (C.take (splitI C P c)) + sumI f (P.take (c - splitI C P c))
  | 0, C, P => by simp [sumI, splitI]
  | c + 1, [], P => by rw [mrgI_nil_left]; simp [splitI, sumI]
  | c + 1, x :: C, [] => by
    have ih := splitI_sum f c C []
    rw [mrgI_nil_right] at ih ⊢
    simp only [splitI, List.take_succ_cons, List.take_nil, sumI_nil, Nat.add_zero] at ih ⊢
    rw [Nat.add_comm 1, List.take_succ_cons, sumI_cons, sumI_cons, ih]
  | c + 1, x :: C, p :: P => by
    rw [mrgI_cons]
    unfold splitI
    by_cases h : x.w ≤ p.w
    · rw [if_pos h, if_pos h, List.take_succ_cons, sumI_cons, splitI_sum f c C (p :: P), Nat.add_comm 1, List.take_succ_cons, sumI_cons, show c + 1 - (splitI C (p :: P) c + 1) = c - splitI C (p :: P) c by omega]; omega
    · rw [if_neg h, if_neg h, List.take_succ_cons, sumI_cons, splitI_sum f c (x :: C) P]
      have := (splitI_le c (x :: C) P).1
      rw [show c + 1 - splitI (x :: C) P c = (c - splitI (x :: C) P c) + 1 by omega, List.take_succ_cons, sumI_cons]; omega
/-- the first c cost least -/
theorem splitI_best : ∀ (c : Nat) (C P : List Itm), SortI C → SortI P → ∀ a q, a + q = c → a ≤ C.length → q ≤ P.length → sumI (·.w) ((mrgI C P).take c) ≤ sumI (·.w) (C.take a) + sumI (·.w) (P.take q)
  | 0, C, P, _, _, a, q, _, _, _ => by simp [sumI]
  | c + 1, [], P, _, _, a, q, h, ha, hq => by
    have : a = 0 := by simpa using ha
    subst this
    rw [mrgI_nil_left]
    obtain rfl : q = c + 1 := by omega
    simp [sumI]
  | c + 1, x :: C, [], _, _, a, q, h, ha, hq => by
    have : q = 0 := by simpa using hq
    subst this
    rw [mrgI_nil_right]
    obtain rfl : a = c + 1 := by omega
    omega
  | c + 1, x :: C, p :: P, hC, hP, a, q, h, ha, hq => by
    obtain ⟨c1, c2⟩ := List.pairwise_cons.1 hC
    obtain ⟨p1, p2⟩ := List.pairwise_cons.1 hP
    rw [mrgI_cons]
    by_cases hx : x.w ≤ p.w
    · rw [if_pos hx, List.take_succ_cons, sumI_cons]
      cases a with
      | succ a =>
        have ih := splitI_best c C (p :: P) c2 hP a q (by omega) (by simp at ha; omega) hq
        rw [List.take_succ_cons, sumI_cons]; omega
      | zero =>
        obtain rfl : q = c + 1 := by omega
        have ih := splitI_best c C (p :: P) c2 hP 0 c (by omega) (by omega) (by omega)
        rw [sumI_take_succ _ _ c hq]
        have hge : x.w ≤ ((p :: P)[c]).w := by
          have hm := List.getElem_mem hq
          rcases List.mem_cons.1 hm with he | hm
          · rw [he]; exact hx
          · have := p1 _ hm; omega
        simp only [List.take_zero, sumI_nil] at ih ⊢
        omega
    · rw [if_neg hx, List.take_succ_cons, sumI_cons]
      cases q with
      | succ q =>
        have ih := splitI_best c (x :: C) P hC p2 a q (by omega) ha (by simp at hq; omega)
        rw [List.take_succ_cons, sumI_cons]; omega
      | zero =>
        obtain rfl : a = c + 1 := by omega
        have ih := splitI_best c (x :: C) P hC p2 c 0 (by omega) (by omega) (by omega)
        rw [sumI_take_succ _ _ c ha]
        have hge : p.w ≤ ((x :: C)[c]).w := by
          have hm := List.getElem_mem ha
          rcases List.mem_cons.1 hm with he | hm
          · rw [he]; omega
          · have := c1 _ hm; omega
        simp only [List.take_zero, sumI_nil] at ih ⊢
        omega
/-- a coin that counts no more than a package that is among the first is among them -/
theorem splitI_ahead : ∀ (c : Nat) (C P : List Itm), c ≤ C.length + P.length → SortI P → ∀ (i q : Nat) (x y : Itm), C[i]? = some x → P[q]? = some y → q < c - splitI C P c → x.w ≤ y.w → SortI C → i < splitI C P c
  | 0, C, P, _, _, i, q, x, y, _, _, h, _, _ => by simp at h
  | c + 1, [], P, _, _, i, q, x, y, hi, _, _, _, _ => by simp at hi
  | c + 1, z :: C, [], _, _, i, q, x, y, _, hq, _, _, _ => by simp at hq
  | c + 1, z :: C, p :: P, hc, hP, i, q, x, y, hi, hq, h, hw, hC => by
    obtain ⟨c1, c2⟩ := List.pairwise_cons.1 hC
    obtain ⟨p1, p2⟩ := List.pairwise_cons.1 hP
    unfold splitI at h ⊢
    by_cases hz : z.w ≤ p.w
    · rw [if_pos hz] at h ⊢
      cases i with
      | zero => omega
      | succ i =>
        have := splitI_ahead c C (p :: P) (by simp at hc ⊢; omega) hP i q x y (by simpa using hi) hq (by omega) hw c2
        omega
    · rw [if_neg hz] at h ⊢
      cases q with
      | zero =>
        have hy : p = y := by simpa using hq
        subst hy
        exfalso
        have hxz : z.w ≤ x.w := by
          have hm := List.mem_of_getElem? hi
          rcases List.mem_cons.1 hm with rfl | hm
          · omega
          · exact c1 x hm
        omega
      | succ q => exact splitI_ahead c (z :: C) P (by simp at hc ⊢; omega) p2 i q x y hi (by simpa using hq) (by omega) hw hC

/-! ### no other choice costs less -/
/-- of coins at k + 1 levels, s j of them at level j, j coins of level 0 are as wide as one of level 1 and so on: how wide they are -/
def wideI (s : Nat → Nat) : Nat → Nat
  | 0 => s 0
  | k + 1 => s (k + 1) * 2 ^ (k + 1) + wideI s k
def costI (C : List Itm) (s : Nat → Nat) : Nat → Nat
  | 0 => sumI (·.w) (C.take (s 0))
  | k + 1 => sumI (·.w) (C.take (s (k + 1))) + costI C s k
theorem lower_bound (C : List Itm) (hC : SortI C) (s : Nat → Nat) (hs : ∀ j, s j ≤ C.length) : ∀ k c, c * 2 ^ k ≤ wideI s k → c ≤ (lvI C k).length ∧ sumI (·.w) ((lvI C k).take c) ≤ costI C s k
  | 0, c, h => by
    have h : c ≤ s 0 := by simpa [wideI] using h
    exact ⟨Nat.le_trans h (hs 0), sumI_take_le _ _ _ _ h⟩
  | k + 1, c, h => by
    have hw := twoI
    have hadd : ∀ a b : Itm, (twoI a b).w = a.w + b.w := fun _ _ => rfl
    by_cases hc : c ≤ s (k + 1)
    · refine ⟨by rw [lvI_len]; have := hs (k + 1); omega, ?_⟩
      rw [lvI_mrg C hC]
      have h1 := splitI_best c C (pairsI (lvI C k)) hC (pairsI_sort _ (lvI_sort C hC k)) c 0 (by omega) (Nat.le_trans hc (hs _)) (by omega)
      have h2 := sumI_take_le (·.w) C c (s (k + 1)) hc
      simp only [List.take_zero, sumI_nil] at h1
      simp only [costI]; omega
    · have hwd : 2 * (c - s (k + 1)) * 2 ^ k ≤ wideI s k := by
        simp only [wideI] at h
        have e : c * 2 ^ (k + 1) = s (k + 1) * 2 ^ (k + 1) + (c - s (k + 1)) * 2 ^ (k + 1) := by rw [← Nat.add_mul]; congr 1; omega
        have e2 : (c - s (k + 1)) * 2 ^ (k + 1) = 2 * (c - s (k + 1)) * 2 ^ k := by rw [Nat.pow_succ, Nat.mul_comm 2 (c - s (k + 1)), Nat.mul_assoc, Nat.mul_comm (2 ^ k) 2]
        rw [e, e2] at h
        exact Nat.le_of_add_le_add_left h
      obtain ⟨h1, h2⟩ := lower_bound C hC s hs k _ hwd
      have hq : c - s (k + 1) ≤ (pairsI (lvI C k)).length := by rw [pairsI_len]; omega
      refine ⟨by rw [lvI_len]; have := hs (k + 1); rw [pairsI_len] at hq; omega, ?_⟩
      rw [lvI_mrg C hC]
      have h3 := splitI_best c C (pairsI (lvI C k)) hC (pairsI_sort _ (lvI_sort C hC k)) (s (k + 1)) (c - s (k + 1)) (by omega) (hs _) hq
      rw [pairsI_sum (fun x => x.w) hadd _ _ h1] at h3
      simp only [costI]; omega
/-- any coins of a list cost as much as the first ones -/
theorem some_coins (b : Itm → Bool) : ∀ C : List Itm, SortI C → sumI (·.w) (C.take (C.countP b)) ≤ sumI (fun x => if b x then x.w else 0) C
  | [], _ => by simp [sumI]
  | x :: C, h => by
    obtain ⟨h1, h2⟩ := List.pairwise_cons.1 h
    have ih := some_coins b C h2
    rw [sumI_cons, List.countP_cons]
    by_cases hb : b x = true
    · rw [if_pos hb, if_pos hb, List.take_succ_cons, sumI_cons]; omega
    · rw [if_neg hb, if_neg hb, Nat.add_zero, Nat.zero_add]
      refine Nat.le_trans ?_ ih
      have hle : C.countP b ≤ C.length := List.countP_le_length
      generalize C.countP b = n at *
      cases n with
      | zero => simp [sumI]
      | succ n =>
        rw [List.take_succ_cons, sumI_cons, sumI_take_succ _ _ n hle]
        have := h1 _ (List.getElem_mem hle)
        omega

/-! ### the first of a list, level by level -/
/-- how many coins of each level are among the first c of list k -/
def levI (C : List Itm) : Nat → Nat → List Nat
  | 0, c => [c]
  | k + 1, c => splitI C (pairsI (lvI C k)) c :: levI C k (2 * (c - splitI C (pairsI (lvI C k)) c))
theorem levI_len (C : List Itm) : ∀ k c, (levI C k c).length = k + 1
  | 0, _ => rfl
  | k + 1, c => by simp [levI, levI_len C k]
theorem levI_room (C : List Itm) (k c : Nat) (hc : c ≤ (lvI C (k + 1)).length) : 2 * (c - splitI C (pairsI (lvI C k)) c) ≤ (lvI C k).length := by
  rw [lvI_len] at hc
  have := splitI_rest c C (pairsI (lvI C k)) (by rw [pairsI_len]; exact hc)
  rw [pairsI_len] at this; omega
theorem levI_sum (C : List Itm) (hC : SortI C) (f : Itm → Nat) (hf : ∀ a b, f (twoI a b) = f a + f b) : ∀ k c, c ≤ (lvI C k).length → sumI f ((lvI C k).take c) = ((levI C k c).map fun a => sumI f (C.take a)).sum
  | 0, c, _ => by simp [levI, lvI]
  | k + 1, c, hc => by
    have hr := levI_room C k c hc
    rw [lvI_mrg C hC, splitI_sum, pairsI_sum f hf _ _ hr, levI_sum C hC f hf k _ hr]
    simp [levI]
theorem levI_le (C : List Itm) : ∀ k c, c ≤ (lvI C k).length → ∀ a ∈ levI C k c, a ≤ C.length
  | 0, c, hc, a, ha => by simp only [levI, List.mem_singleton] at ha; subst ha; exact hc
  | k + 1, c, hc, a, ha => by
    simp only [levI, List.mem_cons] at ha
    rcases ha with rfl | ha
    · exact (splitI_le _ _ _).2
    · exact levI_le C k _ (levI_room C k c hc) a ha
/-- how wide: of 2^k, 2^(k-1) .. 1 -/
def wideL : List Nat → Nat
  | [] => 0
  | a :: l => a * 2 ^ l.length + wideL l
theorem levI_wide (C : List Itm) : ∀ k c, c ≤ (lvI C k).length → wideL (levI C k c) = c * 2 ^ k
  | 0, c, _ => by simp [levI, wideL]
  | k + 1, c, hc => by
    have hr := levI_room C k c hc
    have hle := (splitI_le c C (pairsI (lvI C k))).1
    simp only [levI, wideL, levI_len, levI_wide C k _ hr]
    generalize splitI C (pairsI (lvI C k)) c = a at *
    have e : 2 * (c - a) * 2 ^ k = (c - a) * 2 ^ (k + 1) := by rw [Nat.pow_succ, Nat.mul_comm 2 (c - a), Nat.mul_assoc, Nat.mul_comm (2 ^ k) 2]
    rw [e, ← Nat.add_mul]
    congr 1
    omega
theorem pairs_pos : ∀ l : List Itm, (∀ x ∈ l, 0 < x.w) → ∀ x ∈ pairsI l, 0 < x.w
  | [], _, x, hx => by simp [pairsI] at hx
  | [_], _, x, hx => by simp [pairsI] at hx
  | a :: b :: r, hl, x, hx => by
    simp only [pairsI, List.mem_cons] at hx
    rcases hx with rfl | hx
    · have := hl a (by simp); simp only [twoI]; omega
    · exact pairs_pos r (fun y hy => hl y (by simp [hy])) x hx
theorem foldI_mem (x : Itm) : ∀ (P D : List Itm), x ∈ P.foldl (fun out p => insI p out) D → x ∈ P ∨ x ∈ D
  | [], D, h => .inr h
  | p :: P, D, h => by
    rcases foldI_mem x P _ h with h | h
    · exact .inl (by simp [h])
    · rcases (insI_mem p D x).1 h with rfl | h
      · exact .inl (by simp)
      · exact .inr h
theorem lvI_pos (C : List Itm) (hpos : ∀ x ∈ C, 0 < x.w) : ∀ k, ∀ x ∈ lvI C k, 0 < x.w
  | 0, x, hx => hpos x hx
  | k + 1, x, hx => by
    rcases foldI_mem x _ _ (show x ∈ (pairsI (lvI C k)).foldl (fun out p => insI p out) C from hx) with h | h
    · exact pairs_pos _ (lvI_pos C hpos k) x h
    · exact hpos x h
theorem splitI_mem : ∀ (c : Nat) (C P : List Itm) (i : Nat) (x : Itm), i < splitI C P c → C[i]? = some x → x ∈ (mrgI C P).take c
  | 0, C, P, i, x, h, _ => by simp [splitI] at h
  | c + 1, [], P, i, x, h, _ => by simp [splitI] at h
  | c + 1, z :: C, [], i, x, h, hi => by
    rw [mrgI_nil_right, List.take_succ_cons]
    cases i with
    | zero => simp at hi; simp [hi]
    | succ i =>
      have := splitI_mem c C [] i x (by simp only [splitI] at h; omega) (by simpa using hi)
      rw [mrgI_nil_right] at this
      exact List.mem_cons_of_mem _ this
  | c + 1, z :: C, p :: P, i, x, h, hi => by
    unfold splitI at h
    rw [mrgI_cons]
    by_cases hz : z.w ≤ p.w
    · rw [if_pos hz] at h ⊢
      rw [List.take_succ_cons]
      cases i with
      | zero => simp at hi; simp [hi]
      | succ i => exact List.mem_cons_of_mem _ (splitI_mem c C (p :: P) i x (by omega) (by simpa using hi))
    · rw [if_neg hz] at h ⊢
      rw [List.take_succ_cons]
      exact List.mem_cons_of_mem _ (splitI_mem c (z :: C) P i x h hi)
theorem sort_last (l : List Itm) (h : SortI l) (c : Nat) (x y : Itm) (hx : x ∈ l.take (c + 1)) (hy : l[c]? = some y) : x.w ≤ y.w := by
  obtain ⟨j, hj, rfl⟩ := List.mem_take_iff_getElem.1 hx
  obtain ⟨hc, rfl⟩ := List.getElem?_eq_some_iff.1 hy
  rcases Nat.lt_or_ge j c with hlt | hge
  · exact List.pairwise_iff_getElem.1 h j c _ _ hlt
  · have : j = c := by omega
    subst this; exact Nat.le_refl _
/-- a coin among the first of list k does not count more than the last of these -/
theorem levI_head (C : List Itm) (hC : SortI C) (k c : Nat) (hc : c + 1 ≤ (lvI C k).length) (y x : Itm) (hy : (lvI C k)[c]? = some y) (i : Nat) (hx : C[i]? = some x) (b : Nat) (l : List Nat) (hl : levI C k (c + 1) = b :: l) (hi : i < b) : x.w ≤ y.w := by
  cases k with
  | zero =>
    simp only [levI, List.cons.injEq] at hl
    obtain ⟨rfl, _⟩ := hl
    refine sort_last C hC c x y ?_ hy
    obtain ⟨h1, rfl⟩ := List.getElem?_eq_some_iff.1 hx
    exact List.mem_take_iff_getElem.2 ⟨i, by simp [lvI] at hc; omega, rfl⟩
  | succ k =>
    simp only [levI, List.cons.injEq] at hl
    obtain ⟨rfl, _⟩ := hl
    have hs := lvI_sort C hC (k + 1)
    have hm := splitI_mem (c + 1) C (pairsI (lvI C k)) i x hi hx
    rw [← lvI_mrg C hC] at hm
    exact sort_last _ hs c x y hm hy
/-- no fewer at a level than at the one below it -/
theorem levI_desc (C : List Itm) (hC : SortI C) (hpos : ∀ x ∈ C, 0 < x.w) : ∀ k c, c ≤ (lvI C k).length → (levI C k c).Pairwise (fun a b => b ≤ a)
  | 0, c, _ => by simp [levI]
  | k + 1, c, hc => by
    have hr := levI_room C k c hc
    have ih := levI_desc C hC hpos k _ hr
    have hsort := lvI_sort C hC k
    have hlp := lvI_pos C hpos k
    have hle := (splitI_le c C (pairsI (lvI C k))).1
    have hroom : c ≤ C.length + (pairsI (lvI C k)).length := by rw [pairsI_len, ← lvI_len]; exact hc
    have hahead := splitI_ahead c C (pairsI (lvI C k)) hroom (pairsI_sort _ hsort)
    simp only [levI]
    generalize ha : splitI C (pairsI (lvI C k)) c = a at *
    have hhead : ∀ b l, levI C k (2 * (c - a)) = b :: l → b ≤ a := by
      intro b l hl
      rcases Nat.lt_or_ge a b with hlt | hge
      · exfalso
        have hbC : b ≤ C.length := levI_le C k _ hr b (by rw [hl]; simp)
        have hpos2 : 0 < c - a := by
          rcases Nat.eq_zero_or_pos (c - a) with h0 | h0
          · rw [h0] at hl
            have hz : ∀ k, ∀ z ∈ levI C k 0, z = 0 := by
              intro k
              induction k with
              | zero => intro z hz; simpa [levI] using hz
              | succ k ihk =>
                intro z hz
                simp only [levI, splitI, List.mem_cons] at hz
                rcases hz with rfl | hz
                · rfl
                · exact ihk z (by simpa using hz)
            have := hz k b (by rw [Nat.mul_zero] at hl; rw [hl]; simp)
            omega
          · exact h0
        obtain ⟨u, v, h1, h2, h3⟩ := pairsI_at (lvI C k) (c - a - 1) (by omega)
        have hx : C[a]? = some C[a] := List.getElem?_eq_getElem (by omega)
        have e1 : 2 * (c - a - 1) + 1 + 1 = 2 * (c - a) := by omega
        have hxv := levI_head C hC k (2 * (c - a - 1) + 1) (by omega) v _ h2 a hx b l (by rw [e1]; exact hl) hlt
        have hup := hlp u (List.mem_of_getElem? h1)
        have := hahead a (c - a - 1) _ _ hx h3 (by omega) (by simp only [twoI]; omega) hC
        omega
      · exact hge
    refine List.pairwise_cons.2 ⟨fun z hz => ?_, ih⟩
    cases hlv : levI C k (2 * (c - a)) with
    | nil => have := levI_len C k (2 * (c - a)); rw [hlv] at this; simp at this
    | cons b l =>
      rw [hlv] at hz ih
      have hb := hhead b l hlv
      rcases List.mem_cons.1 hz with rfl | hz
      · exact hb
      · have := (List.pairwise_cons.1 ih).1 z hz; omega
end Go.Proofs.Ytklfoafbgniogaa
