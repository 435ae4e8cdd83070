/-
  The document's own answers for layer 10 (hamperref10): Lengths.
-/
import Derived.Test.YtklfoafbgniogaaLmW
namespace Go.Proofs.Ytklfoafbgniogaa
open Go.RowKit Go.Deep
set_option linter.unusedVariables false
set_option linter.unusedSimpArgs false
set_option maxRecDepth 100000

/-! ### the maths: bounds, and the lengths as the loops sum them -/
theorem sumI_mem (f : Itm → Nat) : ∀ (l : List Itm) (x : Itm), x ∈ l → f x ≤ sumI f l
  | y :: l, x, h => by
    rw [sumI_cons]
    rcases List.mem_cons.1 h with rfl | h
    · omega
    · have := sumI_mem f l x h; omega
theorem sumI_pairs (f : Itm → Nat) (hf : ∀ a b, f (twoI a b) = f a + f b) : ∀ l : List Itm, sumI f (pairsI l) ≤ sumI f l
  | [] => by simp [pairsI, sumI]
  | [a] => by simp [pairsI, sumI]
  | a :: b :: r => by
    have := sumI_pairs f hf r
    simp only [pairsI, sumI_cons, hf]; omega
theorem sumI_fold (f : Itm → Nat) : ∀ (P C : List Itm), sumI f (P.foldl (fun out p => insI p out) C) = sumI f P + sumI f C
  | [], C => by simp [sumI]
  | p :: P, C => by rw [List.foldl_cons, sumI_fold f P, sumI_ins, sumI_cons]; omega
theorem lvI_sum (f : Itm → Nat) (hf : ∀ a b, f (twoI a b) = f a + f b) (C : List Itm) : ∀ k, sumI f (lvI C k) ≤ (k + 1) * sumI f C
  | 0 => by simp [lvI]
  | k + 1 => by
    have h1 := lvI_sum f hf C k
    have h2 := sumI_pairs f hf (lvI C k)
    simp only [lvI, mergedI, sumI_fold]
    rw [Nat.add_mul, Nat.one_mul]; omega
theorem sumI_le (f : Itm → Nat) (B : Nat) : ∀ l : List Itm, (∀ x ∈ l, f x ≤ B) → sumI f l ≤ l.length * B
  | [], _ => by simp [sumI]
  | x :: l, h => by
    have h1 := sumI_le f B l fun y hy => h y (List.mem_cons_of_mem _ hy)
    have h2 := h x List.mem_cons_self
    rw [sumI_cons, List.length_cons, Nat.add_mul]; omega
/-- whatever was put together of coins stays small -/
theorem lvI_small (cs : List Nat) (n : Nat) (hn : cs.length ≤ n) (h : ∀ i, i < cs.length → cs.getD i 0 ≤ 2147483647) (hl : (coinsL cs).length ≤ n) (k : Nat) (x : Itm) (hx : x ∈ lvI (coinsL cs) k) :
    x.w ≤ (k + 1) * (n * 2147483647) ∧ x.ms.length ≤ (k + 1) * n := by
  have h1 := lvI_sum (·.w) (fun _ _ => rfl) (coinsL cs) k
  have h2 := lvI_sum (fun x => x.ms.length) (fun a b => by simp [twoI]) (coinsL cs) k
  have h3 := sumI_mem (·.w) _ x hx
  have h4 := sumI_mem (fun x => x.ms.length) _ x hx
  have h5 := sumI_le (·.w) 2147483647 (coinsL cs) fun y hy => by
    obtain ⟨i, hi, _, rfl⟩ := (coinsTo_mem cs y cs.length).1 hy
    exact h i hi
  have h6 := sumI_le (fun x => x.ms.length) 1 (coinsL cs) fun y hy => by
    obtain ⟨i, hi, _, rfl⟩ := (coinsTo_mem cs y cs.length).1 hy
    simp [coinI]
  have h7 := Nat.mul_le_mul_right 2147483647 hl
  have h8 := Nat.mul_le_mul_left (k + 1) (Nat.le_trans h5 h7)
  have h9 := Nat.mul_le_mul_left (k + 1) (show sumI (fun x => x.ms.length) (coinsL cs) ≤ n by omega)
  exact ⟨Nat.le_trans h3 (Nat.le_trans h1 h8), Nat.le_trans h4 (Nat.le_trans h2 h9)⟩
/-- the sums, t items taken whole, of the next one the first j symbols -/
def rowS (n : Nat) (X : List Itm) (t j : Nat) : List Int := (List.range n).map fun s => ((sumI (fun p => p.ms.count s) (X.take (if s < j then t + 1 else t)) : Nat) : Int)
theorem rowS_len (n : Nat) (X : List Itm) (t j : Nat) : (rowS n X t j).length = n := by simp [rowS]
theorem rowS_zero (n : Nat) (X : List Itm) : rowS n X 0 0 = List.replicate n 0 := by
  apply List.ext_getElem (by simp [rowS])
  intro s h1 h2
  simp [rowS, sumI]
theorem rowS_next (n : Nat) (X : List Itm) (t : Nat) : rowS n X t n = rowS n X (t + 1) 0 := by
  apply List.ext_getElem (by simp [rowS])
  intro s h1 h2
  have hs : s < n := by rw [rowS_len] at h1; exact h1
  simp only [rowS, List.getElem_map, List.getElem_range]
  rw [if_pos hs, if_neg (by omega)]
theorem rowS_at (n : Nat) (X : List Itm) (t j : Nat) (hj : j < n) : (rowS n X t j).getD j 0 = ((sumI (fun p => p.ms.count j) (X.take t) : Nat) : Int) := by
  unfold rowS
  rw [List.getD, List.getElem?_map, List.getElem?_range hj]
  simp
theorem rowS_set (n : Nat) (X : List Itm) (t j : Nat) (x : Itm) (hx : X[t]? = some x) (hj : j < n) :
    (rowS n X t j).set j ((rowS n X t j).getD j 0 + (x.ms.count j : Int)) = rowS n X t (j + 1) := by
  have hv := rowS_at n X t j hj
  generalize (rowS n X t j).getD j 0 = v at *
  apply List.ext_getElem (by simp [rowS])
  intro s h1 h2
  have hs : s < n := by rw [List.length_set, rowS_len] at h1; exact h1
  rw [List.getElem_set]
  by_cases h : j = s
  · subst h
    rw [if_pos rfl, hv]
    simp only [rowS, List.getElem_map, List.getElem_range]
    rw [if_pos (by omega), List.take_add_one, hx, Option.toList_some, sumI_app]
    simp [sumI]
  · rw [if_neg h]
    simp only [rowS, List.getElem_map, List.getElem_range]
    by_cases h3 : s < j
    · rw [if_pos h3, if_pos (by omega)]
    · rw [if_neg h3, if_neg (by omega)]
theorem rowS_small (n : Nat) (X : List Itm) (t j s : Nat) : sumI (fun p => p.ms.count s) (X.take t) ≤ sumI (fun x => x.ms.length) X := by
  have h1 : ∀ l : List Itm, sumI (fun p => p.ms.count s) l ≤ sumI (fun x => x.ms.length) l := fun l => by
    induction l with
    | nil => simp [sumI]
    | cons x l ih => simp only [sumI_cons]; have := List.count_le_length (a := s) (l := x.ms); omega
  have h2 := sumI_take_le (f := fun x => x.ms.length) X
  refine Nat.le_trans (h1 _) ?_
  rcases Nat.lt_or_ge t X.length with h | h
  · have := h2 t X.length (by omega); rwa [List.take_length] at this
  · rw [List.take_of_length_le h]; exact Nat.le_refl _
theorem rowS_lens (cs : List Nat) (m : Nat) (h2 : 2 ≤ (coinsL cs).length) : rowS cs.length (lvI (coinsL cs) (m - 1)) (2 * (coinsL cs).length - 2) 0 = (lengthsN cs m).map Int.ofNat := by
  unfold lengthsN
  rw [if_neg (by omega)]
  apply List.ext_getElem (by simp [rowS])
  intro s h1 h3
  simp only [rowS, List.getElem_map, List.getElem_range]
  rw [if_neg (by omega)]
  rfl
theorem lens_one (cs : List Nat) (x : Itm) (h : coinsL cs = [x]) (m : Nat) : timesL cs.length x = (lengthsN cs m).map Int.ofNat := by
  obtain ⟨i, hi, h0, rfl⟩ := (coinsTo_mem cs x cs.length).1 (by show x ∈ coinsL cs; rw [h]; exact List.mem_singleton.2 rfl)
  unfold lengthsN
  rw [if_pos (by rw [h]; simp)]
  apply List.ext_getElem (by simp [timesL])
  intro s h1 h3
  have hs : s < cs.length := by rw [timesL_len] at h1; exact h1
  simp only [timesL, List.getElem_map, List.getElem_range, coinI]
  by_cases hz : cs.getD s 0 = 0
  · rw [if_pos hz, List.count_eq_zero.2 (by simp; intro e; exact h0 (by rw [← e]; exact hz))]; rfl
  · rw [if_neg hz]
    have := coinsL_mem cs s hs hz
    rw [h, List.mem_singleton] at this
    have : s = i := by simpa [coinI, idxI] using congrArg idxI this
    subst this
    simp
theorem lens_none (cs : List Nat) (h : (coinsL cs).length = 0) (m : Nat) : List.replicate cs.length (0 : Int) = (lengthsN cs m).map Int.ofNat := by
  unfold lengthsN
  rw [if_pos (by omega)]
  apply List.ext_getElem (by simp)
  intro s h1 h3
  have hs : s < cs.length := by rw [List.length_replicate] at h1; exact h1
  simp only [List.getElem_map, List.getElem_range, List.getElem_replicate]
  by_cases hz : cs.getD s 0 = 0
  · rw [if_pos hz]; rfl
  · have := coinsL_mem cs s hs hz
    rw [List.length_eq_zero_iff.1 h] at this; cases this
def lensE (L : List Int) (m : Int) : Int := if mayK L = false ∨ m < 1 ∨ 15 < m then 1 else if 2 ^ m.toNat < (coinsL (natsK L)).length then 8 else 0
def lensL (L : List Int) (m : Int) : List Int := if lensE L m = 0 then (lengthsN (natsK L) m.toNat).map Int.ofNat else []
/-- lengths that are handed out, with an error -/
def LensTo (L : List Int) (m : Int) (w : World) (e : Ending) (w' : World) : Prop :=
  ∃ a n cap, e = .returned (.tuple #[.slice a n cap, .int .i64 (lensE L m)]) ∧ IntsAt w' a n cap (lensL L m) ∧ Below w.heap.size w w'
theorem PkAt.lt {N : Nat} {w : World} {p : PK} (h : PkAt N w p) (hN : 0 < N) : ∀ q, p.a = some q → q.block < w.heap.size := fun q hq => by
  obtain ⟨b, off, ha, hb, _⟩ := IntsAt.cell h hN
  rw [hq] at ha; injection ha with ha; rw [ha]; exact hb
end Go.Proofs.Ytklfoafbgniogaa
