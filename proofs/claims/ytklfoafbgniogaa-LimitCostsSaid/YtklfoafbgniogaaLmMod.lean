/-
  The lengths for counts: as the document says them; they are whole, and none cost less.
-/
import Derived.Test.YtklfoafbgniogaaLmBest
namespace Go.Proofs.Ytklfoafbgniogaa
set_option linter.unusedVariables false

/-- a symbol's coin -/
def coinI (cs : List Nat) (i : Nat) : Itm := ⟨cs.getD i 0, [i]⟩
def coinsTo (cs : List Nat) : Nat → List Itm
  | 0 => []
  | k + 1 => if cs.getD k 0 = 0 then coinsTo cs k else insI (coinI cs k) (coinsTo cs k)
def coinsL (cs : List Nat) : List Itm := coinsTo cs cs.length
/-- the lengths for counts, with at most m bits -/
def lengthsN (cs : List Nat) (m : Nat) : List Nat :=
  if (coinsL cs).length < 2 then (List.range cs.length).map fun i => if cs.getD i 0 = 0 then 0 else 1
  else (List.range cs.length).map fun i => lenI (coinsL cs) m i
theorem map_at (n : Nat) (f : Nat → Nat) (i : Nat) (hi : i < n) : ((List.range n).map f).getD i 0 = f i := by
  rw [List.getD, List.getElem?_map, List.getElem?_range hi]; rfl
theorem lengthsN_len (cs : List Nat) (m : Nat) : (lengthsN cs m).length = cs.length := by unfold lengthsN; split <;> simp

theorem coinsTo_mem (cs : List Nat) (x : Itm) : ∀ k, x ∈ coinsTo cs k ↔ ∃ i, i < k ∧ cs.getD i 0 ≠ 0 ∧ x = coinI cs i
  | 0 => by simp [coinsTo]
  | k + 1 => by
    unfold coinsTo
    split
    · rename_i h
      rw [coinsTo_mem cs x k]
      constructor
      · rintro ⟨i, h1, h2, h3⟩; exact ⟨i, by omega, h2, h3⟩
      · rintro ⟨i, h1, h2, h3⟩
        by_cases hi : i = k
        · subst hi; exact absurd h h2
        · exact ⟨i, by omega, h2, h3⟩
    · rename_i h
      rw [insI_mem, coinsTo_mem cs x k]
      constructor
      · rintro (rfl | ⟨i, h1, h2, h3⟩)
        · exact ⟨k, by omega, h, rfl⟩
        · exact ⟨i, by omega, h2, h3⟩
      · rintro ⟨i, h1, h2, h3⟩
        by_cases hi : i = k
        · subst hi; exact .inl h3
        · exact .inr ⟨i, by omega, h2, h3⟩
theorem coinsTo_sort (cs : List Nat) : ∀ k, SortI (coinsTo cs k)
  | 0 => List.Pairwise.nil
  | k + 1 => by
    unfold coinsTo
    split
    · exact coinsTo_sort cs k
    · exact insI_sort _ _ (coinsTo_sort cs k)
theorem coinsTo_sum (cs : List Nat) (f : Itm → Nat) : ∀ k, sumI f (coinsTo cs k) = ((List.range k).map fun i => if cs.getD i 0 = 0 then 0 else f (coinI cs i)).sum
  | 0 => rfl
  | k + 1 => by
    rw [List.range_succ, List.map_append, List.sum_append, List.map_singleton, List.sum_singleton]
    unfold coinsTo
    split
    · rename_i h; rw [coinsTo_sum cs f k]; omega
    · rename_i h; rw [sumI_ins, coinsTo_sum cs f k]; omega
theorem insI_nodup (g : Itm → Nat) (p : Itm) : ∀ l : List Itm, (l.map g).Nodup → g p ∉ l.map g → ((insI p l).map g).Nodup
  | [], _, _ => by simp [insI]
  | x :: l, h, hp => by
    rw [List.map_cons, List.nodup_cons] at h
    unfold insI
    split
    · rw [List.map_cons, List.nodup_cons]
      refine ⟨fun hm => ?_, insI_nodup g p l h.2 (fun hh => hp (by rw [List.map_cons]; exact List.mem_cons_of_mem _ hh))⟩
      obtain ⟨y, hy, he⟩ := List.mem_map.1 hm
      rcases (insI_mem p l y).1 hy with rfl | hy
      · apply hp; rw [List.map_cons, he]; simp
      · exact h.1 (by rw [← he]; exact List.mem_map_of_mem hy)
    · rw [List.map_cons, List.nodup_cons]
      exact ⟨hp, by rw [List.map_cons, List.nodup_cons]; exact h⟩
theorem coinsTo_nodup (cs : List Nat) : ∀ k, ((coinsTo cs k).map fun x => x.ms.headD 0).Nodup
  | 0 => by simp [coinsTo]
  | k + 1 => by
    unfold coinsTo
    split
    · exact coinsTo_nodup cs k
    · refine insI_nodup _ _ _ (coinsTo_nodup cs k) fun hm => ?_
      obtain ⟨y, hy, he⟩ := List.mem_map.1 hm
      obtain ⟨i, h1, _, rfl⟩ := (coinsTo_mem cs y k).1 hy
      simp [coinI] at he
      omega
theorem coinsL_ok (cs : List Nat) : CoinsOk (coinsL cs) := by
  refine ⟨coinsTo_sort cs _, fun x hx => ?_, fun x hx => ?_, coinsTo_nodup cs _⟩
  · obtain ⟨i, _, h, rfl⟩ := (coinsTo_mem cs x _).1 hx
    show 0 < cs.getD i 0; omega
  · obtain ⟨i, _, h, rfl⟩ := (coinsTo_mem cs x _).1 hx
    exact ⟨i, rfl⟩
theorem coinsL_mem (cs : List Nat) (i : Nat) (hi : i < cs.length) (h : cs.getD i 0 ≠ 0) : coinI cs i ∈ coinsL cs := (coinsTo_mem cs _ _).2 ⟨i, hi, h, rfl⟩
theorem coinsL_count (cs : List Nat) : (coinsL cs).length = ((List.range cs.length).map fun i => if cs.getD i 0 = 0 then 0 else 1).sum := by
  have := coinsTo_sum cs (fun _ => 1) cs.length
  rw [← this]
  unfold sumI coinsL
  generalize coinsTo cs cs.length = l
  induction l with
  | nil => rfl
  | cons x l ih => rw [List.map_cons, List.sum_cons, ← ih, List.length_cons]; omega

/-- a symbol that does not come has no length -/
theorem lenI_none (C : List Itm) (hC : CoinsOk C) (m s : Nat) (hr : 2 * C.length - 2 ≤ (lvI C (m - 1)).length) (h : ∀ x ∈ C, x.ms.count s = 0) : lenI C m s = 0 := by
  unfold lenI
  rw [levI_sum C hC.sort _ (fun a b => by simp [twoI]) _ _ hr]
  have hz : ∀ a, sumI (fun p : Itm => p.ms.count s) (C.take a) = 0 := fun a => by
    have : ∀ l : List Itm, (∀ x ∈ l, x.ms.count s = 0) → sumI (fun p : Itm => p.ms.count s) l = 0 := by
      intro l
      induction l with
      | nil => intro _; rfl
      | cons x l ih => intro hl; rw [sumI_cons, ih fun y hy => hl y (by simp [hy]), hl x (by simp)]
    exact this _ fun x hx => h x (List.mem_of_mem_take hx)
  rw [sum_congr _ _ (fun _ => 0) (fun a _ => hz a), sum_const]; omega

section
variable (cs : List Nat) (m : Nat) (hm : 1 ≤ m) (hN : (coinsL cs).length ≤ 2 ^ m)
include hm hN
theorem lengthsN_at (i : Nat) (hi : i < cs.length) : ((lengthsN cs m).getD i 0 = 0 ↔ cs.getD i 0 = 0) ∧ (lengthsN cs m).getD i 0 ≤ m := by
  unfold lengthsN
  by_cases h2 : (coinsL cs).length < 2
  · rw [if_pos h2]
    rw [map_at _ _ _ hi]
    by_cases h : cs.getD i 0 = 0
    · rw [if_pos h]; exact ⟨⟨fun _ => h, fun _ => rfl⟩, by omega⟩
    · rw [if_neg h]; exact ⟨⟨fun hh => by omega, fun hh => absurd hh h⟩, by omega⟩
  · rw [if_neg h2]
    have e : ((List.range cs.length).map fun i => lenI (coinsL cs) m i).getD i 0 = lenI (coinsL cs) m i := map_at _ _ _ hi
    rw [e]
    by_cases h0 : cs.getD i 0 = 0
    · have := lenI_none (coinsL cs) (coinsL_ok cs) m i (lvI_room (coinsL_ok cs) m hm hN) fun x hx => by
        obtain ⟨j, _, hj, rfl⟩ := (coinsTo_mem cs x _).1 hx
        have : i ≠ j := fun e => hj (by rw [← e]; exact h0)
        exact List.count_eq_zero.2 (by simp only [coinI, List.mem_singleton]; exact this)
      rw [this]
      exact ⟨⟨fun _ => h0, fun _ => rfl⟩, by omega⟩
    · have := (lenI_whole (coinsL_ok cs) m hm hN (by omega)).2 _ (coinsL_mem cs i hi h0)
      simp only [coinI, List.headD_cons] at this
      exact ⟨⟨fun h => by omega, fun h => absurd h h0⟩, this.2⟩
/-- two symbols at least: the lengths are complete -/
theorem lengthsN_kraft (hm15 : m ≤ 15) (h2 : 2 ≤ (coinsL cs).length) : kraft (lengthsN cs m) = 32768 := by
  have hw := (lenI_whole (coinsL_ok cs) m hm hN h2).1
  have hat := lengthsN_at cs m hm hN
  unfold coinsL at hw
  rw [coinsTo_sum] at hw
  have hk : kraft (lengthsN cs m) = ((List.range cs.length).map fun i => (if cs.getD i 0 = 0 then 0 else 2 ^ (m - lenI (coinsL cs) m i)) * 2 ^ (15 - m)).sum := by
    unfold kraft
    have hl : lengthsN cs m = (List.range cs.length).map fun i => lenI (coinsL cs) m i := by unfold lengthsN; rw [if_neg (by omega)]
    rw [hl, List.map_map]
    refine sum_congr _ _ _ fun i hi => ?_
    have hi := List.mem_range.1 hi
    have h := hat i hi
    rw [hl] at h
    rw [map_at _ _ _ hi] at h
    show (if lenI (coinsL cs) m i = 0 then 0 else 2 ^ (15 - lenI (coinsL cs) m i)) = _
    by_cases h0 : cs.getD i 0 = 0
    · rw [if_pos (h.1.2 h0), if_pos h0]; omega
    · rw [if_neg (fun hh => h0 (h.1.1 hh)), if_neg h0, ← Nat.pow_add]
      congr 1; omega
  rw [hk]
  have hmul : ∀ (l : List Nat) (f : Nat → Nat) (c : Nat), (l.map fun i => f i * c).sum = (l.map f).sum * c := by
    intro l f c
    induction l with
    | nil => simp
    | cons x l ih => simp only [List.map_cons, List.sum_cons, ih, Nat.add_mul]
  rw [hmul]
  have he : ((List.range cs.length).map fun i => if cs.getD i 0 = 0 then 0 else 2 ^ (m - lenI (coinsL cs) m i)).sum = 2 ^ m := by
    rw [← hw]
    refine sum_congr _ _ _ fun i hi => ?_
    rfl
  rw [he, ← Nat.pow_add, show m + (15 - m) = 15 by omega]
/-- NO OTHER IS BETTER -/
theorem lengthsN_best (hm15 : m ≤ 15) (os : List Nat) (hl : os.length = cs.length) (ho : ∀ i, i < cs.length → os.getD i 0 ≤ m ∧ (cs.getD i 0 ≠ 0 → 1 ≤ os.getD i 0)) (hk : kraft os ≤ 32768) :
    ((List.range cs.length).map fun i => cs.getD i 0 * (lengthsN cs m).getD i 0).sum ≤ ((List.range cs.length).map fun i => cs.getD i 0 * os.getD i 0).sum := by
  by_cases h2 : (coinsL cs).length < 2
  · have : ∀ l : List Nat, (∀ i ∈ l, i < cs.length) → (l.map fun i => cs.getD i 0 * (lengthsN cs m).getD i 0).sum ≤ (l.map fun i => cs.getD i 0 * os.getD i 0).sum := by
      intro l
      induction l with
      | nil => intro _; simp
      | cons i l ih =>
        intro hli
        have hi := hli i (by simp)
        have ih := ih fun j hj => hli j (by simp [hj])
        simp only [List.map_cons, List.sum_cons]
        have he : (lengthsN cs m).getD i 0 = if cs.getD i 0 = 0 then 0 else 1 := by
          unfold lengthsN
          rw [if_pos h2]
          rw [map_at _ _ _ hi]
        rw [he]
        by_cases h0 : cs.getD i 0 = 0
        · rw [h0]; omega
        · rw [if_neg h0]
          have := Nat.mul_le_mul_left (cs.getD i 0) ((ho i hi).2 h0)
          omega
    exact this _ fun i hi => List.mem_range.1 hi
  · have hC := coinsL_ok cs
    have hb := lenI_best hC m hm hN (fun x => os.getD (x.ms.headD 0) 0) (fun x hx => by
      obtain ⟨i, hi, h0, rfl⟩ := (coinsTo_mem cs x _).1 hx
      simp only [coinI, List.headD_cons]
      exact ⟨(ho i hi).2 h0, (ho i hi).1⟩) (by
      unfold coinsL
      rw [coinsTo_sum]
      -- of 2^15
      have hle : (((List.range cs.length).map fun i => if cs.getD i 0 = 0 then 0 else 2 ^ (m - os.getD ((coinI cs i).ms.headD 0) 0)).sum) * 2 ^ (15 - m) ≤ kraft os := by
        have hos : os = (List.range cs.length).map fun i => os.getD i 0 := by
          rw [← hl]
          apply List.ext_getElem (by simp)
          intro i h1 h2
          simp [List.getD, List.getElem?_eq_getElem h1]
        have hkr : kraft os = ((List.range cs.length).map fun i => if os.getD i 0 = 0 then 0 else 2 ^ (15 - os.getD i 0)).sum := by
          unfold kraft
          conv => lhs; rw [hos]
          rw [List.map_map]; rfl
        rw [hkr]
        have : ∀ l : List Nat, (∀ i ∈ l, i < cs.length) → (l.map fun i => if cs.getD i 0 = 0 then 0 else 2 ^ (m - os.getD ((coinI cs i).ms.headD 0) 0)).sum * 2 ^ (15 - m) ≤ (l.map fun i => if os.getD i 0 = 0 then 0 else 2 ^ (15 - os.getD i 0)).sum := by
          intro l
          induction l with
          | nil => intro _; simp
          | cons i l ih =>
            intro hli
            have hi := hli i (by simp)
            have ih := ih fun j hj => hli j (by simp [hj])
            simp only [List.map_cons, List.sum_cons, Nat.add_mul]
            have hoi := ho i hi
            by_cases h0 : cs.getD i 0 = 0
            · rw [if_pos h0]; omega
            · have h1 := hoi.2 h0
              rw [if_neg h0, if_neg (by omega)]
              rw [show (coinI cs i).ms.headD 0 = i from rfl, ← Nat.pow_add, show m - os.getD i 0 + (15 - m) = 15 - os.getD i 0 by omega]
              omega
        exact this _ fun i hi => List.mem_range.1 hi
      have hp : (2 : Nat) ^ m * 2 ^ (15 - m) = 32768 := by rw [← Nat.pow_add, show m + (15 - m) = 15 by omega]
      have hlt : 0 < (2 : Nat) ^ (15 - m) := Nat.pow_pos (by omega)
      refine Nat.le_of_mul_le_mul_right (c := 2 ^ (15 - m)) ?_ hlt
      rw [hp]
      exact Nat.le_trans hle hk)
    unfold coinsL at hb
    rw [coinsTo_sum, coinsTo_sum] at hb
    have e1 : ((List.range cs.length).map fun i => cs.getD i 0 * (lengthsN cs m).getD i 0).sum = ((List.range cs.length).map fun i => if cs.getD i 0 = 0 then 0 else (coinI cs i).w * lenI (coinsTo cs cs.length) m ((coinI cs i).ms.headD 0)).sum := by
      refine sum_congr _ _ _ fun i hi => ?_
      have hi := List.mem_range.1 hi
      have he : (lengthsN cs m).getD i 0 = lenI (coinsL cs) m i := by
        unfold lengthsN
        rw [if_neg h2]
        rw [map_at _ _ _ hi]
      rw [he]
      by_cases h0 : cs.getD i 0 = 0
      · rw [if_pos h0, h0]; omega
      · rw [if_neg h0]; rfl
    have e2 : ((List.range cs.length).map fun i => cs.getD i 0 * os.getD i 0).sum = ((List.range cs.length).map fun i => if cs.getD i 0 = 0 then 0 else (coinI cs i).w * os.getD ((coinI cs i).ms.headD 0) 0).sum := by
      refine sum_congr _ _ _ fun i hi => ?_
      by_cases h0 : cs.getD i 0 = 0
      · rw [if_pos h0, h0]; omega
      · rw [if_neg h0]; rfl
    rw [e1, e2]
    exact hb
end
end Go.Proofs.Ytklfoafbgniogaa
