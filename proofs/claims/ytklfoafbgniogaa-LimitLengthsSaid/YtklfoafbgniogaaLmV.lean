/-
  The document's own answers for layer 10 (hamperref10): Coins.
-/
import Derived.Test.YtklfoafbgniogaaLmU
namespace Go.Proofs.Ytklfoafbgniogaa
open Go.RowKit Go.Deep
set_option linter.unusedVariables false
set_option linter.unusedSimpArgs false
set_option maxRecDepth 100000

/-! ### the maths: chosen one by one, the coins are those that were laid in -/
def idxI (x : Itm) : Nat := x.ms.headD 0
def lexI (a b : Itm) : Prop := a.w < b.w ∨ (a.w = b.w ∧ idxI a < idxI b)
theorem insI_pair (R : Itm → Itm → Prop) (p : Itm) : ∀ l : List Itm, l.Pairwise R → (∀ y ∈ l, y.w ≤ p.w → R y p) → (∀ y ∈ l, p.w < y.w → R p y) → SortI l → (insI p l).Pairwise R
  | [], _, _, _, _ => by simp [insI]
  | x :: l, h, h1, h2, hs => by
    have hp := List.pairwise_cons.1 h
    have hsc := List.pairwise_cons.1 hs
    unfold insI
    split
    · rename_i hx
      refine List.pairwise_cons.2 ⟨fun y hy => ?_, insI_pair R p l hp.2 (fun y hy => h1 y (List.mem_cons_of_mem _ hy)) (fun y hy => h2 y (List.mem_cons_of_mem _ hy)) hsc.2⟩
      rcases (insI_mem p l y).1 hy with rfl | hy
      · exact h1 x List.mem_cons_self hx
      · exact hp.1 y hy
    · rename_i hx
      refine List.pairwise_cons.2 ⟨fun y hy => ?_, h⟩
      refine h2 y hy ?_
      rcases List.mem_cons.1 hy with rfl | hy
      · omega
      · have := hsc.1 y hy; omega
theorem coinsTo_lex (cs : List Nat) : ∀ k, (coinsTo cs k).Pairwise lexI
  | 0 => by simp [coinsTo]
  | k + 1 => by
    unfold coinsTo
    split
    · exact coinsTo_lex cs k
    · refine insI_pair lexI _ _ (coinsTo_lex cs k) (fun y hy hle => ?_) (fun y hy hlt => .inl hlt) (coinsTo_sort cs k)
      obtain ⟨i, hi, _, rfl⟩ := (coinsTo_mem cs y k).1 hy
      rcases Nat.lt_or_ge (coinI cs i).w (coinI cs k).w with h | h
      · exact .inl h
      · exact .inr ⟨by omega, by simpa [idxI, coinI] using hi⟩
/-- those that were chosen -/
def doneB (cs : List Nat) (k i : Nat) : Bool := ((coinsL cs).take k).any fun x => idxI x == i
def condB (cs : List Nat) (D : Nat → Bool) (best : Option Nat) (i : Nat) : Bool := decide (0 < cs.getD i 0) && !D i && (match best with | none => true | some b => decide (cs.getD i 0 < cs.getD b 0))
def bestTo (cs : List Nat) (D : Nat → Bool) : Nat → Option Nat
  | 0 => none
  | i + 1 => if condB cs D (bestTo cs D i) i = true then some i else bestTo cs D i
def candB (cs : List Nat) (D : Nat → Bool) (i : Nat) : Prop := 0 < cs.getD i 0 ∧ D i = false
theorem bestTo_spec (cs : List Nat) (D : Nat → Bool) : ∀ i, (bestTo cs D i = none → ∀ j, j < i → ¬ candB cs D j) ∧ (∀ b, bestTo cs D i = some b → b < i ∧ candB cs D b ∧ ∀ j, j < i → candB cs D j → cs.getD b 0 ≤ cs.getD j 0 ∧ (cs.getD b 0 = cs.getD j 0 → b ≤ j))
  | 0 => ⟨fun _ j hj => by omega, fun b hb => by simp [bestTo] at hb⟩
  | i + 1 => by
    obtain ⟨h1, h2⟩ := bestTo_spec cs D i
    unfold bestTo
    by_cases hc : condB cs D (bestTo cs D i) i = true
    · rw [if_pos hc]
      refine ⟨fun h => (by cases h), fun b hb => ?_⟩
      injection hb with hb
      subst hb
      unfold condB at hc
      simp only [Bool.and_eq_true, decide_eq_true_eq, Bool.not_eq_true'] at hc
      obtain ⟨⟨hc1, hc2⟩, hc3⟩ := hc
      refine ⟨by omega, ⟨hc1, hc2⟩, fun j hj hcj => ?_⟩
      rcases Nat.lt_or_ge j i with hji | hji
      · cases hbt : bestTo cs D i with
        | none => exact absurd hcj (h1 hbt j hji)
        | some b =>
          rw [hbt] at hc3
          have hc3 : cs.getD i 0 < cs.getD b 0 := by simpa using hc3
          have := (h2 b hbt).2.2 j hji hcj
          exact ⟨by omega, fun h => by omega⟩
      · have : j = i := by omega
        subst this
        exact ⟨Nat.le_refl _, fun _ => Nat.le_refl _⟩
    · rw [if_neg hc]
      refine ⟨fun h j hj hcj => ?_, fun b hb => ?_⟩
      · rcases Nat.lt_or_ge j i with hji | hji
        · exact h1 h j hji hcj
        · have : j = i := by omega
          subst this
          refine hc ?_
          unfold condB
          rw [h, hcj.2, decide_eq_true hcj.1]; rfl
      · obtain ⟨b1, b2, b3⟩ := h2 b hb
        refine ⟨by omega, b2, fun j hj hcj => ?_⟩
        rcases Nat.lt_or_ge j i with hji | hji
        · exact b3 j hji hcj
        · have hji : j = i := by omega
          subst hji
          have : ¬ cs.getD j 0 < cs.getD b 0 := fun hlt => hc (by
            unfold condB
            rw [hb, hcj.2]
            simp only [decide_eq_true hcj.1, decide_eq_true hlt]; rfl)
          exact ⟨by omega, fun h => by omega⟩
theorem done_iff (cs : List Nat) (k i : Nat) (hi : i < cs.length) (h0 : 0 < cs.getD i 0) : doneB cs k i = true ↔ coinI cs i ∈ (coinsL cs).take k := by
  unfold doneB
  rw [List.any_eq_true]
  constructor
  · rintro ⟨x, hx, hi2⟩
    obtain ⟨j, _, _, rfl⟩ := (coinsTo_mem cs x cs.length).1 (List.mem_of_mem_take hx)
    have : j = i := by simpa [idxI, coinI] using hi2
    subst this; exact hx
  · intro h
    exact ⟨_, h, by simp [idxI, coinI]⟩
/-- what is chosen is the next one -/
theorem best_next (cs : List Nat) (k : Nat) : (bestTo cs (doneB cs k) cs.length = none → (coinsL cs).length ≤ k) ∧
    (∀ b, bestTo cs (doneB cs k) cs.length = some b → (coinsL cs)[k]? = some (coinI cs b) ∧ b < cs.length) := by
  obtain ⟨h1, h2⟩ := bestTo_spec cs (doneB cs k) cs.length
  have hnd : ((coinsL cs).map fun x => x.ms.headD 0).Nodup := coinsTo_nodup cs cs.length
  have hlex : (coinsL cs).Pairwise lexI := coinsTo_lex cs cs.length
  have hhead : ∀ (hk : k < (coinsL cs).length), ∃ i, i < cs.length ∧ (coinsL cs)[k] = coinI cs i ∧ candB cs (doneB cs k) i := by
    intro hk
    obtain ⟨i, hi, h0, he⟩ := (coinsTo_mem cs ((coinsL cs)[k]) cs.length).1 (List.getElem_mem hk)
    refine ⟨i, hi, he, by omega, ?_⟩
    cases hd : doneB cs k i with
    | false => rfl
    | true =>
      exfalso
      have hm := (done_iff cs k i hi (by omega)).1 hd
      obtain ⟨j, hj, hje⟩ := List.mem_iff_getElem.1 hm
      rw [List.getElem_take] at hje
      rw [List.length_take] at hj
      have hjl : j < (coinsL cs).length := by omega
      have e : ((coinsL cs).map fun x => x.ms.headD 0)[j]'(by rw [List.length_map]; exact hjl) = ((coinsL cs).map fun x => x.ms.headD 0)[k]'(by rw [List.length_map]; exact hk) := by
        rw [List.getElem_map, List.getElem_map, hje, he]
      have := (List.getElem_inj hnd).1 e
      omega
  constructor
  · intro hn
    rcases Nat.lt_or_ge k (coinsL cs).length with hk | hk
    · obtain ⟨i, hi, _, hc⟩ := hhead hk
      exact absurd hc (h1 hn i hi)
    · exact hk
  · intro b hb
    obtain ⟨hbl, hbc, hbm⟩ := h2 b hb
    have hmem := coinsL_mem cs b hbl (by have := hbc.1; omega)
    have hnt : ¬ coinI cs b ∈ (coinsL cs).take k := fun h => by
      have := (done_iff cs k b hbl hbc.1).2 h
      rw [hbc.2] at this; cases this
    obtain ⟨j, hj, hje⟩ := List.mem_iff_getElem.1 hmem
    have hjk : k ≤ j := by
      rcases Nat.lt_or_ge j k with h | h
      · exact absurd (List.mem_iff_getElem.2 ⟨j, by rw [List.length_take]; omega, by rw [List.getElem_take]; exact hje⟩) hnt
      · exact h
    have hk : k < (coinsL cs).length := by omega
    obtain ⟨i, hi, hie, hic⟩ := hhead hk
    have hmin := hbm i hi hic
    refine ⟨?_, hbl⟩
    rw [List.getElem?_eq_getElem hk, hie]
    rcases Nat.lt_or_ge k j with hlt | hge
    · have := List.pairwise_iff_getElem.1 hlex k j hk hj hlt
      rw [hie, hje] at this
      unfold lexI at this
      simp only [coinI, idxI, List.headD_cons] at this
      exfalso
      have h3 := hmin.1
      have h4 := hmin.2
      rcases this with h | ⟨h, h'⟩
      · omega
      · have := h4 h.symm; omega
    · have hjk2 : j = k := by omega
      subst hjk2
      rw [← hie, hje]
theorem done_succ (cs : List Nat) (k b i : Nat) (h : (coinsL cs)[k]? = some (coinI cs b)) : doneB cs (k + 1) i = (doneB cs k i || (b == i)) := by
  unfold doneB
  rw [List.take_add_one, h, List.any_append]
  simp [idxI, coinI]
theorem times_coin (N : Nat) (cs : List Nat) (b : Nat) (hb : b < N) : (List.replicate N (0 : Int)).set b 1 = timesL N (coinI cs b) := by
  apply List.ext_getElem (by simp [timesL])
  intro s h1 h2
  rw [List.getElem_set, List.getElem_replicate]
  simp only [timesL, List.getElem_map, List.getElem_range, coinI]
  by_cases h : b = s
  · subst h; rw [if_pos rfl]; simp
  · rw [if_neg h, List.count_eq_zero.2 (by simpa using fun hh => h hh.symm)]; rfl
end Go.Proofs.Ytklfoafbgniogaa
