/-
  The unused pages: lists; a mark of pages, and taken back.
-/
import Derived.Test.YtcmhijhoemcdcaaSpMath
namespace Go.Proofs.Ytcmhijhoemcdcaa
set_option linter.unusedSimpArgs false

def freeB (F : List Bool) (i : Nat) : List Nat := (List.range i).filter fun p => !F.getD p false
def frees (F : List Bool) : List Nat := freeB F F.length
def markF (F : List Bool) (P : List Nat) : List Bool := P.foldl (fun G p => G.set p true) F
def clearF (F : List Bool) (P : List Nat) : List Bool := P.foldl (fun G p => G.set p false) F
def flipF (F : List Bool) (P : List Nat) : List Bool := P.foldl (fun G p => G.set p (!G.getD p false)) F

theorem freeB_succ (F : List Bool) (i : Nat) : freeB F (i + 1) = freeB F i ++ (if F.getD i false then [] else [i]) := by
  unfold freeB
  rw [List.range_succ, List.filter_append]
  rw [List.filter_cons, List.filter_nil]
  cases F.getD i false <;> rfl
theorem freeB_len (F : List Bool) (i : Nat) : (freeB F i).length ≤ i := by
  have := List.length_filter_le (fun p => !F.getD p false) (List.range i)
  simpa [freeB] using this
theorem freeB_prefix (F : List Bool) {i j : Nat} (h : i ≤ j) : freeB F i <+: freeB F j := by
  unfold freeB
  apply List.IsPrefix.filter
  rw [show j = i + (j - i) by omega, List.range_add]
  exact List.prefix_append _ _
theorem freeB_count (F : List Bool) : ∀ i, i ≤ F.length → (freeB F i).length + (F.take i).count true = i
  | 0, _ => by simp [freeB]
  | i + 1, h => by
    have ih := freeB_count F i (by omega)
    rw [freeB_succ, List.take_succ_eq_append_getElem (by omega), List.count_append, List.length_append]
    have hx : F.getD i false = F[i] := by rw [List.getD, List.getElem?_eq_getElem (by omega)]; rfl
    rw [hx]
    cases F[i] <;> simp <;> omega
theorem frees_count (F : List Bool) : (frees F).length + F.count true = F.length := by
  have := freeB_count F F.length (Nat.le_refl _)
  rwa [List.take_length] at this
theorem frees_mem (F : List Bool) (p : Nat) : p ∈ frees F ↔ p < F.length ∧ F.getD p false = false := by
  simp [frees, freeB]
theorem frees_nodup (F : List Bool) : (frees F).Nodup := List.Pairwise.filter _ List.nodup_range
theorem frees_sorted (F : List Bool) : (frees F).Pairwise (· < ·) := List.Pairwise.filter _ List.pairwise_lt_range

theorem markF_len (P : List Nat) : ∀ F : List Bool, (markF F P).length = F.length := by
  induction P with
  | nil => intro F; rfl
  | cons p P ih => intro F; show (markF (F.set p true) P).length = _; rw [ih, List.length_set]
theorem clearF_len (P : List Nat) : ∀ F : List Bool, (clearF F P).length = F.length := by
  induction P with
  | nil => intro F; rfl
  | cons p P ih => intro F; show (clearF (F.set p false) P).length = _; rw [ih, List.length_set]
theorem set_getD (F : List Bool) (p q : Nat) (b : Bool) : (F.set p b).getD q false = if p = q ∧ q < F.length then b else F.getD q false := by
  by_cases h : p = q
  · subst h
    by_cases hl : p < F.length
    · simp [List.getD, List.getElem?_set_self hl, hl]
    · have : F.length ≤ p := by omega
      simp [List.getD, List.set_eq_of_length_le this, hl]
  · simp [List.getD, List.getElem?_set_ne h, h]
theorem markF_getD (q : Nat) (P : List Nat) : ∀ F : List Bool, (markF F P).getD q false = (F.getD q false || (decide (q ∈ P) && decide (q < F.length))) := by
  induction P with
  | nil => intro F; simp [markF]
  | cons p P ih =>
    intro F
    show (markF (F.set p true) P).getD q false = _
    rw [ih, set_getD, List.length_set]
    by_cases h : p = q ∧ q < F.length
    · rw [if_pos h]; obtain ⟨rfl, h2⟩ := h; simp [h2]
    · rw [if_neg h]
      by_cases hq : q < F.length
      · have : ¬ q = p := fun e => h ⟨e.symm, hq⟩
        simp [hq, this]
      · simp [hq]
theorem clearF_getD (q : Nat) (P : List Nat) : ∀ F : List Bool, (clearF F P).getD q false = (F.getD q false && !decide (q ∈ P)) := by
  induction P with
  | nil => intro F; simp [clearF]
  | cons p P ih =>
    intro F
    show (clearF (F.set p false) P).getD q false = _
    rw [ih, set_getD]
    by_cases h : p = q ∧ q < F.length
    · rw [if_pos h]; obtain ⟨rfl, h2⟩ := h; simp
    · rw [if_neg h]
      by_cases hq : q < F.length
      · have : ¬ q = p := fun e => h ⟨e.symm, hq⟩
        simp [this]
      · have : F.getD q false = false := by rw [List.getD, List.getElem?_eq_none (by omega)]; rfl
        rw [this]; simp
theorem clear_mark (F : List Bool) (P : List Nat) (h : ∀ p ∈ P, F.getD p false = false) : clearF (markF F P) P = F := by
  refine flags_ext _ _ (by rw [clearF_len, markF_len]) fun p _ => ?_
  rw [clearF_getD, markF_getD]
  by_cases hp : p ∈ P
  · rw [h p hp]; simp [hp]
  · simp [hp]
theorem flip_mark (P : List Nat) : ∀ F : List Bool, P.Nodup → (∀ p ∈ P, F.getD p false = false) → flipF F P = markF F P := by
  induction P with
  | nil => intro F _ _; rfl
  | cons p P ih =>
    intro F hn hf
    have h0 := hf p (by simp)
    show flipF (F.set p (!F.getD p false)) P = markF (F.set p true) P
    rw [h0]
    refine ih _ (List.nodup_cons.1 hn).2 fun q hq => ?_
    rw [set_getD, if_neg (fun h : p = q ∧ _ => (List.nodup_cons.1 hn).1 (h.1 ▸ hq)), hf q (by simp [hq])]
theorem flip_take (F : List Bool) (k : Nat) : flipF F ((frees F).take k) = markF F ((frees F).take k) :=
  flip_mark _ _ ((frees_nodup F).sublist (List.take_sublist _ _)) fun p hp => ((frees_mem F p).1 (List.mem_of_mem_take hp)).2

theorem filter_rest {α : Type} [DecidableEq α] (L : List α) (hn : L.Nodup) (k : Nat) : L.filter (fun x => !decide (x ∈ L.take k)) = L.drop k := by
  have h : L.take k ++ L.drop k = L := List.take_append_drop k L
  have hn2 := hn
  rw [← h, List.nodup_append] at hn2
  conv => lhs; rw [← h]
  rw [List.filter_append, h]
  have h1 : (L.take k).filter (fun x => !decide (x ∈ L.take k)) = [] := List.filter_eq_nil_iff.2 fun x hx => by simp [hx]
  have h2 : (L.drop k).filter (fun x => !decide (x ∈ L.take k)) = L.drop k := List.filter_eq_self.2 fun x hx => by
    simp only [Bool.not_eq_true', decide_eq_false_iff_not]
    exact fun hx2 => hn2.2.2 x hx2 x hx rfl
  rw [h1, h2]; rfl
theorem frees_rest (F : List Bool) (k : Nat) : frees (markF F ((frees F).take k)) = (frees F).drop k := by
  rw [← filter_rest (frees F) (frees_nodup F) k]
  unfold frees freeB
  rw [markF_len, List.filter_filter]
  apply List.filter_congr
  intro p hp
  have hpl : p < F.length := by simpa using hp
  have hm := markF_getD p ((frees F).take k) F
  unfold frees freeB at hm
  rw [hm]
  simp only [hpl, decide_true, Bool.and_true]
  cases F.getD p false <;> simp

theorem turn_back (e : Int) (P : List Nat) : ∀ G : List Bool, P.Nodup → (∀ p ∈ P, p < G.length ∧ G.getD p false = true) → turnF true e G (P.map Int.ofNat) = (some (clearF G P), 0) := by
  induction P with
  | nil => intro G _ _; rfl
  | cons p P ih =>
    intro G hn hp
    obtain ⟨h1, h2⟩ := hp p (by simp)
    rw [List.map_cons, turnF, if_neg (by simp; omega), if_neg (by simp only [Int.ofNat_eq_natCast, Int.toNat_natCast]; rw [h2]; simp)]
    show turnF true e (G.set p (!true)) (P.map Int.ofNat) = (some (clearF (G.set p false) P), 0)
    rw [Bool.not_true]
    refine ih _ (List.nodup_cons.1 hn).2 fun q hq => ?_
    obtain ⟨h3, h4⟩ := hp q (by simp [hq])
    refine ⟨by rw [List.length_set]; exact h3, ?_⟩
    rw [set_getD, if_neg (fun h : p = q ∧ _ => (List.nodup_cons.1 hn).1 (h.1 ▸ hq)), h4]

/-- what Take answers: the flags behind it, the pages, the error -/
def takeR (F : List Bool) (k : Int) : List Bool × List Nat × Int :=
  if k < 0 then ([], [], 1) else if ((frees F).length : Int) < k then ([], [], 5) else (markF F ((frees F).take k.toNat), (frees F).take k.toNat, 0)

end Go.Proofs.Ytcmhijhoemcdcaa
