/-
  Matches by a table: the places at which three octets stand, tried from the nearest on, give the best match.
-/
import Derived.Test.YtonfppbijofapaaMaMath
namespace Go.Proofs.Ytonfppbijofapaa
set_option linter.unusedVariables false

abbrev Key3 := UInt8 × UInt8 × UInt8
/-- the three octets at a place -/
def key3 (b : List UInt8) (p : Nat) : Key3 := (b.getD p 0, b.getD (p + 1) 0, b.getD (p + 2) 0)
/-- the places, of so many from lo on, at which these three stand -/
def offsM (b : List UInt8) (k : Key3) (lo : Nat) : Nat → List Nat
  | 0 => []
  | c + 1 => offsM b k lo c ++ if lo + c + 3 ≤ b.length ∧ key3 b (lo + c) = k then [lo + c] else []
theorem offsM_in (b : List UInt8) (k : Key3) (lo : Nat) : ∀ c o, o ∈ offsM b k lo c → lo ≤ o ∧ o < lo + c ∧ o + 3 ≤ b.length
  | 0, o, h => by simp [offsM] at h
  | c + 1, o, h => by
    unfold offsM at h
    rw [List.mem_append] at h
    rcases h with h | h
    · have := offsM_in b k lo c o h; omega
    · split at h
      · rename_i hh
        simp only [List.mem_singleton] at h
        subst h
        exact ⟨by omega, by omega, hh.1⟩
      · simp at h
theorem offsM_len (b : List UInt8) (k : Key3) (lo : Nat) : ∀ c, (offsM b k lo c).length ≤ c
  | 0 => Nat.le_refl _
  | c + 1 => by
    unfold offsM
    have := offsM_len b k lo c
    rw [List.length_append]
    split <;> simp <;> omega
/-- of a run fewer than three do not count -/
def run3 (b : List UInt8) (at_ d : Nat) : Nat := if runM b at_ d < 3 then 0 else runM b at_ d
def best3 (b : List UInt8) (at_ : Nat) : Nat → Nat × Nat
  | 0 => (0, 0)
  | D + 1 => if (best3 b at_ D).1 < run3 b at_ (D + 1) then (run3 b at_ (D + 1), D + 1) else best3 b at_ D
theorem run3_of (b : List UInt8) (at_ d : Nat) (h : 3 ≤ runM b at_ d) : run3 b at_ d = runM b at_ d := by unfold run3; rw [if_neg (Nat.not_lt.2 h)]
theorem best3_eq (b : List UInt8) (at_ : Nat) : ∀ D, best3 b at_ D = if (bestTo b at_ D).1 < 3 then (0, 0) else bestTo b at_ D
  | 0 => rfl
  | D + 1 => by
    unfold best3 bestTo run3
    rw [best3_eq b at_ D]
    by_cases h1 : (bestTo b at_ D).1 < 3 <;> by_cases h2 : runM b at_ (D + 1) < 3 <;> by_cases h3 : (bestTo b at_ D).1 < runM b at_ (D + 1)
    all_goals simp only [h1, h2, h3, if_true, if_false, Nat.lt_irrefl, Nat.not_lt_zero]
    all_goals first
      | rfl
      | (exfalso; omega)
      | (rw [if_pos (by omega)])
      | (rw [if_neg (by omega)])
theorem bestM_3 (b : List UInt8) (at_ : Nat) : bestM b at_ = best3 b at_ (min at_ 32768) := by rw [best3_eq]; rfl
theorem best3_stay (b : List UInt8) (at_ : Nat) (r : Nat × Nat) (D : Nat) : ∀ n, best3 b at_ D = r → (∀ d, D < d → d ≤ D + n → run3 b at_ d ≤ r.1) → best3 b at_ (D + n) = r
  | 0, h, _ => h
  | n + 1, h, hh => by
    have ih := best3_stay b at_ r D n h fun d h1 h2 => hh d h1 (by omega)
    rw [show D + (n + 1) = (D + n) + 1 by omega, best3, ih, if_neg]
    have := hh (D + n + 1) (by omega) (by omega)
    omega
theorem best3_le (b : List UInt8) (at_ : Nat) (hat : at_ ≤ b.length) : ∀ D, (best3 b at_ D).1 ≤ min 258 (b.length - at_)
  | 0 => by simp [best3]
  | D + 1 => by
    have ih := best3_le b at_ hat D
    have h1 := runN_le b at_ (D + 1) 258 0
    have h2 := runN_in b at_ (D + 1) 258 0 (by omega)
    have h3 : run3 b at_ (D + 1) ≤ min 258 (b.length - at_) := by unfold run3 runM; split <;> omega
    unfold best3
    split
    · exact h3
    · exact ih
/-- where a run ends -/
theorem runN_end (b : List UInt8) (at_ d : Nat) : ∀ (c n : Nat), runMN b at_ d n c < c → ¬ (at_ + (n + runMN b at_ d n c) < b.length ∧ b.getD (at_ + (n + runMN b at_ d n c)) 0 = b.getD (at_ + (n + runMN b at_ d n c) - d) 0)
  | 0, n, h => by omega
  | c + 1, n, h => by
    by_cases hh : at_ + n < b.length ∧ b.getD (at_ + n) 0 = b.getD (at_ + n - d) 0
    · have e : runMN b at_ d n (c + 1) = runMN b at_ d (n + 1) c + 1 := by rw [runMN, if_pos hh]
      rw [e] at h ⊢
      have := runN_end b at_ d c (n + 1) (by omega)
      rw [show n + (runMN b at_ d (n + 1) c + 1) = n + 1 + runMN b at_ d (n + 1) c by omega]
      exact this
    · have e : runMN b at_ d n (c + 1) = 0 := by rw [runMN, if_neg hh]
      rw [e]
      exact hh
/-- three octets alike: a run of three at least, and the other way round -/
theorem run_key (b : List UInt8) (at_ d : Nat) (h1 : d ≤ at_) (h3 : at_ + 3 ≤ b.length) : 3 ≤ runM b at_ d ↔ key3 b (at_ - d) = key3 b at_ := by
  have hk : key3 b (at_ - d) = key3 b at_ ↔ ∀ i, i < 3 → b.getD (at_ + i) 0 = b.getD (at_ + i - d) 0 := by
    unfold key3
    simp only [Prod.mk.injEq]
    constructor
    · rintro ⟨a1, a2, a3⟩ i hi
      rw [show at_ + i - d = at_ - d + i by omega]
      rcases (show i = 0 ∨ i = 1 ∨ i = 2 by omega) with rfl | rfl | rfl
      · exact a1.symm
      · exact a2.symm
      · exact a3.symm
    · intro h
      have a1 := h 0 (by omega)
      have a2 := h 1 (by omega)
      have a3 := h 2 (by omega)
      rw [show at_ + 0 - d = at_ - d by omega] at a1
      rw [show at_ + 1 - d = at_ - d + 1 by omega] at a2
      rw [show at_ + 2 - d = at_ - d + 2 by omega] at a3
      exact ⟨a1.symm, a2.symm, a3.symm⟩
  rw [hk]
  constructor
  · intro h i hi
    exact runN_eq b at_ d 258 0 i (by omega) (by unfold runM at h; omega)
  · intro h
    rcases Nat.lt_or_ge (runM b at_ d) 3 with hr | hr
    · exfalso
      have he := runN_end b at_ d 258 0 (by unfold runM at hr; omega)
      rw [Nat.zero_add] at he
      exact he ⟨by unfold runM at hr; omega, h _ hr⟩
    · exact hr
/-- a run that differs at a place is no longer -/
theorem run_diff (b : List UInt8) (at_ d s : Nat) (h : b.getD (at_ + s) 0 ≠ b.getD (at_ + s - d) 0) : runM b at_ d ≤ s := by
  rcases Nat.lt_or_ge s (runM b at_ d) with hr | hr
  · exact absurd (runN_eq b at_ d 258 0 s (by omega) (by unfold runM at hr; omega)) h
  · exact hr

/-! ### the loop over the places, the last one first -/
/-- one more place -/
def stepE (b : List UInt8) (at_ : Nat) (r : Nat × Nat) (o : Nat) : Nat × Nat :=
  if b.getD (o + r.1) 0 ≠ b.getD (at_ + r.1) 0 then r else if r.1 < runM b at_ (at_ - o) then (runM b at_ (at_ - o), at_ - o) else r
/-- is a place tried? -/
def goesE (b : List UInt8) (at_ : Nat) (r : Nat × Nat) (o : Nat) : Prop := r.1 < min 258 (b.length - at_) ∧ at_ - o ≤ 32768
instance (b : List UInt8) (at_ : Nat) (r : Nat × Nat) (o : Nat) : Decidable (goesE b at_ r o) := by unfold goesE; infer_instance
def bestE (b : List UInt8) (at_ : Nat) : List Nat → Nat × Nat → Nat × Nat
  | [], r => r
  | o :: l, r => if goesE b at_ r o then bestE b at_ l (stepE b at_ r o) else r

theorem bestE_offs (b : List UInt8) (at_ lo : Nat) (h3 : at_ + 3 ≤ b.length) (hlo : lo ≤ at_ - 32768) : ∀ c D, lo + c + D = at_ → bestE b at_ (offsM b (key3 b at_) lo c).reverse (best3 b at_ (min D 32768)) = best3 b at_ (min at_ 32768)
  | 0, D, hD => by
    have : min D 32768 = min at_ 32768 := by omega
    simp [offsM, bestE, this]
  | c + 1, D, hD => by
    have ih := bestE_offs b at_ lo h3 hlo c (D + 1) (by omega)
    have hk := run_key b at_ (D + 1) (by omega) h3
    rw [show at_ - (D + 1) = lo + c by omega] at hk
    unfold offsM
    by_cases hm : lo + c + 3 ≤ b.length ∧ key3 b (lo + c) = key3 b at_
    · rw [if_pos hm, List.reverse_append, List.reverse_singleton, List.singleton_append, bestE]
      have h3r := hk.2 hm.2
      have hle := best3_le b at_ (by omega) (min D 32768)
      obtain ⟨r, hr⟩ : ∃ r, r = best3 b at_ (min D 32768) := ⟨_, rfl⟩
      rw [← hr] at hle ⊢
      by_cases hg : goesE b at_ r (lo + c)
      · rw [if_pos hg]
        obtain ⟨g1, g2⟩ := hg
        have hod : at_ - (lo + c) = D + 1 := by clear ih hk h3r hle hr g1 g2; omega
        have hdd : D + 1 ≤ 32768 := by clear ih hk h3r hle hr g1; omega
        have hmd : min D 32768 = D := Nat.min_eq_left (Nat.le_of_succ_le hdd)
        have hmd1 : min (D + 1) 32768 = D + 1 := Nat.min_eq_left hdd
        rw [hmd] at hr
        rw [hmd1] at ih
        have hst : stepE b at_ r (lo + c) = best3 b at_ (D + 1) := by
          have hrun3 : run3 b at_ (D + 1) = runM b at_ (D + 1) := run3_of b at_ (D + 1) h3r
          unfold stepE
          rw [best3, ← hr, hrun3, hod]
          by_cases hd : b.getD (lo + c + r.1) 0 ≠ b.getD (at_ + r.1) 0
          · rw [if_pos hd, if_neg]
            have := run_diff b at_ (D + 1) r.1 (by rw [show at_ + r.1 - (D + 1) = lo + c + r.1 by omega]; exact fun e => hd e.symm)
            omega
          · rw [if_neg hd]
        rw [hst]
        exact ih
      · rw [if_neg hg]
        unfold goesE at hg
        by_cases g2 : at_ - (lo + c) ≤ 32768
        · have hfull : r.1 = min 258 (b.length - at_) := by omega
          have hmd : min D 32768 = D := by omega
          rw [hmd] at hr
          have hx := best3_stay b at_ r D (min at_ 32768 - D) hr.symm fun d _ _ => by
            have h1 := runN_le b at_ d 258 0
            have h2 := runN_in b at_ d 258 0 (by omega)
            unfold run3 runM
            split <;> omega
          rw [show D + (min at_ 32768 - D) = min at_ 32768 by omega] at hx
          exact hx.symm
        · have : min D 32768 = min at_ 32768 := by omega
          rw [hr, this]
    · rw [if_neg hm, List.append_nil]
      have hrun : run3 b at_ (D + 1) = 0 := if_pos (by
        rcases Nat.lt_or_ge (runM b at_ (D + 1)) 3 with h | h
        · exact h
        · exact absurd ⟨by omega, hk.1 h⟩ hm)
      have hsame : best3 b at_ (min (D + 1) 32768) = best3 b at_ (min D 32768) := by
        by_cases hd : D < 32768
        · rw [show min (D + 1) 32768 = D + 1 by omega, show min D 32768 = D by omega, best3, hrun, if_neg (by omega)]
        · rw [show min (D + 1) 32768 = min D 32768 by omega]
      rw [hsame] at ih
      exact ih
/-- so the best match is found -/
theorem bestE_best (b : List UInt8) (at_ lo c : Nat) (h3 : at_ + 3 ≤ b.length) (hlo : lo ≤ at_ - 32768) (hc : lo + c = at_) : bestE b at_ (offsM b (key3 b at_) lo c).reverse (0, 0) = bestM b at_ := by
  rw [bestM_3]
  exact bestE_offs b at_ lo h3 hlo c 0 (by omega)
theorem bestM_short (b : List UInt8) (at_ : Nat) (hat : at_ < b.length) (h3 : b.length < at_ + 3) : bestM b at_ = (0, 0) := by
  rcases bestM_spec b at_ hat with ⟨h, _⟩ | ⟨h1, _, h2, _⟩
  · exact h
  · omega
/-- how it is told by the place from the end -/
theorem bestE_take (b : List UInt8) (at_ : Nat) (E : List Nat) (i : Nat) (h : i < E.length) (r : Nat × Nat) :
    bestE b at_ (E.take (i + 1)).reverse r = if goesE b at_ r (E.getD i 0) then bestE b at_ (E.take i).reverse (stepE b at_ r (E.getD i 0)) else r := by
  rw [List.take_succ_eq_append_getElem h, List.reverse_append, List.reverse_singleton, List.singleton_append, bestE, List.getD, List.getElem?_eq_getElem h]; rfl
theorem stepE_le (b : List UInt8) (at_ : Nat) (hat : at_ ≤ b.length) (r : Nat × Nat) (o : Nat) (h : r.1 ≤ min 258 (b.length - at_)) : (stepE b at_ r o).1 ≤ min 258 (b.length - at_) := by
  have h1 := runN_le b at_ (at_ - o) 258 0
  have h2 := runN_in b at_ (at_ - o) 258 0 (by omega)
  unfold stepE runM
  split
  · exact h
  · split
    · dsimp only; omega
    · exact h
end Go.Proofs.Ytonfppbijofapaa
