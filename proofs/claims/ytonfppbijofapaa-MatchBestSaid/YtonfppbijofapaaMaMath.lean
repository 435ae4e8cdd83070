/-
  Matches: the best one at a place, the tokens of octets, and what tokens come to.
-/
import Derived.Test.YtonfppbijofapaaOctMath
namespace Go.Proofs.Ytonfppbijofapaa
set_option linter.unusedVariables false

/-- how many octets from a place on are those d ahead of them, at most c of them -/
def runMN (b : List UInt8) (at_ d : Nat) : Nat → Nat → Nat
  | _, 0 => 0
  | n, c + 1 => if at_ + n < b.length ∧ b.getD (at_ + n) 0 = b.getD (at_ + n - d) 0 then runMN b at_ d (n + 1) c + 1 else 0
def runM (b : List UInt8) (at_ d : Nat) : Nat := runMN b at_ d 0 258
/-- of all Dists up to D the greatest number, and the least Dist that has it -/
def bestTo (b : List UInt8) (at_ : Nat) : Nat → Nat × Nat
  | 0 => (0, 0)
  | D + 1 => if (bestTo b at_ D).1 < runM b at_ (D + 1) then (runM b at_ (D + 1), D + 1) else bestTo b at_ D
def bestM (b : List UInt8) (at_ : Nat) : Nat × Nat := if (bestTo b at_ (min at_ 32768)).1 < 3 then (0, 0) else bestTo b at_ (min at_ 32768)

structure Tok where
  lit : UInt8
  len : Int
  dist : Int
deriving Inhabited, DecidableEq
/-- the tokens from a place on -/
def findMF (b : List UInt8) : Nat → Nat → List Tok
  | 0, _ => []
  | f + 1, at_ => if b.length ≤ at_ then [] else if (bestM b at_).1 = 0 then ⟨b.getD at_ 0, 0, 0⟩ :: findMF b f (at_ + 1) else ⟨0, (bestM b at_).1, (bestM b at_).2⟩ :: findMF b f (at_ + (bestM b at_).1)
def findM (b : List UInt8) : List Tok := findMF b b.length 0
/-- may a token be? -/
def mayT (t : Tok) : Bool := (decide (t.len = 0) && decide (t.dist = 0)) || (decide (t.lit = 0) && decide (3 ≤ t.len) && decide (t.len ≤ 258) && decide (1 ≤ t.dist) && decide (t.dist ≤ 32768))
/-- so many octets, each of them the one d ahead of it -/
def copyMa (d : Nat) : Nat → List UInt8 → List UInt8
  | 0, o => o
  | n + 1, o => copyMa d n (o ++ [o.getD (o.length - d) 0])
/-- how many octets a token comes to -/
def longT (t : Tok) : Nat := if t.len = 0 then 1 else t.len.toNat
def grownT (t : Tok) (o : List UInt8) : List UInt8 := if t.len = 0 then o ++ [t.lit] else copyMa t.dist.toNat t.len.toNat o
/-- what tokens come to behind some octets: the octets, the error, its place -/
def expandF (most : Int) : List Tok → Nat → List UInt8 → List UInt8 × Int × Nat
  | [], _, o => (o, 0, 0)
  | t :: l, i, o => if mayT t = false then ([], 1, i) else if (o.length : Int) < t.dist then ([], 12, i) else if most < (o.length : Int) + longT t then ([], 13, i) else expandF most l (i + 1) (grownT t o)
def expandM (l : List Tok) (most : Int) : List UInt8 × Int × Nat := if most < 0 then ([], 1, 0) else expandF most l 0 []

theorem copyMa_snoc (d : Nat) : ∀ (n : Nat) (o : List UInt8), copyMa d (n + 1) o = copyMa d n o ++ [(copyMa d n o).getD ((copyMa d n o).length - d) 0]
  | 0, o => rfl
  | n + 1, o => by
    have h := copyMa_snoc d n (o ++ [o.getD (o.length - d) 0])
    rw [copyMa]
    exact h
theorem copyMa_len (d : Nat) : ∀ (n : Nat) (o : List UInt8), (copyMa d n o).length = o.length + n
  | 0, o => rfl
  | n + 1, o => by rw [copyMa, copyMa_len d n, List.length_append, List.length_singleton]; omega

/-! ### how many are equal -/
theorem runN_le (b : List UInt8) (at_ d : Nat) : ∀ (c n : Nat), runMN b at_ d n c ≤ c
  | 0, n => by simp [runMN]
  | c + 1, n => by unfold runMN; have := runN_le b at_ d c (n + 1); split <;> omega
theorem runN_in (b : List UInt8) (at_ d : Nat) : ∀ (c n : Nat), at_ + n ≤ b.length → at_ + n + runMN b at_ d n c ≤ b.length
  | 0, n, h => by simpa [runMN] using h
  | c + 1, n, h => by
    unfold runMN
    split
    · rename_i hh; have := runN_in b at_ d c (n + 1) (by omega); omega
    · omega
theorem runN_eq (b : List UInt8) (at_ d : Nat) : ∀ (c n k : Nat), n ≤ k → k < n + runMN b at_ d n c → b.getD (at_ + k) 0 = b.getD (at_ + k - d) 0
  | 0, n, k, h1, h2 => by simp [runMN] at h2; omega
  | c + 1, n, k, h1, h2 => by
    unfold runMN at h2
    split at h2
    · rename_i hh
      by_cases hk : k = n
      · subst hk; exact hh.2
      · exact runN_eq b at_ d c (n + 1) k (by omega) (by omega)
    · omega
/-- a way to reckon it: k are equal, and then comes an end -/
theorem runN_is (b : List UInt8) (at_ d : Nat) : ∀ (c n k : Nat), k ≤ c → (∀ i, i < k → at_ + (n + i) < b.length ∧ b.getD (at_ + (n + i)) 0 = b.getD (at_ + (n + i) - d) 0) → (k = c ∨ ¬ (at_ + (n + k) < b.length ∧ b.getD (at_ + (n + k)) 0 = b.getD (at_ + (n + k) - d) 0)) → runMN b at_ d n c = k
  | 0, n, k, hk, _, _ => by simp [runMN]; omega
  | c + 1, n, k, hk, h1, h2 => by
    unfold runMN
    cases k with
    | zero =>
      rw [if_neg]
      rcases h2 with h2 | h2
      · omega
      · simpa using h2
    | succ k =>
      rw [if_pos (by have := h1 0 (by omega); simpa using this)]
      rw [runN_is b at_ d c (n + 1) k (by omega) (fun i hi => by have := h1 (i + 1) (by omega); rw [show n + 1 + i = n + (i + 1) by omega]; exact this) (by
        rcases h2 with h2 | h2
        · exact .inl (by omega)
        · exact .inr (by rw [show n + 1 + k = n + (k + 1) by omega]; exact h2))]

/-! ### the best one -/
theorem bestTo_max (b : List UInt8) (at_ : Nat) : ∀ D d, 1 ≤ d → d ≤ D → runM b at_ d ≤ (bestTo b at_ D).1
  | 0, d, h1, h2 => by omega
  | D + 1, d, h1, h2 => by
    unfold bestTo
    by_cases hd : d = D + 1
    · subst hd; split <;> (try dsimp only) <;> omega
    · have := bestTo_max b at_ D d h1 (by omega)
      split
      · dsimp only; omega
      · exact this
theorem bestTo_at (b : List UInt8) (at_ : Nat) : ∀ D, 0 < (bestTo b at_ D).1 → 1 ≤ (bestTo b at_ D).2 ∧ (bestTo b at_ D).2 ≤ D ∧ runM b at_ (bestTo b at_ D).2 = (bestTo b at_ D).1 ∧ ∀ d, 1 ≤ d → d < (bestTo b at_ D).2 → runM b at_ d < (bestTo b at_ D).1
  | 0, h => by simp [bestTo] at h
  | D + 1, h => by
    unfold bestTo at h ⊢
    by_cases hc : (bestTo b at_ D).1 < runM b at_ (D + 1)
    · rw [if_pos hc] at h ⊢
      refine ⟨by dsimp only; omega, by dsimp only; omega, rfl, fun d h1 h2 => ?_⟩
      dsimp only at h2 ⊢
      have := bestTo_max b at_ D d h1 (by omega)
      omega
    · rw [if_neg hc] at h ⊢
      obtain ⟨h1, h2, h3, h4⟩ := bestTo_at b at_ D h
      exact ⟨h1, by omega, h3, h4⟩
theorem bestM_spec (b : List UInt8) (at_ : Nat) (hat : at_ < b.length) : (bestM b at_ = (0, 0) ∧ ∀ d, 1 ≤ d → d ≤ at_ → d ≤ 32768 → runM b at_ d < 3) ∨
    (3 ≤ (bestM b at_).1 ∧ (bestM b at_).1 ≤ 258 ∧ at_ + (bestM b at_).1 ≤ b.length ∧ 1 ≤ (bestM b at_).2 ∧ (bestM b at_).2 ≤ at_ ∧ (bestM b at_).2 ≤ 32768 ∧
      (∀ k, k < (bestM b at_).1 → b.getD (at_ + k) 0 = b.getD (at_ + k - (bestM b at_).2) 0) ∧
      ∀ d, 1 ≤ d → d ≤ at_ → d ≤ 32768 → runM b at_ d ≤ (bestM b at_).1 ∧ (d < (bestM b at_).2 → runM b at_ d < (bestM b at_).1)) := by
  unfold bestM
  by_cases h : (bestTo b at_ (min at_ 32768)).1 < 3
  · rw [if_pos h]
    exact .inl ⟨rfl, fun d h1 h2 h3 => by have := bestTo_max b at_ (min at_ 32768) d h1 (by omega); omega⟩
  · rw [if_neg h]
    right
    obtain ⟨h1, h2, h3, h4⟩ := bestTo_at b at_ (min at_ 32768) (by omega)
    have hm := fun d a1 a2 => bestTo_max b at_ (min at_ 32768) d a1 a2
    generalize bestTo b at_ (min at_ 32768) = r at *
    have hle := runN_le b at_ r.2 258 0
    have hin := runN_in b at_ r.2 258 0 (by omega)
    unfold runM at h3
    rw [h3] at hle hin
    refine ⟨by omega, hle, by omega, h1, by omega, by omega, fun k hk => ?_, fun d a1 a2 a3 => ⟨hm d a1 (by omega), h4 d a1⟩⟩
    exact runN_eq b at_ r.2 258 0 k (by omega) (by rw [h3]; omega)

/-! ### what is found comes back -/
theorem take_snocU (b : List UInt8) (k : Nat) (h : k < b.length) : b.take (k + 1) = b.take k ++ [b.getD k 0] := by
  rw [List.take_succ_eq_append_getElem h, List.getD, List.getElem?_eq_getElem h]; rfl
theorem copyM_take (b : List UInt8) (d : Nat) (hd : 1 ≤ d) : ∀ (n at_ : Nat), d ≤ at_ → at_ + n ≤ b.length → (∀ k, k < n → b.getD (at_ + k) 0 = b.getD (at_ + k - d) 0) → copyMa d n (b.take at_) = b.take (at_ + n)
  | 0, at_, _, _, _ => rfl
  | n + 1, at_, h1, h2, h3 => by
    unfold copyMa
    have h0 := h3 0 (by omega)
    rw [Nat.add_zero] at h0
    have hl : (b.take at_).length = at_ := by rw [List.length_take]; omega
    have hg : (b.take at_).getD (at_ - d) 0 = b.getD (at_ - d) 0 := by
      simp [List.getD, List.getElem?_take_of_lt (show at_ - d < at_ by omega)]
    rw [hl, hg, ← h0, ← take_snocU b at_ (by omega)]
    rw [copyM_take b d hd n (at_ + 1) (by omega) (by omega) (fun k hk => by have := h3 (k + 1) (by omega); rw [show at_ + 1 + k = at_ + (k + 1) by omega]; exact this)]
    congr 1; omega
theorem findF_back (b : List UInt8) (most : Int) (hm : (b.length : Int) ≤ most) : ∀ (f at_ i : Nat), at_ ≤ b.length → b.length ≤ at_ + f → expandF most (findMF b f at_) i (b.take at_) = (b, 0, 0) ∧ (findMF b f at_).length ≤ b.length - at_
  | 0, at_, i, h1, h2 => by
    unfold findMF expandF
    rw [List.take_of_length_le (by omega)]; simp
  | f + 1, at_, i, h1, h2 => by
    unfold findMF
    by_cases hat : b.length ≤ at_
    · rw [if_pos hat]; unfold expandF; rw [List.take_of_length_le hat]; simp
    · rw [if_neg hat]
      have hl : (b.take at_).length = at_ := by rw [List.length_take]; omega
      rcases bestM_spec b at_ (by omega) with ⟨hb, _⟩ | ⟨b1, b2, b3, b4, b5, b6, b7, _⟩
      · rw [hb, if_pos rfl]
        obtain ⟨ih1, ih2⟩ := findF_back b most hm f (at_ + 1) (i + 1) (by omega) (by omega)
        refine ⟨?_, by rw [List.length_cons]; omega⟩
        unfold expandF
        rw [if_neg (by simp [mayT]), if_neg (by dsimp only; omega), if_neg (by simp [longT, hl]; omega)]
        simp only [grownT, if_true]
        rw [← take_snocU b at_ (by omega)]
        exact ih1
      · generalize bestM b at_ = r at *
        rw [if_neg (by omega)]
        obtain ⟨ih1, ih2⟩ := findF_back b most hm f (at_ + r.1) (i + 1) (by omega) (by omega)
        refine ⟨?_, by rw [List.length_cons]; omega⟩
        have hne : ¬ (r.1 : Int) = 0 := by omega
        unfold expandF
        rw [if_neg (by simp [mayT]; omega), if_neg (by dsimp only; omega), if_neg (by simp only [longT, hne, if_false, hl, Int.toNat_natCast]; omega)]
        simp only [grownT, hne, if_false, Int.toNat_natCast]
        rw [copyM_take b r.2 b4 r.1 at_ (by omega) (by omega) b7]
        exact ih1
/-- what is found expands to what it was found in -/
theorem find_back (b : List UInt8) : expandM (findM b) b.length = (b, 0, 0) ∧ (findM b).length ≤ b.length := by
  obtain ⟨h1, h2⟩ := findF_back b b.length (by omega) b.length 0 0 (by omega) (by omega)
  unfold expandM findM
  rw [if_neg (by omega)]
  exact ⟨by simpa using h1, by omega⟩
/-- and to no more -/
theorem findF_more (b : List UInt8) (most : Int) (hm : most < (b.length : Int)) : ∀ (f at_ i : Nat), at_ ≤ b.length → (at_ : Int) ≤ most → b.length ≤ at_ + f → ∃ j, expandF most (findMF b f at_) i (b.take at_) = ([], 13, j)
  | 0, at_, i, h1, h2, h3 => by omega
  | f + 1, at_, i, h1, h2, h3 => by
    unfold findMF
    rw [if_neg (by omega)]
    have hl : (b.take at_).length = at_ := by rw [List.length_take]; omega
    rcases bestM_spec b at_ (by omega) with ⟨hb, _⟩ | ⟨b1, b2, b3, b4, b5, b6, b7, _⟩
    · rw [hb, if_pos rfl]
      unfold expandF
      rw [if_neg (by simp [mayT]), if_neg (by dsimp only; omega)]
      by_cases hx : most < (at_ : Int) + 1
      · rw [if_pos (by simp [longT, hl]; omega)]; exact ⟨i, rfl⟩
      · rw [if_neg (by simp [longT, hl]; omega)]
        simp only [grownT, if_true]
        rw [← take_snocU b at_ (by omega)]
        exact findF_more b most hm f (at_ + 1) (i + 1) (by omega) (by omega) (by omega)
    · generalize bestM b at_ = r at *
      rw [if_neg (by omega)]
      have hne : ¬ (r.1 : Int) = 0 := by omega
      unfold expandF
      rw [if_neg (by simp [mayT]; omega), if_neg (by dsimp only; omega)]
      by_cases hx : most < (at_ : Int) + r.1
      · rw [if_pos (by simp only [longT, hne, if_false, hl, Int.toNat_natCast]; omega)]; exact ⟨i, rfl⟩
      · rw [if_neg (by simp only [longT, hne, if_false, hl, Int.toNat_natCast]; omega)]
        simp only [grownT, hne, if_false, Int.toNat_natCast]
        rw [copyM_take b r.2 b4 r.1 at_ (by omega) (by omega) b7]
        exact findF_more b most hm f (at_ + r.1) (i + 1) (by omega) (by omega) (by omega)
theorem find_more (b : List UInt8) (h : 0 < b.length) : ∃ j, expandM (findM b) ((b.length : Int) - 1) = ([], 13, j) := by
  unfold expandM findM
  rw [if_neg (by omega)]
  have := findF_more b ((b.length : Int) - 1) (by omega) b.length 0 0 (by omega) (by omega) (by omega)
  simpa using this
end Go.Proofs.Ytonfppbijofapaa
