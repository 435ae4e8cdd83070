/-
  Spaces as lists of flags, and as octets: which page is used.
-/
import Derived.Test.YtklfoafbgniogaaOctMath
namespace Go.Proofs.Ytklfoafbgniogaa

/-- bit p of octets -/
def bitU (l : List UInt8) (p : Nat) : Bool := (l.getD (p / 8) 0).toNat.testBit (p % 8)
/-- the number that has the first n bits of g -/
def octF (g : Nat → Bool) : Nat → Nat
  | 0 => 0
  | n + 1 => octF g n + (if g n then 2 ^ n else 0)
/-- the octets of flags -/
def packB (F : List Bool) : List UInt8 := (List.range ((F.length + 7) / 8)).map fun i => UInt8.ofNat (octF (fun j => F.getD (8 * i + j) false) 8)
/-- the flags of so many bits -/
def flagsL (N : Nat) (l : List UInt8) : List Bool := (List.range N).map (bitU l)

theorem octF_lt (g : Nat → Bool) : ∀ n, octF g n < 2 ^ n
  | 0 => by simp [octF]
  | n + 1 => by
    have := octF_lt g n
    unfold octF
    split <;> (rw [Nat.pow_succ]; omega)
theorem octF_bit (g : Nat → Bool) (j : Nat) : ∀ n, (octF g n).testBit j = (decide (j < n) && g j)
  | 0 => by simp [octF]
  | n + 1 => by
    have hl := octF_lt g n
    have ih := octF_bit g j n
    unfold octF
    by_cases hg : g n = true
    · rw [if_pos hg, Nat.add_comm, show (2 : Nat) ^ n + octF g n = 2 ^ n * 1 + octF g n by simp, Nat.two_pow_add_eq_or_of_lt hl, Nat.testBit_or, Nat.mul_one, Nat.testBit_two_pow, ih]
      by_cases hj : n = j
      · subst hj; simp [hg]
      · have h1 : decide (n = j) = false := by simp [hj]
        rw [h1, Bool.false_or]
        by_cases h2 : j < n
        · have : j < n + 1 := by omega
          simp [h2, this]
        · have : ¬ j < n + 1 := by omega
          simp [h2, this]
    · rw [if_neg hg, Nat.add_zero, ih]
      by_cases hj : j = n
      · subst hj; simp [hg]
      · by_cases h2 : j < n
        · have : j < n + 1 := by omega
          simp [h2, this]
        · have : ¬ j < n + 1 := by omega
          simp [h2, this]

theorem packB_length (F : List Bool) : (packB F).length = (F.length + 7) / 8 := by simp [packB]
theorem packB_getD (F : List Bool) (i : Nat) (h : i < (F.length + 7) / 8) : ((packB F).getD i 0).toNat = octF (fun j => F.getD (8 * i + j) false) 8 := by
  have := octF_lt (fun j => F.getD (8 * i + j) false) 8
  unfold packB
  rw [List.getD, List.getElem?_map, List.getElem?_range h]
  simp only [Option.map_some, Option.getD_some, UInt8.toNat_ofNat']
  omega
theorem packB_bit (F : List Bool) (p : Nat) : bitU (packB F) p = F.getD p false := by
  unfold bitU
  by_cases h : p / 8 < (F.length + 7) / 8
  · rw [packB_getD F _ h, octF_bit]
    have h1 : p % 8 < 8 := by omega
    have h2 : 8 * (p / 8) + p % 8 = p := by omega
    simp only [h1, decide_true, Bool.true_and, h2]
  · rw [List.getD, List.getElem?_eq_none (by rw [packB_length]; omega), List.getD, List.getElem?_eq_none (show F.length ≤ p by omega)]
    simp

theorem u8_ext (x y : UInt8) (h : ∀ j, j < 8 → x.toNat.testBit j = y.toNat.testBit j) : x = y := by
  apply UInt8.toNat_inj.1
  apply Nat.eq_of_testBit_eq
  intro j
  by_cases hj : j < 8
  · exact h j hj
  · have h1 : x.toNat < 2 ^ j := Nat.lt_of_lt_of_le x.toNat_lt (Nat.pow_le_pow_right (n := 2) (by omega) (show 8 ≤ j by omega))
    have h2 : y.toNat < 2 ^ j := Nat.lt_of_lt_of_le y.toNat_lt (Nat.pow_le_pow_right (n := 2) (by omega) (show 8 ≤ j by omega))
    rw [Nat.testBit_lt_two_pow h1, Nat.testBit_lt_two_pow h2]

theorem bit_ext (l l' : List UInt8) (hl : l.length = l'.length) (h : ∀ p, p < 8 * l.length → bitU l p = bitU l' p) : l = l' := by
  apply List.ext_getElem hl
  intro i h1 h2
  apply u8_ext
  intro j hj
  have := h (8 * i + j) (by omega)
  unfold bitU at this
  rw [show (8 * i + j) / 8 = i by omega, show (8 * i + j) % 8 = j by omega] at this
  simpa [List.getD, List.getElem?_eq_getElem h1, List.getElem?_eq_getElem h2] using this

theorem flagsL_length (N : Nat) (l : List UInt8) : (flagsL N l).length = N := by simp [flagsL]
theorem flagsL_at (N : Nat) (l : List UInt8) (p : Nat) (h : p < N) : (flagsL N l).getD p false = bitU l p := by
  unfold flagsL
  rw [List.getD, List.getElem?_map, List.getElem?_range h]; rfl
theorem flags_ext (F G : List Bool) (hl : F.length = G.length) (h : ∀ p, p < F.length → F.getD p false = G.getD p false) : F = G := by
  apply List.ext_getElem hl
  intro i h1 h2
  have := h i h1
  simpa [List.getD, List.getElem?_eq_getElem h1, List.getElem?_eq_getElem h2] using this
theorem flags_pack (F : List Bool) : flagsL F.length (packB F) = F :=
  flags_ext _ _ (flagsL_length _ _) fun p hp => by rw [flagsL_at _ _ _ (by simpa [flagsL_length] using hp), packB_bit]
theorem pack_inj (F G : List Bool) (hl : F.length = G.length) (h : packB F = packB G) : F = G := by
  rw [← flags_pack F, ← flags_pack G, hl, h]

/-- may a space be? -/
def mayS (N : Int) (l : List UInt8) : Bool :=
  decide (0 ≤ N) && decide (N ≤ 2048) && decide (l.length = (N.toNat + 7) / 8) && (List.range (8 * l.length)).all fun p => decide (p < N.toNat) || !bitU l p

theorem pack_flags (N : Nat) (l : List UInt8) (hl : l.length = (N + 7) / 8) (h : ∀ p, N ≤ p → p < 8 * l.length → bitU l p = false) : packB (flagsL N l) = l := by
  refine bit_ext _ _ (by rw [packB_length, flagsL_length, hl]) fun p hp => ?_
  rw [packB_length, flagsL_length, ← hl] at hp
  rw [packB_bit]
  by_cases hN : p < N
  · exact flagsL_at N l p hN
  · rw [h p (by omega) hp, List.getD, List.getElem?_eq_none (by rw [flagsL_length]; omega)]; rfl
theorem mayS_iff (N : Int) (l : List UInt8) : mayS N l = true ↔ ∃ F : List Bool, F.length ≤ 2048 ∧ N = F.length ∧ l = packB F := by
  constructor
  · intro h
    simp only [mayS, Bool.and_eq_true, decide_eq_true_eq, List.all_eq_true, List.mem_range, Bool.or_eq_true, Bool.not_eq_true'] at h
    obtain ⟨⟨⟨h1, h2⟩, h3⟩, h4⟩ := h
    refine ⟨flagsL N.toNat l, by rw [flagsL_length]; omega, by rw [flagsL_length]; omega, (pack_flags _ _ h3 fun p hp hp2 => ?_).symm⟩
    exact (h4 p hp2).resolve_left (by omega)
  · rintro ⟨F, h1, rfl, rfl⟩
    simp only [mayS, Bool.and_eq_true, decide_eq_true_eq, List.all_eq_true, List.mem_range, Bool.or_eq_true, Bool.not_eq_true']
    refine ⟨⟨⟨by omega, by omega⟩, by rw [packB_length]; simp⟩, fun p hp => ?_⟩
    by_cases hN : p < F.length
    · exact .inl (by simpa using hN)
    · right
      rw [packB_bit, List.getD, List.getElem?_eq_none (by omega)]; rfl
theorem mayS_pack (F : List Bool) (h : F.length ≤ 2048) : mayS F.length (packB F) = true := (mayS_iff _ _).2 ⟨F, h, rfl, rfl⟩

/-! ### one page turned over -/
theorem two_pow_lt (j : Nat) (h : j < 8) : 2 ^ j < 256 := by
  have := Nat.pow_lt_pow_right (a := 2) (by omega) h
  simpa using this
theorem packB_flip (F : List Bool) (p : Nat) (h : p < F.length) :
    (packB F).set (p / 8) (UInt8.ofNat (((packB F).getD (p / 8) 0).toNat ^^^ 2 ^ (p % 8))) = packB (F.set p (!F.getD p false)) := by
  have hp8 : p / 8 < (packB F).length := by rw [packB_length]; omega
  refine bit_ext _ _ (by simp [packB_length]) fun q hq => ?_
  rw [packB_bit]
  have hx : ((packB F).getD (p / 8) 0).toNat ^^^ 2 ^ (p % 8) < 256 := Nat.xor_lt_two_pow (n := 8) (UInt8.toNat_lt _) (two_pow_lt _ (by omega))
  unfold bitU
  by_cases hb : q / 8 = p / 8
  · rw [hb, List.getD, List.getElem?_set_self hp8, Option.getD_some]
    rw [show (UInt8.ofNat (((packB F).getD (p / 8) 0).toNat ^^^ 2 ^ (p % 8))).toNat = ((packB F).getD (p / 8) 0).toNat ^^^ 2 ^ (p % 8) by simp only [UInt8.toNat_ofNat']; omega]
    rw [Nat.testBit_xor, Nat.testBit_two_pow]
    have hF := packB_bit F q
    unfold bitU at hF
    rw [hb] at hF
    rw [hF]
    by_cases he : p % 8 = q % 8
    · have : q = p := by omega
      subst this
      simp only [decide_true, Bool.xor_true, List.getD, List.getElem?_set_self h, Option.getD_some]
    · have hn : p ≠ q := fun e => he (by rw [e])
      simp only [he, decide_false, Bool.xor_false, List.getD, List.getElem?_set_ne hn]
  · rw [List.getD, List.getElem?_set_ne (fun e => hb e.symm)]
    have hn : p ≠ q := fun e => hb (by rw [e])
    have := packB_bit F q
    unfold bitU at this
    rw [List.getD] at this
    rw [this, List.getD, List.getD, List.getElem?_set_ne hn]

/-! ### what is taken, given back, marked -/
/-- pages turned over, in order: the error is e for one that is not `used` -/
def turnF (used : Bool) (e : Int) : List Bool → List Int → Option (List Bool) × Int
  | F, [] => (some F, 0)
  | F, p :: l => if p < 0 ∨ (F.length : Int) ≤ p then (none, 4) else if F.getD p.toNat false ≠ used then (none, e) else turnF used e (F.set p.toNat (!used)) l

end Go.Proofs.Ytklfoafbgniogaa
