/-
  Streams of bits as lists: numbers, whole octets, what is taken.
-/
import Derived.Test.YtklfoafbgniogaaSpMath
namespace Go.Proofs.Ytklfoafbgniogaa

/-- a number's bits, the lowest first -/
def bitsL (v n : Nat) : List Bool := (List.range n).map fun i => v.testBit i
/-- the number of bits, the lowest first -/
def numL (F : List Bool) : Nat := octF (fun j => F.getD j false) F.length
/-- how many octets so many bits need -/
def octN (n : Nat) : Nat := (n + 7) / 8
/-- bits with noughts up to a whole octet -/
def wholeL (F : List Bool) : List Bool := F ++ List.replicate (octN F.length * 8 - F.length) false
/-- octets as bits -/
def ofL (l : List UInt8) : List Bool := flagsL (8 * l.length) l
/-- the number of the n bits from at on -/
def takeN (F : List Bool) (at_ n : Nat) : Nat := octF (fun j => F.getD (at_ + j) false) n

theorem snocD (G : List Bool) (b : Bool) (p : Nat) : (G ++ [b]).getD p false = if p = G.length then b else G.getD p false := by
  by_cases h : p < G.length
  · rw [if_neg (by omega)]; simp [List.getD, List.getElem?_append_left h]
  · by_cases h2 : p = G.length
    · subst h2; simp [List.getD]
    · rw [if_neg h2]; simp only [List.getD]; rw [List.getElem?_eq_none (by simp; omega), List.getElem?_eq_none (by omega)]
theorem appD (G H : List Bool) (p : Nat) : (G ++ H).getD p false = if p < G.length then G.getD p false else H.getD (p - G.length) false := by
  split
  · rename_i h; simp [List.getD, List.getElem?_append_left h]
  · rename_i h; simp [List.getD, List.getElem?_append_right (show G.length ≤ p by omega)]
theorem endD (G : List Bool) (p : Nat) (h : G.length ≤ p) : G.getD p false = false := by simp [List.getD, List.getElem?_eq_none h]
theorem octD (l : List UInt8) (p : Nat) (h : 8 * l.length ≤ p) : bitU l p = false := by
  unfold bitU
  rw [List.getD, List.getElem?_eq_none (by omega)]; simp

theorem bitsL_length (v n : Nat) : (bitsL v n).length = n := by simp [bitsL]
theorem bitsL_zero (v : Nat) : bitsL v 0 = [] := rfl
theorem bitsL_succ (v n : Nat) : bitsL v (n + 1) = bitsL v n ++ [v.testBit n] := by
  unfold bitsL; rw [List.range_succ, List.map_append]; rfl
theorem bitsL_at (v n i : Nat) (h : i < n) : (bitsL v n).getD i false = v.testBit i := by
  unfold bitsL; rw [List.getD, List.getElem?_map, List.getElem?_range h]; rfl
theorem bitsL_take (v n k : Nat) (h : k ≤ n) : (bitsL v n).take k = bitsL v k := by
  refine flags_ext _ _ (by simp [bitsL_length]; omega) fun p hp => ?_
  have hp' : p < k := by simp [bitsL_length] at hp; omega
  rw [bitsL_at _ _ _ hp', List.getD, List.getElem?_take_of_lt hp']
  exact bitsL_at v n p (by omega)
theorem revTake (F : List Bool) (k : Nat) (h : k < F.length) : F.reverse.take (k + 1) = F.reverse.take k ++ [F.getD (F.length - 1 - k) false] := by
  rw [List.take_succ_eq_append_getElem (by simpa using h), List.getElem_reverse, List.getD, List.getElem?_eq_getElem (by omega)]; rfl
theorem revBits (v n k : Nat) (h : k < n) : (bitsL v n).reverse.take (k + 1) = (bitsL v n).reverse.take k ++ [v.testBit (n - 1 - k)] := by
  rw [revTake _ _ (by rw [bitsL_length]; exact h), bitsL_length, bitsL_at _ _ _ (by omega)]

theorem octF_congr {g h : Nat → Bool} : ∀ n, (∀ j, j < n → g j = h j) → octF g n = octF h n
  | 0, _ => rfl
  | n + 1, H => by unfold octF; rw [octF_congr n (fun j hj => H j (by omega)), H n (by omega)]
theorem octF_low (g : Nat → Bool) : ∀ n, octF g (n + 1) = (if g 0 then 1 else 0) + 2 * octF (fun j => g (j + 1)) n
  | 0 => by simp [octF]
  | n + 1 => by
    have ih := octF_low g n
    rw [octF, ih]
    conv => rhs; rw [octF]
    by_cases hg : g (n + 1) = true
    · simp only [hg, if_true, Nat.pow_succ]; omega
    · simp only [hg, if_false, Bool.false_eq_true]; omega
/-- a number is that of its bits -/
theorem octF_num (v n : Nat) (h : v < 2 ^ n) : octF (fun j => v.testBit j) n = v := by
  apply Nat.eq_of_testBit_eq
  intro i
  rw [octF_bit]
  by_cases hi : i < n
  · simp [hi]
  · have : v < 2 ^ i := Nat.lt_of_lt_of_le h (Nat.pow_le_pow_right (by omega) (by omega))
    rw [Nat.testBit_lt_two_pow this]; simp
theorem numL_lt (F : List Bool) : numL F < 2 ^ F.length := octF_lt _ _
theorem numL_nil : numL [] = 0 := rfl
theorem numL_cons (b : Bool) (F : List Bool) : numL (b :: F) = (if b then 1 else 0) + 2 * numL F := by
  unfold numL
  rw [List.length_cons, octF_low]
  rfl
theorem numL_bits (v n : Nat) (h : v < 2 ^ n) : numL (bitsL v n) = v := by
  unfold numL
  rw [bitsL_length, octF_congr n (fun j hj => bitsL_at v n j hj)]
  exact octF_num v n h
theorem takeN_num (F : List Bool) (a n : Nat) (h : a + n ≤ F.length) : takeN F a n = numL ((F.drop a).take n) := by
  unfold takeN numL
  have hl : ((F.drop a).take n).length = n := by simp; omega
  rw [hl]
  refine octF_congr n fun j hj => ?_
  simp [List.getD, List.getElem?_take_of_lt hj]
theorem takeN_succ (F : List Bool) (a n : Nat) : takeN F a (n + 1) = takeN F a n + (if F.getD (a + n) false then 2 ^ n else 0) := rfl
theorem takeN_lt (F : List Bool) (a n : Nat) : takeN F a n < 2 ^ n := octF_lt _ _
/-- what is put is taken -/
theorem takeN_put (F G : List Bool) (v n : Nat) (h : v < 2 ^ n) : takeN (F ++ bitsL v n ++ G) F.length n = v := by
  unfold takeN
  rw [octF_congr (h := fun j => v.testBit j) n fun j hj => ?_]
  · exact octF_num v n h
  · rw [appD, if_pos (by simp [bitsL_length]; omega), appD, if_neg (by omega), Nat.add_sub_cancel_left, bitsL_at _ _ _ hj]

/-! ### octets -/
theorem octN_le (n : Nat) : n ≤ octN n * 8 := by unfold octN; omega
theorem wholeL_length (F : List Bool) : (wholeL F).length = octN F.length * 8 := by
  unfold wholeL; have := octN_le F.length; simp; omega
theorem wholeL_at (F : List Bool) (p : Nat) : (wholeL F).getD p false = F.getD p false := by
  unfold wholeL
  rw [appD]
  split
  · rfl
  · rename_i h
    rw [endD F p (by omega)]
    simp only [List.getD, List.getElem?_replicate]
    split <;> rfl
theorem packB_whole (F : List Bool) : packB (wholeL F) = packB F := by
  refine bit_ext _ _ (by rw [packB_length, packB_length, wholeL_length]; unfold octN; omega) fun p _ => ?_
  rw [packB_bit, packB_bit, wholeL_at]
theorem packB_len (F : List Bool) : (packB F).length = octN F.length := packB_length F
theorem ofL_length (l : List UInt8) : (ofL l).length = 8 * l.length := flagsL_length _ _
theorem ofL_at (l : List UInt8) (p : Nat) : (ofL l).getD p false = bitU l p := by
  by_cases h : p < 8 * l.length
  · exact flagsL_at _ _ _ h
  · rw [endD _ _ (by rw [ofL_length]; omega), octD _ _ (by omega)]
theorem pack_of (l : List UInt8) : packB (ofL l) = l := by
  refine bit_ext _ _ (by rw [packB_len, ofL_length]; unfold octN; omega) fun p hp => ?_
  rw [packB_bit, ofL_at]
theorem bitU_app (l m : List UInt8) (p : Nat) : bitU (l ++ m) p = if p < 8 * l.length then bitU l p else bitU m (p - 8 * l.length) := by
  unfold bitU
  split
  · rename_i h
    simp only [List.getD, List.getElem?_append_left (show p / 8 < l.length by omega)]
  · rename_i h
    simp only [List.getD, List.getElem?_append_right (show l.length ≤ p / 8 by omega)]
    rw [show (p - 8 * l.length) / 8 = p / 8 - l.length by omega, show (p - 8 * l.length) % 8 = p % 8 by omega]
theorem ofL_app (l m : List UInt8) : ofL (l ++ m) = ofL l ++ ofL m := by
  refine flags_ext _ _ (by simp [ofL_length]; omega) fun p _ => ?_
  rw [ofL_at, appD, ofL_at, ofL_at, bitU_app, ofL_length]
theorem ofL_snoc (l : List UInt8) (b : UInt8) : ofL (l ++ [b]) = ofL l ++ bitsL b.toNat 8 := by
  rw [ofL_app]; rfl
theorem of_pack (F : List Bool) : ofL (packB F) = wholeL F := by
  refine flags_ext _ _ (by rw [ofL_length, wholeL_length, packB_len]; omega) fun p _ => ?_
  rw [ofL_at, packB_bit, wholeL_at]
theorem pack_octets (F : List Bool) (l : List UInt8) : packB (wholeL F ++ ofL l) = packB F ++ l := by
  rw [← of_pack, ← ofL_app, pack_of]
theorem wholeOf_length (F : List Bool) (l : List UInt8) : (wholeL F ++ ofL l).length = (octN F.length + l.length) * 8 := by
  rw [List.length_append, wholeL_length, ofL_length]; omega
theorem wholeL_of (l : List UInt8) : wholeL (ofL l) = ofL l := by rw [← of_pack, pack_of]
theorem wholeL_eq (F : List Bool) (h : F.length % 8 = 0) : wholeL F = F := by
  unfold wholeL octN
  rw [show (F.length + 7) / 8 * 8 - F.length = 0 by omega]; simp
theorem wholeL_step (F : List Bool) (h : F.length % 8 ≠ 0) : wholeL (F ++ [false]) = wholeL F := by
  refine flags_ext _ _ (by simp only [wholeL_length]; simp [octN]; omega) fun p _ => ?_
  rw [wholeL_at, wholeL_at, snocD]
  split
  · rename_i e; rw [endD _ _ (by omega)]
  · rfl
/-- octet k is the number of its eight bits -/
theorem pack_at (F : List Bool) (k : Nat) (h : k < octN F.length) : ((packB F).getD k 0).toNat = numL (((wholeL F).drop (8 * k)).take 8) := by
  rw [packB_getD F k h]
  have hl : ((wholeL F).drop (8 * k)).length = octN F.length * 8 - 8 * k := by simp [wholeL_length]
  rw [← takeN_num _ _ _ (by rw [wholeL_length]; omega)]
  unfold takeN
  exact octF_congr 8 fun j _ => (wholeL_at F _).symm

/-! ### one bit more -/
theorem bit_new (G : List Bool) (h : G.length % 8 = 0) : packB (G ++ [false]) = packB G ++ [0] := by
  refine bit_ext _ _ (by simp [packB_length]; omega) fun p hp => ?_
  rw [packB_bit, snocD, bitU_app, packB_bit]
  split
  · rename_i e
    rw [packB_length, if_neg (by omega)]
    unfold bitU
    rw [e, show G.length - 8 * ((G.length + 7) / 8) = 0 by omega]; rfl
  · split
    · rfl
    · rename_i e1 e2
      rw [packB_length] at e2
      rw [endD _ _ (by omega)]
      unfold bitU
      cases hq : (p - 8 * (packB G).length) / 8 with
      | zero => simp
      | succ n => simp
theorem bit_old (G : List Bool) (h : G.length % 8 ≠ 0) : packB (G ++ [false]) = packB G := by
  refine bit_ext _ _ (by simp [packB_length]; omega) fun p hp => ?_
  rw [packB_bit, packB_bit, snocD]
  by_cases h1 : p = G.length
  · subst h1; simp
  · rw [if_neg h1]
theorem or_bit : ∀ (x : Fin 256) (j : Fin 8), x.val.testBit j.val = false → x.val ^^^ 2 ^ j.val = x.val ||| 2 ^ j.val ∧ x.val ||| 2 ^ j.val < 256 := by decide +kernel
/-- the last octet with the bit set -/
theorem bit_set (G : List Bool) (b : Bool) : ((packB (G ++ [false])).getD (G.length / 8) 0).toNat ||| ((if b then 1 else 0) * 2 ^ (G.length % 8)) < 256 ∧
    (packB (G ++ [false])).set (G.length / 8) (UInt8.ofNat (((packB (G ++ [false])).getD (G.length / 8) 0).toNat ||| ((if b then 1 else 0) * 2 ^ (G.length % 8)))) = packB (G ++ [b]) := by
  have hb := packB_bit (G ++ [false]) G.length
  unfold bitU at hb
  rw [snocD, if_pos rfl] at hb
  cases b with
  | false =>
    simp only [Bool.false_eq_true, if_false, Nat.zero_mul, Nat.or_zero]
    refine ⟨UInt8.toNat_lt _, ?_⟩
    have hl : G.length / 8 < (packB (G ++ [false])).length := by rw [packB_length]; simp; omega
    rw [UInt8.ofNat_toNat, List.getD, List.getElem?_eq_getElem hl, Option.getD_some]
    exact List.set_getElem_self hl
  | true =>
    obtain ⟨h1, h2⟩ := or_bit ⟨((packB (G ++ [false])).getD (G.length / 8) 0).toNat, UInt8.toNat_lt _⟩ ⟨G.length % 8, by omega⟩ hb
    simp only [if_true, Nat.one_mul]
    have hf := packB_flip (G ++ [false]) G.length (by simp)
    rw [snocD, if_pos rfl] at hf
    simp only at h1 h2
    rw [h1] at hf
    refine ⟨h2, hf.trans ?_⟩
    congr 1
    simp

end Go.Proofs.Ytklfoafbgniogaa
