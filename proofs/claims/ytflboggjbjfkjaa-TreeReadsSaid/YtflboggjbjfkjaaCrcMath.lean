/-
  Plain facts on the 32-bit checksum: steps of a word, octets that go in, the table, a run of bits turned over. No program is named here.
-/
import Derived.Test.YtflboggjbjfkjaaOctMath
namespace Go.Proofs.Ytflboggjbjfkjaa

def poly : Nat := 3988292384

/-- one shift step of a word -/
def step (w : Nat) : Nat := if w % 2 = 1 then w / 2 ^^^ poly else w / 2

def steps : Nat → Nat → Nat
  | 0, w => w
  | n + 1, w => steps n (step w)

theorem step_xor (a b : Nat) : step (a ^^^ b) = step a ^^^ step b := by
  unfold step
  have hm := @Nat.xor_mod_two_eq_one a b
  rw [Nat.xor_div_two]
  by_cases ha : a % 2 = 1 <;> by_cases hb : b % 2 = 1
  · have h : ¬ (a ^^^ b) % 2 = 1 := by rw [hm]; simp [ha, hb]
    rw [if_neg h, if_pos ha, if_pos hb, Nat.xor_assoc, Nat.xor_comm poly, Nat.xor_assoc, Nat.xor_self, Nat.xor_zero]
  · have h : (a ^^^ b) % 2 = 1 := by rw [hm]; simp [ha, hb]
    rw [if_pos h, if_pos ha, if_neg hb, Nat.xor_assoc, Nat.xor_comm (b / 2), ← Nat.xor_assoc]
  · have h : (a ^^^ b) % 2 = 1 := by rw [hm]; simp [ha, hb]
    rw [if_pos h, if_neg ha, if_pos hb, Nat.xor_assoc]
  · have h : ¬ (a ^^^ b) % 2 = 1 := by rw [hm]; simp [ha, hb]
    rw [if_neg h, if_neg ha, if_neg hb]

theorem steps_xor : ∀ (n a b : Nat), steps n (a ^^^ b) = steps n a ^^^ steps n b
  | 0, _, _ => rfl
  | n + 1, a, b => by simp only [steps, step_xor, steps_xor n]

theorem steps_add : ∀ (m n w : Nat), steps (m + n) w = steps n (steps m w)
  | 0, n, w => by rw [Nat.zero_add]; rfl
  | m + 1, n, w => by rw [Nat.succ_add]; exact steps_add m n (step w)

theorem step_twice (h : Nat) : step (h * 2) = h := by
  unfold step; rw [if_neg (by omega)]; omega

theorem steps_pow : ∀ (n h : Nat), steps n (h * 2 ^ n) = h
  | 0, h => by simp [steps]
  | n + 1, h => by rw [steps, Nat.pow_succ, ← Nat.mul_assoc, step_twice, steps_pow n h]

theorem step_lt (w : Nat) (h : w < 4294967296) : step w < 4294967296 := by
  unfold step poly
  split
  · exact Nat.xor_lt_two_pow (n := 32) (by omega) (by omega)
  · omega

theorem steps_lt : ∀ (n w : Nat), w < 4294967296 → steps n w < 4294967296
  | 0, _, h => h
  | n + 1, w, h => steps_lt n _ (step_lt w h)

theorem step_ne (w : Nat) (h : w < 4294967296) (h0 : w ≠ 0) : step w ≠ 0 := by
  unfold step
  split
  · intro he
    have : w / 2 = poly := by
      have h1 : (w / 2 ^^^ poly) ^^^ poly = poly := by rw [he, Nat.zero_xor]
      rwa [Nat.xor_assoc, Nat.xor_self, Nat.xor_zero] at h1
    unfold poly at this
    omega
  · omega

theorem steps_ne : ∀ (n w : Nat), w < 4294967296 → w ≠ 0 → steps n w ≠ 0
  | 0, _, _, h => h
  | n + 1, w, h, h0 => steps_ne n _ (step_lt w h) (step_ne w h h0)

/-- a word behind octets -/
def goL (w : Nat) (l : List UInt8) : Nat := l.foldl (fun w b => steps 8 (w ^^^ b.toNat)) w

theorem goL_nil (w : Nat) : goL w [] = w := rfl
theorem goL_cons (w : Nat) (b : UInt8) (r : List UInt8) : goL w (b :: r) = goL (steps 8 (w ^^^ b.toNat)) r := rfl

theorem goL_append : ∀ (a b : List UInt8) (w : Nat), goL w (a ++ b) = goL (goL w a) b
  | [], _, w => by rw [goL_nil]; rfl
  | x :: a, b, w => by simp only [List.cons_append, goL_cons]; exact goL_append a b _

theorem goL_snoc (l : List UInt8) (x : UInt8) (w : Nat) : goL w (l ++ [x]) = steps 8 (goL w l ^^^ x.toNat) := by
  rw [goL_append, goL_cons, goL_nil]

theorem goL_lt : ∀ (l : List UInt8) (w : Nat), w < 4294967296 → goL w l < 4294967296
  | [], _, h => h
  | x :: l, w, h => by
    rw [goL_cons]
    exact goL_lt l _ (steps_lt 8 _ (Nat.xor_lt_two_pow (n := 32) (by omega) (by have := x.toNat_lt; omega)))

/-- numbers that share no bit -/
theorem add_eq_xor (b h n : Nat) (hb : b < 2 ^ n) : b + h * 2 ^ n = b ^^^ (h * 2 ^ n) := by
  apply Nat.eq_of_testBit_eq
  intro i
  rw [Nat.add_comm, Nat.mul_comm h, Nat.testBit_two_pow_mul_add h hb, Nat.testBit_xor]
  by_cases hi : i < n
  · rw [if_pos hi, Nat.testBit_two_pow_mul]
    simp [Nat.not_le.2 hi]
  · rw [if_neg hi, Nat.testBit_two_pow_mul, Nat.testBit_lt_two_pow (Nat.lt_of_lt_of_le hb (Nat.pow_le_pow_right (by omega) (by omega)))]
    simp [Nat.not_lt.1 hi]

/-- all octets at once: the word and the octets' number, as many steps as there are bits -/
theorem goL_le : ∀ (l : List UInt8) (w : Nat), goL w l = steps (8 * l.length) (w ^^^ le l)
  | [], w => by simp [goL_nil, le, steps]
  | b :: r, w => by
    have e : le (b :: r) = b.toNat ^^^ (le r * 2 ^ 8) := by
      rw [← add_eq_xor _ _ _ b.toNat_lt]; simp only [le]; omega
    rw [goL_cons, goL_le r, List.length_cons, show 8 * (r.length + 1) = 8 + 8 * r.length by omega, steps_add, e, ← Nat.xor_assoc, steps_xor 8 (w ^^^ b.toNat) (le r * 2 ^ 8), steps_pow]

theorem steps8_split (w : Nat) : steps 8 w = (w / 256) ^^^ steps 8 (w % 256) := by
  have e : w = (w % 256) ^^^ (w / 256 * 2 ^ 8) := by
    rw [← add_eq_xor _ _ 8 (by omega)]; omega
  calc steps 8 w = steps 8 ((w % 256) ^^^ (w / 256 * 2 ^ 8)) := by rw [← e]
    _ = steps 8 (w % 256) ^^^ (w / 256) := by rw [steps_xor, steps_pow]
    _ = _ := Nat.xor_comm _ _

/-- the table's way of an octet -/
theorem by_table (w o : Nat) (ho : o < 256) : (w / 256) ^^^ steps 8 (w % 256 ^^^ o) = steps 8 (w ^^^ o) := by
  have hx : w % 256 ^^^ o < 2 ^ 8 := Nat.xor_lt_two_pow (by omega) (by omega)
  have e : w ^^^ o = (w % 256 ^^^ o) ^^^ (w / 256 * 2 ^ 8) := by
    have : w = (w % 256) ^^^ (w / 256 * 2 ^ 8) := by rw [← add_eq_xor _ _ 8 (by omega)]; omega
    calc w ^^^ o = ((w % 256) ^^^ (w / 256 * 2 ^ 8)) ^^^ o := by rw [← this]
      _ = _ := by rw [Nat.xor_assoc, Nat.xor_comm _ o, Nat.xor_assoc]
  rw [e, steps_xor 8 (w % 256 ^^^ o) (w / 256 * 2 ^ 8), steps_pow, Nat.xor_comm]

/-- the table's entries are sums of its bits -/
theorem tab_add (bit rest : Nat) (j : Nat) (hb : bit = 2 ^ j) (hr : rest < bit) : steps 8 bit ^^^ steps 8 rest = steps 8 (bit + rest) := by
  subst hb
  have := add_eq_xor rest 1 j hr
  rw [Nat.one_mul] at this
  rw [← steps_xor, Nat.add_comm, this, Nat.xor_comm]

def ones : Nat := 4294967295

theorem not_eq_xor (w : Nat) (h : w < 4294967296) : ones - w = w ^^^ ones := by
  apply Nat.eq_of_testBit_eq
  intro i
  unfold ones
  rw [show 4294967295 - w = 2 ^ 32 - (w + 1) by omega, Nat.testBit_two_pow_sub_succ (by omega), Nat.testBit_xor, show (4294967295 : Nat) = 2 ^ 32 - 1 by rfl, Nat.testBit_two_pow_sub_one]
  by_cases hi : i < 32
  · simp [hi]
  · rw [Nat.testBit_lt_two_pow (Nat.lt_of_lt_of_le (show w < 2 ^ 32 by omega) (Nat.pow_le_pow_right (by omega) (by omega)))]
    simp [hi]

/-- P2.1 -/
def sumL (l : List UInt8) : Nat := ones - goL ones l
def moreL (s : Nat) (l : List UInt8) : Nat := ones - goL (ones - s) l

theorem ones_lt : ones < 4294967296 := by decide
theorem sumL_lt (l : List UInt8) : sumL l < 4294967296 := by unfold sumL ones; omega
theorem moreL_lt (s : Nat) (l : List UInt8) : moreL s l < 4294967296 := by unfold moreL ones; omega
theorem moreL_zero (l : List UInt8) : moreL 0 l = sumL l := rfl
theorem moreL_sum (a b : List UInt8) : moreL (sumL a) b = sumL (a ++ b) := by
  have := goL_lt a ones ones_lt
  unfold moreL sumL
  rw [goL_append, show ones - (ones - goL ones a) = goL ones a by unfold ones at *; omega]

/-- P2.2 -/
def sealL (l : List UInt8) : List UInt8 := l ++ leB 4 (sumL l)

theorem sealL_length (l : List UInt8) : (sealL l).length = l.length + 4 := by simp [sealL, leB_length]

/-- sealed octets leave always the same word -/
theorem goL_sealed (b t : List UInt8) (ht : t.length = 4) : goL ones (b ++ t) = steps 32 ones ↔ le t = sumL b := by
  have hl := goL_lt b ones ones_lt
  have hlt : le t < 4294967296 := by have := le_lt t; rw [ht] at this; simpa using this
  rw [goL_append, goL_le t, ht]
  unfold sumL
  rw [not_eq_xor _ hl]
  constructor
  · intro h
    have h0 : steps 32 ((goL ones b ^^^ le t) ^^^ ones) = 0 := by
      rw [steps_xor, show steps 32 (goL ones b ^^^ le t) = steps 32 ones from h, Nat.xor_self]
    by_cases hz : (goL ones b ^^^ le t) ^^^ ones = 0
    · have h1 : goL ones b ^^^ le t = ones := by
        have := congrArg (· ^^^ ones) hz
        simpa [Nat.xor_assoc] using this
      have h2 := congrArg (goL ones b ^^^ ·) h1
      simpa [← Nat.xor_assoc] using h2
    · exact absurd h0 (steps_ne 32 _ (Nat.xor_lt_two_pow (n := 32) (Nat.xor_lt_two_pow (n := 32) (by omega) (by omega)) (by decide)) hz)
  · intro h
    rw [h, ← Nat.xor_assoc, Nat.xor_self, Nat.zero_xor]

theorem goL_seal (b : List UInt8) : goL ones (sealL b) = steps 32 ones :=
  (goL_sealed b _ (leB_length _ _)).2 (le_leB 4 _ (by have := sumL_lt b; simpa using this))

/-- a run of 1 to 32 bits turned over, from bit k on: the seal is broken -/
theorem turned (s s' : List UInt8) (turn k : Nat) (h0 : turn ≠ 0) (ht : turn < 4294967296) (hl : s'.length = s.length) (hk : k ≤ 8 * s.length)
    (hs : goL ones s = steps 32 ones) (hle : le s' = le s ^^^ (turn * 2 ^ k)) : goL ones s' ≠ steps 32 ones := by
  rw [goL_le, hl, hle, ← Nat.xor_assoc, steps_xor, ← goL_le, hs]
  obtain ⟨m, hm⟩ : ∃ m, 8 * s.length = k + m := ⟨_, (Nat.add_sub_cancel' hk).symm⟩
  rw [hm, steps_add, steps_pow]
  intro h
  have := congrArg (steps 32 ones ^^^ ·) h
  simp only [← Nat.xor_assoc, Nat.xor_self, Nat.zero_xor] at this
  exact steps_ne m turn ht h0 this

/-- one octet turned over: what becomes of the octets' number -/
theorem le_set : ∀ (l : List UInt8) (j : Nat) (x : UInt8), j < l.length → le (l.set j (l.getD j 0 ^^^ x)) = le l ^^^ (x.toNat * 2 ^ (8 * j))
  | [], j, x, h => by simp at h
  | b :: r, 0, x, _ => by
    have h1 : le (b :: r) = b.toNat ^^^ (le r * 2 ^ 8) := by
      rw [← add_eq_xor _ _ _ b.toNat_lt]; simp only [le]; omega
    have h2 : le ((b ^^^ x) :: r) = (b ^^^ x).toNat ^^^ (le r * 2 ^ 8) := by
      rw [← add_eq_xor _ _ _ (b ^^^ x).toNat_lt]; simp only [le]; omega
    simp only [List.getD_cons_zero, List.set_cons_zero]
    rw [h2, h1, UInt8.toNat_xor]
    simp only [Nat.mul_zero, Nat.pow_zero, Nat.mul_one]
    rw [Nat.xor_assoc, Nat.xor_comm x.toNat, Nat.xor_assoc]
  | b :: r, j + 1, x, h => by
    have ih := le_set r j x (by simpa using h)
    have h1 : le (b :: r) = b.toNat ^^^ (le r * 2 ^ 8) := by
      rw [← add_eq_xor _ _ _ b.toNat_lt]; simp only [le]; omega
    simp only [List.getD_cons_succ, List.set_cons_succ]
    have h2 : le (b :: r.set j (r.getD j 0 ^^^ x)) = b.toNat ^^^ (le (r.set j (r.getD j 0 ^^^ x)) * 2 ^ 8) := by
      rw [← add_eq_xor _ _ _ b.toNat_lt]; simp only [le]; omega
    have h3 : x.toNat * 2 ^ (8 * (j + 1)) = (x.toNat * 2 ^ (8 * j)) * 2 ^ 8 := by
      rw [show 8 * (j + 1) = 8 * j + 8 by omega, Nat.pow_add, Nat.mul_assoc]
    rw [h2, ih, h1, h3, Nat.xor_assoc]
    congr 1
    generalize x.toNat * 2 ^ (8 * j) = y
    rw [← Nat.shiftLeft_eq _ 8, ← Nat.shiftLeft_eq _ 8, ← Nat.shiftLeft_eq _ 8, Nat.shiftLeft_xor_distrib]

/-- the next octet of a number, laid on -/
theorem mod_next (W i q : Nat) : ((W % 256 ^ i) * 2 ^ (8 * q)) ^^^ ((W / 256 ^ i % 256) * 2 ^ (8 * (q + i))) = (W % 256 ^ (i + 1)) * 2 ^ (8 * q) := by
  have h1 : W % 256 ^ (i + 1) = W % 256 ^ i + 256 ^ i * (W / 256 ^ i % 256) := by rw [Nat.pow_succ]; exact Nat.mod_mul
  have h2 : W % 256 ^ (i + 1) = (W % 256 ^ i) ^^^ ((W / 256 ^ i % 256) * 2 ^ (8 * i)) := by
    rw [← add_eq_xor _ _ _ (by rw [← pow256]; exact Nat.mod_lt _ (Nat.pow_pos (by omega))), h1, pow256, Nat.mul_comm (2 ^ (8 * i))]
  rw [h2, show 8 * (q + i) = 8 * i + 8 * q by omega, Nat.pow_add, ← Nat.mul_assoc]
  rw [← Nat.shiftLeft_eq _ (8 * q), ← Nat.shiftLeft_eq _ (8 * q), ← Nat.shiftLeft_eq _ (8 * q), Nat.shiftLeft_xor_distrib]

end Go.Proofs.Ytflboggjbjfkjaa
