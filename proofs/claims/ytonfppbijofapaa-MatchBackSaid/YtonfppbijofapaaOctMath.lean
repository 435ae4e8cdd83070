/-
  Plain facts on numbers laid as octets, the least first: no program is named here.
-/
import Derived.Laws.BitsAllLaws
namespace Go.Proofs.Ytonfppbijofapaa

/-- the number that octets stand for, the least first -/
def le : List UInt8 → Nat
  | [] => 0
  | b :: r => b.toNat + 256 * le r

/-- a number's octets -/
def leB : Nat → Nat → List UInt8
  | 0, _ => []
  | w + 1, v => UInt8.ofNat (v % 256) :: leB w (v / 256)

theorem leB_length : ∀ (w v : Nat), (leB w v).length = w
  | 0, _ => rfl
  | w + 1, v => by simp [leB, leB_length w]

theorem le_lt : ∀ l : List UInt8, le l < 256 ^ l.length
  | [] => by simp [le]
  | b :: r => by
    have h := le_lt r
    have hb : b.toNat < 256 := b.toNat_lt
    simp only [le, List.length_cons, Nat.pow_succ]
    omega

theorem le_leB : ∀ (w v : Nat), v < 256 ^ w → le (leB w v) = v
  | 0, v, h => by simp at h; simp [leB, le, h]
  | w + 1, v, h => by
    have hv : v / 256 < 256 ^ w := by
      rw [Nat.pow_succ] at h
      exact Nat.div_lt_of_lt_mul (by rw [Nat.mul_comm]; exact h)
    simp only [leB, le, le_leB w _ hv]
    have : (UInt8.ofNat (v % 256)).toNat = v % 256 := by simp
    omega

theorem le_append (a b : List UInt8) : le (a ++ b) = le a + 256 ^ a.length * le b := by
  induction a with
  | nil => simp [le]
  | cons x a ih =>
    simp only [List.cons_append, le, ih, List.length_cons, Nat.pow_succ]
    rw [Nat.mul_add, ← Nat.mul_assoc, Nat.mul_comm (256 ^ a.length) 256, Nat.add_assoc]

theorem le_take_succ (l : List UInt8) (k : Nat) (h : k < l.length) : le (l.take (k + 1)) = le (l.take k) + (l.getD k 0).toNat * 256 ^ k := by
  have e : l.take (k + 1) = l.take k ++ [l.getD k 0] := by
    rw [List.take_succ_eq_append_getElem h]
    simp [List.getD, List.getElem?_eq_getElem h]
  rw [e, le_append]
  simp only [le, List.length_take, Nat.min_eq_left (Nat.le_of_lt h), Nat.mul_zero, Nat.add_zero]
  rw [Nat.mul_comm]

theorem leB_getD : ∀ (w v i : Nat), i < w → (leB w v).getD i 0 = UInt8.ofNat (v / 256 ^ i % 256)
  | 0, _, _, h => by omega
  | w + 1, v, 0, _ => by simp [leB]
  | w + 1, v, i + 1, h => by
    have e : v / 256 / 256 ^ i = v / 256 ^ (i + 1) := by
      rw [Nat.div_div_eq_div_mul, Nat.pow_succ, Nat.mul_comm]
    simp only [leB, List.getD_cons_succ]
    rw [leB_getD w (v / 256) i (by omega), e]

theorem pow256 (k : Nat) : 256 ^ k = 2 ^ (8 * k) := by
  rw [Nat.pow_mul]

theorem pow256_le (k : Nat) (h : k ≤ 8) : 256 ^ k ≤ 18446744073709551616 := by
  have : 256 ^ k ≤ 256 ^ 8 := Nat.pow_le_pow_right (by omega) h
  simpa using this

/-- a bigger octet is laid on by 'or' -/
theorem or_octet (x b k : Nat) (hk : k < 8) (hx : x < 256 ^ k) (hb : b < 256) :
    bits .or .u64 (x : Int) (IntKind.u64.wrap (IntKind.u64.wrap (b : Int) * 2 ^ (8 * k))) = ((x + b * 256 ^ k : Nat) : Int) := by
  have hp : 256 ^ (k + 1) ≤ 18446744073709551616 := pow256_le (k + 1) (by omega)
  have hp0 : 0 < 256 ^ k := Nat.pow_pos (by omega)
  have hm : b * 256 ^ k + 256 ^ k ≤ 256 ^ (k + 1) := by
    rw [Nat.pow_succ, Nat.mul_comm (256 ^ k) 256, ← Nat.succ_mul]
    exact Nat.mul_le_mul_right _ (by omega)
  have e1 : IntKind.u64.wrap (b : Int) = (b : Int) := by
    simp [IntKind.wrap, IntKind.signed, IntKind.bits]; omega
  have e2 : ((b : Int) * 2 ^ (8 * k)) = ((b * 256 ^ k : Nat) : Int) := by
    rw [pow256]; simp
  have e3 : IntKind.u64.wrap ((b * 256 ^ k : Nat) : Int) = ((b * 256 ^ k : Nat) : Int) := by
    have : b * 256 ^ k < 18446744073709551616 := by omega
    generalize b * 256 ^ k = y at *
    simp [IntKind.wrap, IntKind.signed, IntKind.bits]; omega
  rw [e1, e2, e3, u64_or_nat _ _ (by omega) (by omega)]
  congr 1
  have hx2 : x < 2 ^ (8 * k) := by rw [← pow256]; exact hx
  rw [pow256, Nat.or_comm, Nat.mul_comm b, ← Nat.two_pow_add_eq_or_of_lt hx2, Nat.add_comm]

/-- P1.2: the number at a place, and the error's number -/
def numRes (l : List UInt8) (at_ wd : Int) : Nat × Nat :=
  if wd < 1 ∨ 8 < wd then (0, 1) else if at_ < 0 ∨ (l.length : Int) < at_ then (0, 4) else if (l.length : Int) < at_ + wd then (0, 2) else (le ((l.drop at_.toNat).take wd.toNat), 0)

/-- P1.1: a number's octets, and the error's number -/
def putRes (v : Nat) (wd : Int) : List UInt8 × Nat :=
  if wd < 1 ∨ 8 < wd then ([], 1) else if 256 ^ wd.toNat ≤ v then ([], 8) else (leB wd.toNat v, 0)

end Go.Proofs.Ytonfppbijofapaa
