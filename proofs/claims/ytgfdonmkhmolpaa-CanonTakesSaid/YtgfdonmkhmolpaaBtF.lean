/-
  Contracts of package bits: bit, Align and Take of a Reader.
-/
import Derived.Test.YtgfdonmkhmolpaaBtE
namespace Go.Proofs.Ytgfdonmkhmolpaa
open Go.RowKit
set_option linter.unusedVariables false
set_option linter.unusedSimpArgs false
set_option maxRecDepth 100000

theorem rd_bit (X : UInt8) (k : Nat) : bits .and .u64 (IntKind.u64.wrap ((X.toNat : Int) / 2 ^ k)) 1 = ((X.toNat.testBit k).toNat : Int) := by
  have hx := X.toNat_lt
  have h1 : X.toNat / 2 ^ k < 256 := Nat.lt_of_le_of_lt (Nat.div_le_self _ _) hx
  rw [shr_nat, IntKind.wrap_u64]
  generalize hq : X.toNat / 2 ^ k = q at *
  have e : (q : Int) % 18446744073709551616 = q := by omega
  rw [e]
  have := u64_and_nat q 1 (by omega) (by omega)
  rw [nat_mask1] at this
  refine this.trans ?_
  have hb : X.toNat.testBit k = q.testBit 0 := by rw [← hq, testBit_shr]
  rw [hb, Nat.testBit_zero]
  by_cases h : q % 2 = 1
  · simp [h]
  · have : q % 2 = 0 := by omega
    simp [this]

set_option maxHeartbeats 1000000 in
theorem rbit_any (B : Nat) (a : Option Addr) (cap : Nat) (l : List UInt8) (at_ : Nat) (w : World) (h : RdV w B a cap l at_) (hl : l.length ≤ 1099511627776) (hat : at_ < 8 * l.length) :
    Calls Try.prog 38 #[.pointer (some ⟨B, 0, none⟩)] w fun e w' => e = .returned (.int .u64 ((bitU l at_).toNat : Int)) ∧ RdTo B a cap l (at_ + 1) w w' := by
  have HH := Lib.hid h
  obtain ⟨c0, c1, f0, f1⟩ := two_cells h.1
  obtain ⟨b, off, rfl, hc⟩ := h.2.at (by omega)
  have hcq := hc (at_ / 8) (by omega)
  have HV := Lib.hid (rd_bit (l.getD (at_ / 8) 0) (at_ % 8))
  have HB := Lib.hid (show (l.getD (at_ / 8) 0).toNat.testBit (at_ % 8) = bitU l at_ from rfl)
  obtain ⟨q, hq⟩ : ∃ q, q = at_ / 8 := ⟨_, rfl⟩
  have hq2 : ((at_ : Int) / 8) = (q : Int) := by omega
  have hq1 : (at_ : Int).tdiv 8 = (q : Int) := by rw [Int.tdiv_eq_ediv_of_nonneg (by omega)]; exact hq2
  have hm : ((at_ : Int) % 8) = ((at_ % 8 : Nat) : Int) := by omega
  have hm1 : (at_ : Int).tmod 8 = ((at_ % 8 : Nat) : Int) := by rw [Int.tmod_eq_emod_of_nonneg (by omega)]; exact hm
  have hql : q < l.length := by omega
  rw [← hq] at hcq
  rw [← hq] at HV HB
  have HQ := Lib.hid hq
  have hj : at_ % 8 < 8 := by omega
  obtain ⟨j, hj0⟩ : ∃ j, j = at_ % 8 := ⟨_, rfl⟩
  rw [← hj0] at HV HB hm hm1 hj
  have HJ := Lib.hid hj0
  clear h hc hq hj0
  have HM1 := Lib.hid hm1
  have HQ1 := Lib.hid hq1
  have HM2 := Lib.hid hm
  have HQ2 := Lib.hid hq2
  clear hm hm1 hq1 hq2
  generalize l.getD q 0 = X at *
  go_enter Try.func38, Try.ntmps38
  go_wp2
  have hq1 := HQ1.out
  have hm1 := HM1.out
  have hwq : IntKind.i64.wrap (q : Int) = q := IntWalk.i64_in _ (by omega)
  have hwj : IntKind.i64.wrap (j : Int) = j := IntWalk.i64_in _ (by omega)
  have hql2 : (q : Int) < (l.length : Int) := by omega
  go_quiet (fail)
  rw [HV.out, HB.out]
  generalize hz : ((bitU l at_).toNat : Int) = z
  clear hq1 hm1 hwq hwj hql2
  go_wp2
  go_ret
  have h1 := (HH.out.drewN nq).to (at_ + 1)
  rw [show ((at_ + 1 : Nat) : Int) = (at_ : Int) + 1 by omega] at h1
  exact ⟨congrArg (fun x => Ending.returned (.int .u64 x)) hz.symm, h1.1, (Only.drewN (S := fun i => i = B) w nq).trans h1.2 fun _ _ hs => hs⟩


/-- what Take answers, and how far it is read -/
def takeR (l : List UInt8) (at_ : Nat) (n : Int) : Nat × Int × Nat :=
  if mayN n = false then (0, 1, at_) else if 8 * l.length < at_ + n.toNat then (0, 2, at_) else (takeN (ofL l) at_ n.toNat, 0, at_ + n.toNat)
theorem take_or (x : Nat) (b : Bool) (i : Nat) (hi : i < 64) (hx : x < 2 ^ i) : bits .or .u64 (x : Int) (IntKind.u64.wrap ((b.toNat : Int) * 2 ^ i)) = ((x + (if b then 2 ^ i else 0) : Nat) : Int) := by
  have h64 : 2 ^ i ≤ 2 ^ 63 := Nat.pow_le_pow_right (by omega) (by omega)
  have h63 : (2 : Nat) ^ 63 = 9223372036854775808 := by decide
  rw [h63] at h64
  have e : (b.toNat : Int) * 2 ^ i = ((b.toNat * 2 ^ i : Nat) : Int) := by rw [Int.natCast_mul, Int.natCast_pow]; rfl
  rw [e, IntKind.wrap_u64]
  have hb : b.toNat * 2 ^ i = if b then 2 ^ i else 0 := by cases b <;> simp
  rw [hb]
  have hle : (if b then 2 ^ i else 0) ≤ 9223372036854775808 := by cases b <;> simp; exact h64
  have hor : x ||| (if b then 2 ^ i else 0) = x + (if b then 2 ^ i else 0) := by
    cases b
    · simp
    · simp only [if_true]
      rw [Nat.or_comm, show (2 : Nat) ^ i = 2 ^ i * 1 by simp, ← Nat.two_pow_add_eq_or_of_lt hx, Nat.mul_one, Nat.add_comm]
  generalize (if b then 2 ^ i else 0) = z at *
  rw [show ((z : Int) % 18446744073709551616) = (z : Int) by omega, ← hor]
  exact u64_or_nat _ _ (by omega) (by omega)

set_option maxHeartbeats 1000000 in
theorem takeR_any (B : Nat) (a : Option Addr) (cap : Nat) (l : List UInt8) (at_ : Nat) (n : Int) (w : World) (h : RdV w B a cap l at_) (hl : l.length ≤ 1099511627776) (hat : at_ ≤ 8 * l.length) :
    Calls Try.prog 16 #[.pointer (some ⟨B, 0, none⟩), .int .i64 n] w fun e w' => e = .returned (.tuple #[.int .u64 ((takeR l at_ n).1 : Int), .int .i64 (takeR l at_ n).2.1]) ∧ RdTo B a cap l (takeR l at_ n).2.2 w w' := by
  have C := Lib.hid (mayB_any n w)
  have HH := Lib.hid h
  cases hm : mayN n with
  | false =>
    have HR := Lib.hid (show takeR l at_ n = (0, 1, at_) by unfold takeR; rw [if_pos hm])
    rw [HR.out]
    rw [hm] at C
    clear hm HR h
    go_enter Try.func16, Try.ntmps16
    go_wp2_with fail
    refine C.out.mono ?_
    rintro e w1 ⟨rfl, rfl⟩
    go_wp2
    go_ret2
    exact ⟨rfl, HH.out, Only.refl _ _⟩
  | true =>
    have h0 : 0 ≤ n ∧ n ≤ 32 := by unfold mayN at hm; simpa using hm
    obtain ⟨m, rfl⟩ : ∃ m : Nat, n = m := ⟨n.toNat, by omega⟩
    have hm2 : m ≤ 32 := by omega
    rw [hm] at C
    have CL := Lib.hid (leftR_any B a cap l at_ w h hl hat)
    by_cases hs : 8 * l.length < at_ + m
    · have HR := Lib.hid (show takeR l at_ m = (0, 2, at_) by unfold takeR; rw [if_neg (by rw [hm]; simp), if_pos (by rw [Int.toNat_natCast]; exact hs)])
      rw [HR.out]
      have hgt : 8 * l.length - at_ < m := by omega
      clear hm HR h h0
      generalize 8 * l.length - at_ = q at *
      go_enter Try.func16, Try.ntmps16
      go_wp2_with fail
      refine C.out.mono ?_
      rintro e w1 ⟨rfl, rfl⟩
      go_wp2_with fail
      refine CL.out.mono ?_
      rintro e w1 ⟨rfl, nq, rfl⟩
      go_wp2
      go_ret2
      exact ⟨rfl, HH.out.drewN nq, Only.drewN _ _⟩
    · have HR := Lib.hid (show takeR l at_ m = (takeN (ofL l) at_ m, 0, at_ + m) by unfold takeR; rw [if_neg (by rw [hm]; simp), if_neg (by rw [Int.toNat_natCast]; exact hs), Int.toNat_natCast])
      rw [HR.out]
      have hgt : ¬ 8 * l.length - at_ < m := by omega
      have hs2 : at_ + m ≤ 8 * l.length := by omega
      have HS := Lib.hid hs2
      clear hm HR h h0 hs hs2
      generalize 8 * l.length - at_ = q at *
      go_enter Try.func16, Try.ntmps16
      go_wp2_with fail
      refine C.out.mono ?_
      rintro e w1 ⟨rfl, rfl⟩
      go_wp2_with fail
      refine CL.out.mono ?_
      rintro e w1 ⟨rfl, nq, rfl⟩
      go_wp2
      go_loopw [6, 16] (fun s6 s16 wr => ∃ k x : Nat, k ≤ m ∧ s16 = .int .i64 k ∧ s6 = .int .u64 x ∧ x = takeN (ofL l) at_ k ∧ RdTo B a cap l (at_ + k) w wr) (fun _ s16 _ => m - (intOf s16).toNat)
      case atStart => exact ⟨0, 0, Nat.zero_le _, rfl, rfl, rfl, HH.out.drewN nq, Only.drewN _ _⟩
      case round =>
        obtain ⟨k, x, hk, rfl, rfl, hx, hI⟩ := hrel
        by_cases hlt : k < m
        · have CB := Lib.hid (rbit_any B a cap l (at_ + k) wr hI.1 hl (by have := HS.out; omega))
          have HI := Lib.hid hI
          have HO := Lib.hid (take_or x (bitU l (at_ + k)) k (by omega) (by rw [hx]; exact takeN_lt _ _ _))
          have HX := Lib.hid (show x + (if bitU l (at_ + k) then 2 ^ k else 0) = takeN (ofL l) at_ (k + 1) by rw [takeN_succ, hx, ofL_at])
          clear hI hx
          generalize hbt : bitU l (at_ + k) = bt at *
          clear hbt
          have HO2 : Hid (bits .or .u64 (x : Int) (IntKind.u64.wrap ((bt.toNat : Int) * 2 ^ k)) = ((x + (if bt then 2 ^ k else 0) : Nat) : Int)) := HO
          generalize (x + (if bt then 2 ^ k else 0)) = y at *
          go_wp2_with fail
          refine CB.out.mono ?_
          rintro e w2 ⟨rfl, hw2⟩
          have HW2 := Lib.hid hw2
          clear hw2
          go_wp2
          go_roundw
          case rel => exact ⟨k + 1, y, by omega, by go_num, congrArg (Value.int .u64) HO2.out, HX.out, HI.out.trans HW2.out⟩
          case measure => simp [intOf]; omega
        · obtain rfl : k = m := by omega
          have HI := Lib.hid hI
          have HX := Lib.hid hx
          clear hI hx
          go_wp2
          go_ret2
          exact ⟨by rw [HX.out]; rfl, HI.out⟩

end Go.Proofs.Ytgfdonmkhmolpaa
