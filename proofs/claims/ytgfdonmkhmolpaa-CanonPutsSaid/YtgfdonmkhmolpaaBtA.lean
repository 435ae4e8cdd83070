/-
  Contracts of package bits: octetsOf, mayBits, fits, New, bit of a Writer; a writer and a reader in memory.
-/
import Derived.Test.YtgfdonmkhmolpaaRecs
import Derived.Test.YtgfdonmkhmolpaaHead
import Derived.Test.YtgfdonmkhmolpaaBtMath
import Derived.Deep.QuietTactic
import Derived.BigQuiet
import Derived.StillTailTactics
import Derived.Deep.WholeRow
import Derived.Deep.DeepCutAuto
import Derived.Laws.BitsAllLaws
import Derived.Lib.SliceRun
namespace Go.Proofs.Ytgfdonmkhmolpaa
open Go.RowKit
set_option linter.unusedVariables false
set_option linter.unusedSimpArgs false
set_option maxRecDepth 100000


/-- may a number have so many bits? -/
def mayN (n : Int) : Bool := decide (0 ≤ n) && decide (n ≤ 32)
theorem mayB_any (n : Int) (w : World) :
    Calls Try.prog 36 #[.int .i64 n] w fun e w' => e = .returned (.bool (mayN n)) ∧ w = w' := by
  unfold mayN
  go_enter Try.func36, Try.ntmps36
  go_wp2
  · have h0 : 0 ≤ n := by assumption
    go_ret
    exact ⟨by simp [h0], rfl⟩
  · have h0 : n < 0 := by assumption
    go_ret
    exact ⟨by simp; omega, rfl⟩

/-- what is wrong with a number of n bits -/
def fitE (v : Nat) (n : Int) : Int := if mayN n = false then 1 else if v < 2 ^ n.toNat then 0 else 8

theorem fits_any (v : Nat) (n : Int) (w : World) (hv : v < 18446744073709551616) :
    Calls Try.prog 42 #[.int .u64 v, .int .i64 n] w fun e w' => e = .returned (.int .i64 (fitE v n)) ∧ w = w' := by
  have C := Lib.hid (mayB_any n w)
  cases hm : mayN n with
  | false =>
    rw [hm] at C
    have HM := Lib.hid hm
    clear hm
    go_enter Try.func42, Try.ntmps42
    go_wp2_with fail
    refine C.out.mono ?_
    rintro e w' ⟨rfl, rfl⟩
    go_wp2
    go_ret
    exact ⟨by simp [fitE, HM.out], rfl⟩
  | true =>
    rw [hm] at C
    have HM := Lib.hid hm
    have h0 : 0 ≤ n ∧ n ≤ 32 := by unfold mayN at hm; simpa using hm
    clear hm
    obtain ⟨m, rfl⟩ : ∃ m : Nat, n = m := ⟨n.toNat, by omega⟩
    go_enter Try.func42, Try.ntmps42
    go_wp2_with fail
    refine C.out.mono ?_
    rintro e w' ⟨rfl, rfl⟩
    go_wp2
    all_goals
      go_ret
      refine ⟨congrArg (fun x => Ending.returned (.int .i64 x)) ?_, rfl⟩
      unfold fitE
      rw [if_neg (by rw [HM.out]; simp)]
    · have h1 : ((v : Int) / 2 ^ m != 0) = true := by assumption
      rw [if_neg]
      intro hlt
      rw [bne_iff_ne] at h1
      apply h1
      have : v / 2 ^ m = 0 := Nat.div_eq_of_lt (by simpa using hlt)
      have e : ((v : Int) / 2 ^ m) = ((v / 2 ^ m : Nat) : Int) := by rw [Int.natCast_ediv, Int.natCast_pow]; rfl
      rw [e, this]; rfl
    · have h1 : ((v : Int) / 2 ^ m != 0) = false := by assumption
      rw [if_pos]
      have e : ((v : Int) / 2 ^ m) = ((v / 2 ^ m : Nat) : Int) := by rw [Int.natCast_ediv, Int.natCast_pow]; rfl
      rw [e] at h1
      rw [bne_eq_false_iff_eq] at h1
      have h2 : v / 2 ^ m = 0 := Int.natCast_eq_zero.1 h1
      show v < 2 ^ (m : Int).toNat
      rw [Int.toNat_natCast]
      have hp : 0 < 2 ^ m := Nat.pow_pos (by omega)
      exact (Nat.div_eq_zero_iff_lt hp).1 h2

/-! ### octets that a writer owns -/
def bytC (b : UInt8) : List Value := [.int .u8 b.toNat]
theorem bytC_vals (l : List UInt8) : l.flatMap bytC = vals l := by
  induction l with
  | nil => rfl
  | cons b l ih => rw [List.flatMap_cons, ih]; rfl
theorem bytC_one (b : UInt8) : ∀ u ∈ bytC b, u.oneCell' = true := by
  intro u hu; simp only [bytC, List.mem_singleton] at hu; subst hu; rfl
abbrev BytO (w : World) (v : Value) (l : List UInt8) := Recs bytC w 5 1 v l
theorem bytO_of {w : World} {B n cap : Nat} {a : Option Addr} {l : List UInt8} (h : w.ownsRow B 5 1 (.slice a n cap) n (vals l)) : BytO w (.slice a n cap) l ∧ l.length = n := by
  have hl : l.length = n := by have := h.1; simpa [vals_length] using this
  refine ⟨⟨fun _ _ => rfl, fun x _ => bytC_one x, ?_⟩, hl⟩
  rw [bytC_vals, hl]
  refine ⟨h.1, ?_⟩
  rcases h.2 with hn | ⟨g, cap', cur, e, hbg, rest⟩
  · exact .inl hn
  · exact .inr ⟨g, cap', cur, e, Nat.zero_le _, rest⟩
theorem BytO.at {w : World} {n cap : Nat} {a : Option Addr} {l : List UInt8} (h : BytO w (.slice a n cap) l) : BytesAt w a n cap l := by
  obtain ⟨a', cap', hv, _, _⟩ := h.form
  simp only [Value.slice.injEq] at hv
  have h2 := h.2.2
  rw [bytC_vals, ← hv.2.1] at h2
  exact BytesAt.owned h2

/-- a writer, in its box B, of the bits F; v is its slice -/
def WrV (w : World) (B : Nat) (v : Value) (F : List Bool) : Prop :=
  w.heap[B]? = some (.cells #[v, .int .i64 (F.length : Int)] 74 (0, 0)) ∧ BytO w v (packB F)
theorem two_cells {w : World} {g : Nat} {x y : Value} {t : TypeId} (h : w.heap[g]? = some (.cells #[x, y] t (0, 0))) :
    w.cell? ⟨g, 0, none⟩ = some x ∧ w.cell? ⟨g, 1, none⟩ = some y ∧ w.frozen? ⟨g, 0, none⟩ = false ∧ w.frozen? ⟨g, 1, none⟩ = false :=
  ⟨by rw [cell_of_row _ _ _ _ _ _ h]; rfl, by rw [cell_of_row _ _ _ _ _ _ h]; rfl, frozen_of_row _ _ _ _ _ h, frozen_of_row _ _ _ _ _ h⟩
theorem ne_wr_byte : (5 : TypeId) ≠ 74 := by decide
theorem WrV.ne {w : World} {B : Nat} {v : Value} {F : List Bool} (h : WrV w B v F) : ∀ k, v.ownBlock = some k → k ≠ B := h.2.ne_of h.1 ne_wr_byte
theorem WrV.lt {w : World} {B : Nat} {v : Value} {F : List Bool} (h : WrV w B v F) : B < w.heap.size := (Array.getElem?_eq_some_iff.1 h.1).1

/-- what a writer's call leaves: the writer of F, in the same box, nothing else changed but its own octets -/
def WrTo (B : Nat) (v : Value) (F : List Bool) (w w' : World) : Prop :=
  ∃ v', WrV w' B v' F ∧ Only (fun k => k = B ∨ v.ownBlock = some k) w w' ∧ (v'.ownBlock = v.ownBlock ∨ ∃ k, v'.ownBlock = some k ∧ w.heap.size ≤ k)
theorem WrTo.refl {w : World} {B : Nat} {v : Value} {F : List Bool} (h : WrV w B v F) : WrTo B v F w w := ⟨v, h, Only.refl _ _, .inl rfl⟩
theorem WrTo.trans {a b c : World} {B : Nat} {v : Value} {F G : List Bool} (h : WrTo B v F a b) (hk : ∀ v', WrV b B v' F → WrTo B v' G b c) : WrTo B v G a c := by
  obtain ⟨v1, h1, o1, b1⟩ := h
  obtain ⟨v2, h2, o2, b2⟩ := hk v1 h1
  refine ⟨v2, h2, o1.trans o2 fun i hi hT => ?_, ?_⟩
  · rcases hT with rfl | hT
    · exact .inl rfl
    · rcases b1 with b1 | ⟨k, b1, hk⟩
      · exact .inr (by rw [← b1]; exact hT)
      · rw [b1] at hT; injection hT with hT; omega
  · rcases b2 with b2 | ⟨k, b2, hk2⟩
    · rcases b1 with b1 | ⟨k, b1, hk⟩
      · exact .inl (b2.trans b1)
      · exact .inr ⟨k, b2.trans b1, hk⟩
    · exact .inr ⟨k, b2, Nat.le_trans o1.size hk2⟩

/-- New -/
theorem newW_any (w : World) : Calls Try.prog 20 #[] w fun e w' => e = .returned (.pointer (some ⟨w.heap.size, 0, none⟩)) ∧ WrV w' w.heap.size (.slice none 0 0) [] ∧ Below w.heap.size w w' := by
  go_enter Try.func20, Try.ntmps20
  go_wp2
  go_ret
  exact ⟨rfl, ⟨heap_alloc_new _ _, Recs.nil _ _ _ _⟩, (Below.refl _ _).alloc (Nat.le_refl _) _⟩

end Go.Proofs.Ytgfdonmkhmolpaa
