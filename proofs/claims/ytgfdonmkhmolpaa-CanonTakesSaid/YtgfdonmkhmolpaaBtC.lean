/-
  Contracts of package bits: Put, Turned, Octets, Count, Bytes of a Writer; slices.Clone over octets.
-/
import Derived.Test.YtgfdonmkhmolpaaBtB
import Derived.Lib.Strings
import Derived.Lib.Slices
import Derived.Lib.Small
import Derived.Lib.Walk
namespace Go.Proofs.Ytgfdonmkhmolpaa
open Go.RowKit
set_option linter.unusedVariables false
set_option linter.unusedSimpArgs false
set_option maxRecDepth 100000

theorem WrTo.lift {B : Nat} {v : Value} {F G : List Bool} {w wr w2 : World} (h : WrTo B v F w wr) (v1 : Value) (h1 : WrV wr B v1 F) (o1 : Only (fun k => k = B ∨ v.ownBlock = some k) w wr)
    (b1 : v1.ownBlock = v.ownBlock ∨ ∃ k, v1.ownBlock = some k ∧ w.heap.size ≤ k) (h2 : WrTo B v1 G wr w2) : WrTo B v G w w2 := by
  obtain ⟨v2, h2, o2, b2⟩ := h2
  refine ⟨v2, h2, o1.trans o2 fun i hi hT => ?_, ?_⟩
  · rcases hT with rfl | hT
    · exact .inl rfl
    · rcases b1 with b1 | ⟨k, b1, hk⟩
      · exact .inr (by rw [← b1]; exact hT)
      · rw [b1] at hT; injection hT with hT; omega
  · rcases b2 with b2 | ⟨k, b2, hk2⟩
    · rcases b1 with b1 | ⟨k, b1, hk⟩
      · exact .inl (b2.trans b1)
      · exact .inr ⟨k, b2.trans b1, hk⟩
    · exact .inr ⟨k, b2, Nat.le_trans o1.size hk2⟩

/-- the bits behind a number that is put -/
def putL (x : Nat) (n : Int) (F : List Bool) : List Bool := if fitE x n = 0 then F ++ bitsL x n.toNat else F
/-- the bits behind a number that is put turned -/
def turnL (x : Nat) (n : Int) (F : List Bool) : List Bool := if fitE x n = 0 then F ++ (bitsL x n.toNat).reverse else F
theorem fitE_ok {x : Nat} {n : Int} (h : fitE x n = 0) : ∃ m : Nat, n = m ∧ m ≤ 32 ∧ x < 2 ^ m := by
  unfold fitE at h
  split at h
  · cases h
  · rename_i hm
    have : 0 ≤ n ∧ n ≤ 32 := by unfold mayN at hm; simpa using hm
    split at h
    · rename_i hl; exact ⟨n.toNat, by omega, by omega, hl⟩
    · cases h

theorem shr_nat (x k : Nat) : (x : Int) / 2 ^ k = ((x / 2 ^ k : Nat) : Int) := by rw [Int.natCast_ediv, Int.natCast_pow]; rfl
theorem testBit_shr (x k : Nat) : (x / 2 ^ k).testBit 0 = x.testBit k := by rw [Nat.testBit_div_two_pow]; simp


set_option maxHeartbeats 1000000 in
theorem turnW_any (B : Nat) (v : Value) (F : List Bool) (x : Nat) (n : Int) (w : World) (h : WrV w B v F) (hx : x < 18446744073709551616) (hF : F.length ≤ 1099511627000) :
    Calls Try.prog 39 #[.pointer (some ⟨B, 0, none⟩), .int .u64 x, .int .i64 n] w fun e w' => e = .returned (.int .i64 (fitE x n)) ∧ WrTo B v (turnL x n F) w w' := by
  have C := Lib.hid (fits_any x n w hx)
  have HH := Lib.hid h
  clear h
  by_cases hz : fitE x n = 0
  · obtain ⟨m, rfl, hm, hlt⟩ := fitE_ok hz
    have HP := Lib.hid (show turnL x m F = F ++ (bitsL x m).reverse by unfold turnL; rw [if_pos hz, Int.toNat_natCast])
    have HZ := Lib.hid hz
    clear hz hlt
    rw [HZ.out] at C ⊢
    rw [HP.out]
    clear HZ HP
    go_enter Try.func39, Try.ntmps39
    go_wp2_with fail
    refine C.out.mono ?_
    rintro e w' ⟨rfl, rfl⟩
    go_wp2
    go_loopw [16] (fun s16 wr => ∃ k : Nat, k ≤ m ∧ s16 = .int .i64 k ∧ WrTo B v (F ++ (bitsL x m).reverse.take k) w wr) (fun s16 _ => m - (intOf s16).toNat)
    case atStart => exact ⟨0, Nat.zero_le _, rfl, by rw [List.take_zero, List.append_nil]; exact WrTo.refl HH.out⟩
    case round =>
      obtain ⟨k, hk, rfl, hI⟩ := hrel
      by_cases hlt : k < m
      · obtain ⟨v1, h1, o1, b1⟩ := hI
        have hlen : (F ++ (bitsL x m).reverse.take k).length ≤ 1099511627776 := by rw [List.length_append, List.length_take, List.length_reverse, bitsL_length]; omega
        obtain ⟨j, hj⟩ : ∃ j, j = m - 1 - k := ⟨_, rfl⟩
        have CB := Lib.hid (wbit_any B v1 _ (x / 2 ^ j) (x.testBit j) wr h1 (Nat.lt_of_le_of_lt (Nat.div_le_self _ _) hx) (testBit_shr x j) hlen)
        have hsub : (m : Int) - 1 - k = (j : Int) := by omega
        have hj2 : j ≤ 32 := by omega
        have HS := Lib.hid (revBits x m k hlt)
        rw [← hj] at HS
        have HJ := Lib.hid hj
        have H1 := Lib.hid h1
        have O1 := Lib.hid o1
        have B1 := Lib.hid b1
        clear h1 o1 b1 hlen hj
        go_wp2_with fail
        rw [shr_nat]
        refine CB.out.mono ?_
        rintro e w2 ⟨rfl, hw2⟩
        have HW2 := Lib.hid hw2
        clear hw2
        go_wp2
        go_roundw
        case rel => exact ⟨k + 1, by omega, by go_num, by rw [HS.out, ← List.append_assoc]; exact WrTo.lift ⟨v1, H1.out, O1.out, B1.out⟩ v1 H1.out O1.out B1.out HW2.out⟩
        case measure => simp [intOf]; omega
      · obtain rfl : k = m := by omega
        rw [List.take_of_length_le (by rw [List.length_reverse, bitsL_length]; omega)] at hI
        have HI := Lib.hid hI
        clear hI
        go_wp2
        go_ret
        exact ⟨rfl, HI.out⟩
  · have HP := Lib.hid (show turnL x n F = F by unfold turnL; rw [if_neg hz])
    rw [HP.out]
    have hz2 : (fitE x n != 0) = true := by rw [bne_iff_ne]; exact hz
    revert C hz2
    generalize fitE x n = E
    intro C hz2
    go_enter Try.func39, Try.ntmps39
    go_wp2_with fail
    refine C.out.mono ?_
    rintro e w' ⟨rfl, rfl⟩
    go_wp2
    go_ret
    exact ⟨rfl, WrTo.refl HH.out⟩

/-! ### a copy of octets -/
theorem wclone_nil (w : World) : Calls Try.prog 35 #[.slice none 0 0] w fun e w' => e = .returned (.slice none 0 0) ∧ w = w' := by
  have hq := fun u : World => Lib.run_eql_slice_nil (P := Try.prog) u 36 5 none 0 0 0 0 Try.underlying36
  go_enter Try.func35, Try.ntmps35
  go_wp2
  go_ret
  exact ⟨rfl, rfl⟩

theorem wclone_any (a : Option Addr) (n cap : Nat) (l : List UInt8) (w : World) (h : BytesAt w a n cap l) (hn : n ≤ 1099511627776) :
    Calls Try.prog 35 #[.slice a n cap] w (FreshB id n l w) := by
  obtain ⟨i0, hi, hz0, hz1, hz2⟩ := info_parts infoU8
  cases a with
  | none =>
    rcases h.2.2.2 with ⟨_, rfl, rfl⟩ | ⟨x, hx, _⟩
    · refine (wclone_nil w).mono ?_
      rintro e w' ⟨rfl, rfl⟩
      have : l = [] := List.eq_nil_of_length_eq_zero h.1
      subst this
      exact ⟨none, 0, rfl, World.ownsRow_nil _ _ _ _, Below.refl _ _⟩
    · cases hx
  | some x =>
    have hq := fun u : World => Lib.run_eql_slice_nil (P := Try.prog) u 36 5 (some x) n cap 0 0 Try.underlying36
    have hbs : ∀ u, (Instr.buildSlice 36 0 #[]).run Try.prog u = .ok (.slice (some ⟨u.heap.size, 0, none⟩) 0 0) (u.alloc (.cells #[] 5)) := fun u => by
      simp [Instr.buildSlice, run_underlying Try.underlying36, sizeOf, typeInfo, hi, Instr.fill, newRow, Array.range_zero']
    have hb0 : Below w.heap.size w (w.alloc (.cells #[] 5)) := (Below.refl _ _).alloc (Nat.le_refl _) _
    have HO := Lib.hid (show (w.alloc (.cells #[] 5)).ownsRow w.heap.size 5 1 (.slice (some ⟨w.heap.size, 0, none⟩) 0 0) 0 [] from ⟨rfl, .inr ⟨w.heap.size, 0, #[], rfl, Nat.le_refl _, heap_alloc_new w _, by omega, by unfold maxLen; omega, rfl, rfl⟩⟩)
    have HS := Lib.hid (h.below hb0)
    clear h hi hz0 hz1 hz2
    go_enter Try.func35, Try.ntmps35
    go_wp2_with (at_builtin; refine wpList_append_bytes rfl _ _ rfl w.heap.size (.slice (some ⟨w.heap.size, 0, none⟩) 0 0) 0 [] rfl HO.out (some x) n cap l rfl HS.out n (by omega) (by omega) hb0.size ?_; intro a3 cap3 w3 ho3 hg3)
    go_ret
    exact ⟨a3, cap3, rfl, by simpa using ho3, hb0.grown hg3 hb0.size (fun k hk => by simp [Value.ownBlock] at hk; omega)⟩

/-- Count -/
theorem countW_any (B : Nat) (v : Value) (F : List Bool) (w : World) (h : WrV w B v F) :
    Calls Try.prog 25 #[.pointer (some ⟨B, 0, none⟩)] w fun e w' => e = .returned (.int .i64 (F.length : Int)) ∧ w = w' := by
  obtain ⟨c0, c1, f0, f1⟩ := two_cells h.1
  go_enter Try.func25, Try.ntmps25
  go_wp2
  go_ret
  exact ⟨rfl, rfl⟩

/-- Bytes -/
theorem bytesW_any (B : Nat) (v : Value) (F : List Bool) (w : World) (h : WrV w B v F) (hF : F.length ≤ 1099511627776) :
    Calls Try.prog 26 #[.pointer (some ⟨B, 0, none⟩)] w (FreshB id (octN F.length) (packB F) w) := by
  obtain ⟨a, cap, hv, hc1, hc2⟩ := h.2.form
  rw [packB_len] at hv hc1
  subst hv
  obtain ⟨c0, c1, f0, f1⟩ := two_cells h.1
  have hb := h.2.at
  have C := Lib.hid (wclone_any a (octN F.length) cap (packB F) w hb (by unfold octN; omega))
  clear hb h
  generalize octN F.length = m at *
  go_enter Try.func26, Try.ntmps26
  go_wp2_with fail
  refine C.out.mono ?_
  rintro e w' ⟨a2, cap2, rfl, ho, hb⟩
  have HO := Lib.hid ho
  have HB := Lib.hid hb
  clear ho hb
  dsimp only [id]
  go_wp2
  go_ret
  exact ⟨a2, cap2, rfl, HO.out, HB.out⟩
end Go.Proofs.Ytgfdonmkhmolpaa
