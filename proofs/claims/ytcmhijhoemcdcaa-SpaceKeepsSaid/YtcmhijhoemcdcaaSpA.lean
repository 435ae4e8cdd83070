/-
  Contracts of package space: octetsOf, bit, hasPage, isUsed, flip, May, few.
-/
import Derived.Test.YtcmhijhoemcdcaaRecs
import Derived.Test.YtcmhijhoemcdcaaSpMath
import Derived.Deep.QuietTactic
import Derived.BigQuiet
import Derived.StillTailTactics
import Derived.Deep.WholeRow
import Derived.Deep.DeepCutAuto
import Derived.Laws.BitsAllLaws
namespace Go.Proofs.Ytcmhijhoemcdcaa
open Go.RowKit
set_option linter.unusedVariables false
set_option linter.unusedSimpArgs false
set_option maxRecDepth 100000

theorem infoSp : (Try.prog.info? 24).map (fun i => (i.zero, i.size)) = some (some (.agg #[.int .i64 0, .slice none 0 0]), 2) := by kernel_rfl
theorem sizeSp : (Try.prog.info? 24).map (·.size) = some 2 := by kernel_rfl

/-- a space by value -/
def spV (N : Int) (a : Option Addr) (n cap : Nat) : Array Value := #[.int .i64 N, .slice a n cap]
theorem spV_one (N : Int) (a : Option Addr) (n cap : Nat) : (spV N a n cap).all (·.oneCell') = true := by simp [spV, Value.oneCell']

theorem octets_any (N : Nat) (w : World) (h : N ≤ 2048) :
    Calls Try.prog 23 #[.int .i64 N] w fun e w' => e = .returned (.int .i64 ((N + 7) / 8 : Nat)) ∧ w = w' := by
  have he : ((N : Int) + 8 - 1) / 8 = ((N + 7) / 8 : Nat) := by omega
  go_enter Try.func23, Try.ntmps23
  go_wp2
  go_ret
  exact ⟨congrArg (fun x => Ending.returned (.int .i64 x)) he, rfl⟩

theorem bit_any (p : Nat) (w : World) (h : p ≤ 2048) :
    Calls Try.prog 32 #[.int .i64 p] w fun e w' => e = .returned (.int .u8 (2 ^ (p % 8) : Nat)) ∧ w = w' := by
  have he : ((2 ^ (p % 8) : Nat) : Int) % 256 = (2 ^ (p % 8) : Nat) := by
    have := two_pow_lt (p % 8) (by omega)
    generalize 2 ^ (p % 8) = x at *
    omega
  go_enter Try.func32, Try.ntmps32
  go_wp2
  go_ret
  refine ⟨congrArg (fun x => Ending.returned (.int .u8 x)) ?_, rfl⟩
  rw [← he]; simp

theorem has_any (N p : Int) (a : Option Addr) (n cap : Nat) (w : World) :
    Calls Try.prog 25 #[.agg (spV N a n cap), .int .i64 p] w fun e w' => e = .returned (.bool (decide (0 ≤ p) && decide (p < N))) ∧ Below w.heap.size w w' := by
  unfold spV
  go_enter Try.func25, Try.ntmps25
  go_wp2
  · have h0 : 0 ≤ p := by assumption
    go_ret
    exact ⟨by simp [h0], (Below.refl _ _).alloc (Nat.le_refl _) _⟩
  · have h0 : p < 0 := by assumption
    go_ret
    exact ⟨by simp; omega, (Below.refl _ _).alloc (Nat.le_refl _) _⟩

theorem bit_used (x : UInt8) (j : Nat) (hj : j < 8) : (bits .and .u8 (x.toNat : Int) ((2 ^ j : Nat) : Int) != 0) = x.toNat.testBit j := by
  rw [u8_and_nat _ _ x.toNat_lt (two_pow_lt j hj)]
  have h : x.toNat &&& 2 ^ j = if x.toNat.testBit j then 2 ^ j else 0 := by
    apply Nat.eq_of_testBit_eq
    intro i
    rw [Nat.testBit_and, Nat.testBit_two_pow]
    by_cases hi : j = i
    · subst hi
      cases hb : x.toNat.testBit j <;> simp
    · cases hb : x.toNat.testBit j <;> simp [hi, Nat.testBit_two_pow]
  have hp : 0 < 2 ^ j := Nat.pow_pos (by omega)
  rw [h]
  generalize 2 ^ j = m at *
  cases x.toNat.testBit j
  · simp
  · simp; omega

/-- the place of a page's octet -/
theorem place_of (p : Nat) (hp : p ≤ 2048) : ∃ q : Nat, Hid (q = p / 8) ∧ IntKind.i64.wrap ((p : Int) / 8) = (q : Int) :=
  ⟨p / 8, rfl, by rw [show (p : Int) / 8 = ((p / 8 : Nat) : Int) by omega]; exact IntWalk.i64_in _ (by omega)⟩

theorem isused_any (N : Int) (p : Nat) (a : Option Addr) (n cap : Nat) (l : List UInt8) (w : World) (hp : p ≤ 2048) (h : BytesAt w a n cap l) (hn : p / 8 < n) :
    Calls Try.prog 26 #[.agg (spV N a n cap), .int .i64 p] w fun e w' => e = .returned (.bool (bitU l p)) ∧ Below w.heap.size w w' := by
  obtain ⟨b, off, rfl, hc⟩ := h.at (by omega)
  have hcp := hc (p / 8) hn
  have hb := block_lt hcp
  obtain ⟨q, HQ, hwq⟩ := place_of p hp
  rw [← HQ.out] at hcp hn
  have hqn : (q : Int) < n := by omega
  have hu := bit_used (l.getD q 0) (p % 8) (by omega)
  generalize hx : (l.getD q 0).toNat = x at *
  have HX := Lib.hid hx
  have HU := Lib.hid hu
  have hcell : (w.alloc (.cells (spV N (some ⟨b, off, none⟩) n cap) 24)).cell? ⟨b, off + q, none⟩ = some (.int .u8 x) := ((Below.refl _ w).alloc (Nat.le_refl _) _).cell (p := ⟨b, off + q, none⟩) hb |>.trans hcp
  clear h hc hcp hx hu hn
  unfold spV at *
  go_enter Try.func26, Try.ntmps26
  go_upto_region 1 with (fail)
  go_quiet ((go_at_call 32; exact quiet_left (bit_any p _ hp)))
  go_wp2
  go_ret
  refine ⟨congrArg (fun b => Ending.returned (.bool b)) ?_, (((Below.refl _ w).alloc (Nat.le_refl _) _).trans (below_drewN (Below.refl _ _) nq))⟩
  have := HU.out
  rw [Int.natCast_pow] at this
  rw [show bitU l p = x.testBit (p % 8) by unfold bitU; rw [← HQ.out, HX.out]]
  exact this

theorem may_out (N : Int) (a : Option Addr) (n cap : Nat) (w : World) (h : N < 0 ∨ 2048 < N) :
    Calls Try.prog 12 #[.agg (spV N a n cap)] w fun e w' => e = .returned (.bool false) ∧ Below w.heap.size w w' := by
  unfold spV
  rcases h with h | h
  · have h0 : decide (N < 0) = true := by simpa using h
    go_enter Try.func12, Try.ntmps12
    go_upto_region 1 with (fail)
    go_quiet (fail)
    go_wp2
    go_ret
    exact ⟨rfl, ((Below.refl _ w).alloc (Nat.le_refl _) _).trans (below_drewN (Below.refl _ _) nq)⟩
  · have h0 : decide (N < 0) = false := by simp; omega
    have h1 : decide (2048 < N) = true := by simpa using h
    go_enter Try.func12, Try.ntmps12
    go_upto_region 1 with (fail)
    go_quiet (fail)
    go_wp2
    go_ret
    exact ⟨rfl, ((Below.refl _ w).alloc (Nat.le_refl _) _).trans (below_drewN (Below.refl _ _) nq)⟩

theorem may_len (N : Nat) (a : Option Addr) (n cap : Nat) (w : World) (hN : N ≤ 2048) (h : n ≠ (N + 7) / 8) :
    Calls Try.prog 12 #[.agg (spV N a n cap)] w fun e w' => e = .returned (.bool false) ∧ Below w.heap.size w w' := by
  unfold spV
  have h0 : decide ((N : Int) < 0) = false := by simp
  have h1 : decide ((2048 : Int) < (N : Int)) = false := by simp; omega
  generalize hm : (N + 7) / 8 = m at *
  have HM := Lib.hid hm
  have h2 : ((n : Int) != (m : Int)) = true := by simp; omega
  have CO := Lib.hid (fun u => octets_any N u hN)
  rw [hm] at CO
  clear hm
  go_enter Try.func12, Try.ntmps12
  go_upto_region 1 with (fail)
  go_quiet ((go_at_call 23; exact quiet_left (CO.out _)))
  go_wp2
  go_ret
  exact ⟨rfl, ((Below.refl _ w).alloc (Nat.le_refl _) _).trans (below_drewN (Below.refl _ _) nq)⟩

theorem may_full (N : Nat) (a : Option Addr) (n cap : Nat) (w : World) (hN : N ≤ 2048) (h : n = (N + 7) / 8) (h8 : N % 8 = 0) :
    Calls Try.prog 12 #[.agg (spV N a n cap)] w fun e w' => e = .returned (.bool true) ∧ Below w.heap.size w w' := by
  unfold spV
  have h0 : decide ((N : Int) < 0) = false := by simp
  have h1 : decide ((2048 : Int) < (N : Int)) = false := by simp; omega
  have h3 : (N : Int) % 8 = 0 := by omega
  have HM := Lib.hid h
  have CO := Lib.hid (fun u => octets_any N u hN)
  rw [← h] at CO
  clear h h8
  go_enter Try.func12, Try.ntmps12
  go_upto_region 1 with (fail)
  go_quiet ((go_at_call 23; exact quiet_left (CO.out _)))
  go_wp2
  go_ret
  exact ⟨rfl, ((Below.refl _ w).alloc (Nat.le_refl _) _).trans (below_drewN (Below.refl _ _) nq)⟩

theorem may_part (N : Nat) (a : Option Addr) (n cap : Nat) (l : List UInt8) (w : World) (hN : N ≤ 2048) (hb : BytesAt w a n cap l) (h : n = (N + 7) / 8) (h8 : N % 8 ≠ 0) :
    Calls Try.prog 12 #[.agg (spV N a n cap)] w fun e w' => e = .returned (.bool ((l.getD (n - 1) 0).toNat / 2 ^ (N % 8) == 0)) ∧ Below w.heap.size w w' := by
  obtain ⟨b, off, rfl, hc⟩ := hb.at (by omega)
  obtain ⟨m, rfl⟩ : ∃ m, n = m + 1 := ⟨n - 1, by omega⟩
  have hcm := hc m (by omega)
  have hmb : m ≤ 256 := by omega
  have hbl := block_lt hcm
  have h0 : decide ((N : Int) < 0) = false := by simp
  have h1 : decide ((2048 : Int) < (N : Int)) = false := by simp; omega
  obtain ⟨r, hr⟩ : ∃ r : Nat, r = N % 8 := ⟨_, rfl⟩
  have h3 : (N : Int) % 8 = (r : Int) := by omega
  have h4 : ((r : Int) == 0) = false := by simp; omega
  have hr8 : r < 8 := by omega
  have HM := Lib.hid h
  have CO := Lib.hid (fun u => octets_any N u hN)
  rw [← h] at CO
  have HR := Lib.hid hr
  generalize hx : (l.getD m 0).toNat = x at *
  have HX := Lib.hid hx
  have hcell : (w.alloc (.cells (spV N (some ⟨b, off, none⟩) (m + 1) cap) 24)).cell? ⟨b, off + m, none⟩ = some (.int .u8 x) := ((Below.refl _ w).alloc (Nat.le_refl _) _).cell (p := ⟨b, off + m, none⟩) hbl |>.trans hcm
  clear h hb hc hcm h8 hr hx
  unfold spV at *
  go_enter Try.func12, Try.ntmps12
  go_upto_region 1 with (fail)
  go_quiet ((go_at_call 23; exact quiet_left (CO.out _)))
  go_wp2
  go_ret
  refine ⟨?_, ((Below.refl _ w).alloc (Nat.le_refl _) _).trans (below_drewN (Below.refl _ _) nq)⟩
  have e1 : (l[m]?.getD 0).toNat = x := HX.out
  rw [e1, ← HR.out]
  refine congrArg (fun b => Ending.returned (.bool b)) ?_
  have e2 : ((x : Int) / 2 ^ r) = ((x / 2 ^ r : Nat) : Int) := by rw [Int.natCast_ediv, Int.natCast_pow]; rfl
  show ((x : Int) / 2 ^ r == 0) = _
  rw [e2]
  rw [Bool.eq_iff_iff]
  simp only [beq_iff_eq]
  omega

/-- may a space be: the function answers as the words say -/
theorem may_any (N : Int) (a : Option Addr) (n cap : Nat) (l : List UInt8) (w : World) (hb : BytesAt w a n cap l) :
    Calls Try.prog 12 #[.agg (spV N a n cap)] w fun e w' => e = .returned (.bool (mayS N l)) ∧ Below w.heap.size w w' := by
  have hl := hb.1
  by_cases h1 : N < 0 ∨ 2048 < N
  · have : mayS N l = false := by
      unfold mayS
      rcases h1 with h1 | h1
      · have : ¬ 0 ≤ N := by omega
        simp [this]
      · have : ¬ N ≤ 2048 := by omega
        simp [this]
    rw [this]
    exact may_out N a n cap w h1
  · obtain ⟨M, rfl⟩ : ∃ M : Nat, N = M := ⟨N.toNat, by omega⟩
    have hM : M ≤ 2048 := by omega
    by_cases h2 : n = (M + 7) / 8
    · by_cases h3 : M % 8 = 0
      · have : mayS M l = true := by
          simp only [mayS, Bool.and_eq_true, decide_eq_true_eq, List.all_eq_true, List.mem_range, Bool.or_eq_true, Int.toNat_natCast]
          exact ⟨⟨⟨by omega, by omega⟩, by omega⟩, fun p hp => .inl (by omega)⟩
        rw [this]
        exact may_full M a n cap w hM h2 h3
      · refine (may_part M a n cap l w hM hb h2 h3).mono ?_
        rintro e w' ⟨rfl, hb'⟩
        refine ⟨congrArg (fun b => Ending.returned (.bool b)) ?_, hb'⟩
        rw [Bool.eq_iff_iff]
        simp only [mayS, Bool.and_eq_true, decide_eq_true_eq, List.all_eq_true, List.mem_range, Bool.or_eq_true, Int.toNat_natCast, beq_iff_eq, Bool.not_eq_true']
        constructor
        · intro h
          refine ⟨⟨⟨by omega, by omega⟩, by omega⟩, fun p hp => ?_⟩
          by_cases hpM : p < M
          · exact .inl hpM
          · right
            unfold bitU
            have e1 : p / 8 = n - 1 := by omega
            have e2 : M % 8 ≤ p % 8 := by omega
            rw [e1]
            apply Nat.testBit_lt_two_pow
            refine Nat.lt_of_lt_of_le ?_ (Nat.pow_le_pow_right (n := 2) (by omega) e2)
            have := Nat.div_eq_zero_iff.1 h
            have hp : 0 < 2 ^ (M % 8) := Nat.pow_pos (by omega)
            omega
        · rintro ⟨_, h⟩
          apply Nat.div_eq_of_lt
          refine Nat.lt_of_not_le fun hle => ?_
          obtain ⟨j, hj, hj2⟩ := Nat.exists_ge_and_testBit_of_ge_two_pow hle
          have hj8 : j < 8 := by
            refine Nat.lt_of_not_le fun h8 => ?_
            rw [Nat.testBit_lt_two_pow (Nat.lt_of_lt_of_le (UInt8.toNat_lt _) (Nat.pow_le_pow_right (n := 2) (by omega) h8))] at hj2
            cases hj2
          have := (h (8 * (n - 1) + j) (by omega)).resolve_left (by omega)
          unfold bitU at this
          rw [show (8 * (n - 1) + j) / 8 = n - 1 by omega, show (8 * (n - 1) + j) % 8 = j by omega, hj2] at this
          cases this
    · have : mayS M l = false := by
        unfold mayS
        have : ¬ l.length = (M + 7) / 8 := by omega
        simp [this]
      rw [this]
      exact may_len M a n cap w hM h2

/-! ### rows of one's own -/
section
variable {w w' : World} {base base' : Nat} {t : TypeId} {sz n : Nat} {v : Value} {xs : List Value}
theorem owned_low (h : w.ownsRow base t sz v n xs) (hb : base' ≤ base) : w.ownsRow base' t sz v n xs := by
  refine ⟨h.1, ?_⟩
  rcases h.2 with hn | ⟨g, cap, cur, rfl, hbg, rest⟩
  · exact .inl hn
  · exact .inr ⟨g, cap, cur, rfl, by omega, rest⟩
theorem owned_keep (h : w.ownsRow base t sz v n xs) (hk : ∀ k, v.ownBlock = some k → w'.heap[k]? = w.heap[k]?) : w'.ownsRow base t sz v n xs := by
  refine ⟨h.1, ?_⟩
  rcases h.2 with hn | ⟨g, cap, cur, rfl, hbg, hg, rest⟩
  · exact .inl hn
  · exact .inr ⟨g, cap, cur, rfl, hbg, (hk g rfl).trans hg, rest⟩
theorem owned_ne (h : w.ownsRow base t sz v n xs) {g : Nat} {cs : Array Value} {t' : TypeId} {fr : Nat × Nat} (hg : w.heap[g]? = some (.cells cs t' fr)) (ht : t ≠ t') : ∀ k, v.ownBlock = some k → k ≠ g := by
  intro k hk hkg
  subst hkg
  rcases h.2 with ⟨rfl, _⟩ | ⟨g', cap, cur, rfl, hbg, hg', rest⟩
  · simp [Value.ownBlock] at hk
  · simp only [Value.ownBlock, Option.some.injEq] at hk
    subst hk
    rw [hg] at hg'
    injection hg' with hg'
    injection hg' with _ hg'
    exact ht hg'.symm
theorem owned_setRow (h : w.ownsRow base t sz v n xs) {g : Nat} {cs cs' : Array Value} {t' : TypeId} {fr : Nat × Nat} (hg : w.heap[g]? = some (.cells cs t' fr)) (ht : t ≠ t') : (w.setRow g cs').ownsRow base t sz v n xs :=
  owned_keep h fun k hk => heap_setRow_other w g k cs' (owned_ne h hg ht k hk)
theorem owned_setCell (h : w.ownsRow base t sz v n xs) {g i : Nat} {u : Value} {cs : Array Value} {t' : TypeId} {fr : Nat × Nat} (hg : w.heap[g]? = some (.cells cs t' fr)) (ht : t ≠ t') : (w.setCell ⟨g, i, none⟩ u).ownsRow base t sz v n xs :=
  owned_keep h fun k hk => heap_setCell_other w ⟨g, i, none⟩ k u (owned_ne h hg ht k hk)
end

/-! ### boxes -/
theorem box_keep {w u : World} {o : Obj} (h : Below (w.alloc o).heap.size (w.alloc o) u) : u.heap[w.heap.size]? = some o := (h.block _ (by simp)).trans (heap_alloc_new w o)
theorem sp_cells {w : World} {g : Nat} {N : Int} {a : Option Addr} {n cap : Nat} (h : w.heap[g]? = some (.cells (spV N a n cap) 24 (0, 0))) : w.cell? ⟨g, 0, none⟩ = some (.int .i64 N) ∧ w.cell? ⟨g, 1, none⟩ = some (.slice a n cap) :=
  ⟨by rw [cell_of_row _ _ _ _ _ _ h]; rfl, by rw [cell_of_row _ _ _ _ _ _ h]; rfl⟩

/-- the space by value (N, slice) is that of the flags F -/
structure SpAt (w : World) (N : Int) (a : Option Addr) (n cap : Nat) (F : List Bool) : Prop where
  len : F.length ≤ 2048
  num : N = F.length
  oct : BytesAt w a n cap (packB F)
theorem SpAt.below {w w' : World} {N : Int} {a : Option Addr} {n cap : Nat} {F : List Bool} (h : SpAt w N a n cap F) (hb : Below w.heap.size w w') : SpAt w' N a n cap F := ⟨h.len, h.num, h.oct.below hb⟩
theorem SpAt.size {w : World} {N : Int} {a : Option Addr} {n cap : Nat} {F : List Bool} (h : SpAt w N a n cap F) : n = (F.length + 7) / 8 := by have := h.oct.1; rw [packB_length] at this; exact this.symm
theorem SpAt.may {w : World} {N : Int} {a : Option Addr} {n cap : Nat} {F : List Bool} (h : SpAt w N a n cap F) :
    Calls Try.prog 12 #[.agg (spV N a n cap)] w fun e w' => e = .returned (.bool true) ∧ Below w.heap.size w w' := by
  have := may_any N a n cap _ w h.oct
  rw [show mayS N (packB F) = true by rw [h.num]; exact mayS_pack F h.len] at this
  exact this

theorem used_no (N p : Int) (a : Option Addr) (n cap : Nat) (l : List UInt8) (w : World) (hb : BytesAt w a n cap l) (h : mayS N l = false) :
    Calls Try.prog 14 #[.agg (spV N a n cap), .int .i64 p] w fun e w' => e = .returned (.bool false) ∧ Below w.heap.size w w' := by
  have hb0 : Below w.heap.size w (w.alloc (.cells (spV N a n cap) 24)) := (Below.refl _ w).alloc (Nat.le_refl _) _
  have CM := Lib.hid (may_any N a n cap l _ (hb.below hb0))
  rw [h] at CM
  unfold spV at *
  clear hb h
  go_enter Try.func14, Try.ntmps14
  go_wp2_with (go_at_call 12; refine (CM.out).mono ?_; rintro e w1 ⟨rfl, hb1⟩)
  go_ret
  exact ⟨rfl, hb0.trans (hb1.mono hb0.size)⟩

theorem used_ok (p : Int) (N : Int) (a : Option Addr) (n cap : Nat) (F : List Bool) (w : World) (h : SpAt w N a n cap F) :
    Calls Try.prog 14 #[.agg (spV N a n cap), .int .i64 p] w fun e w' => e = .returned (.bool (decide (0 ≤ p) && F.getD p.toNat false)) ∧ Below w.heap.size w w' := by
  have CH := Lib.hid (fun u => has_any N p a n cap u)
  have hb0 : Below w.heap.size w (w.alloc (.cells (spV N a n cap) 24)) := (Below.refl _ w).alloc (Nat.le_refl _) _
  have CM := Lib.hid ((h.below hb0).may)
  have hlen := h.len
  have hnum := h.num
  by_cases hp : 0 ≤ p ∧ p < N
  · obtain ⟨q, rfl⟩ : ∃ q : Nat, p = q := ⟨p.toNat, by omega⟩
    have e1 : (decide (0 ≤ (q : Int)) && decide ((q : Int) < N)) = true := by simp; omega
    have hq : q / 8 < n := by rw [h.size]; omega
    have CU := Lib.hid (fun u (hu : Below w.heap.size w u) => isused_any N q a n cap _ u (by omega) (h.oct.below hu) hq)
    rw [e1] at CH
    rw [packB_bit] at CU
    have e2 : (decide (0 ≤ (q : Int)) && F.getD (q : Int).toNat false) = F.getD q false := by simp
    rw [e2]
    generalize F.getD q false = r at *
    clear hq e1 hp e2 h hlen hnum
    unfold spV at *
    go_enter Try.func14, Try.ntmps14
    go_wp2_with fail
    refine (CM.out).mono ?_
    rintro e w1 ⟨rfl, hb1⟩
    obtain ⟨c0, c1⟩ := sp_cells (box_keep hb1)
    have hb1' := hb0.trans (hb1.mono hb0.size)
    have hlt : w.heap.size < w1.heap.size := Nat.lt_of_lt_of_le (by simp) hb1.size
    go_wp2_with fail
    refine (CH.out _).mono ?_
    rintro e w2 ⟨rfl, hb2⟩
    have d0 := (hb2.cell (p := ⟨w.heap.size, 0, none⟩) hlt).trans c0
    have d1 := (hb2.cell (p := ⟨w.heap.size, 1, none⟩) hlt).trans c1
    have hb2' := hb1'.trans (hb2.mono hb1'.size)
    go_wp2_with fail
    refine (CU.out _ hb2').mono ?_
    rintro e w3 ⟨rfl, hb3⟩
    go_wp2
    go_ret
    exact ⟨rfl, hb2'.trans (hb3.mono hb2'.size)⟩
  · have e1 : (decide (0 ≤ p) && decide (p < N)) = false := by
      rw [Bool.and_eq_false_iff, decide_eq_false_iff_not, decide_eq_false_iff_not]
      omega
    have e2 : (decide (0 ≤ p) && F.getD p.toNat false) = false := by
      by_cases h0 : 0 ≤ p
      · rw [List.getD, List.getElem?_eq_none (by omega)]; simp
      · simp [h0]
    rw [e1] at CH
    rw [e2]
    clear e1 hp e2 h hlen hnum
    unfold spV at *
    go_enter Try.func14, Try.ntmps14
    go_wp2_with fail
    refine (CM.out).mono ?_
    rintro e w1 ⟨rfl, hb1⟩
    obtain ⟨c0, c1⟩ := sp_cells (box_keep hb1)
    have hb1' := hb0.trans (hb1.mono hb0.size)
    go_wp2_with fail
    refine (CH.out _).mono ?_
    rintro e w2 ⟨rfl, hb2⟩
    go_wp2
    go_ret
    exact ⟨rfl, hb1'.trans (hb2.mono hb1'.size)⟩

theorem few_any (N : Int) (a : Option Addr) (n cap : Nat) (l : List UInt8) (w : World) (h : BytesAt w a n cap l) :
    Calls Try.prog 7 #[.agg (spV N a n cap)] w fun e w' => e = .returned (.agg (spV N a (min n 258) cap)) ∧ Below w.heap.size w w' := by
  have hmax : cap ≤ maxLen := h.2.2.1
  have hcap := h.2.1
  by_cases h1 : 258 < n
  · have e1 : min n 258 = 258 := by omega
    rw [e1]
    clear h e1
    unfold spV maxLen at *
    go_enter Try.func7, Try.ntmps7
    go_wp2
    exact bodyPost_ret (v := .agg (spV N a 258 cap)) (results_cell_row rfl _ _ (w.heap.size + 1) 24 (spV N a 258 cap) (0, 0) _ rfl (heap_alloc2_new _ _ _) Try.underlying24 rfl sizeSp) rfl ⟨rfl, ((Below.refl _ _).alloc (Nat.le_refl _) _).alloc (by simp) _⟩
  · have e1 : min n 258 = n := by omega
    rw [e1]
    clear h e1
    unfold spV maxLen at *
    go_enter Try.func7, Try.ntmps7
    go_wp2
    exact bodyPost_ret (v := .agg (spV N a n cap)) (results_cell_row rfl _ _ (w.heap.size + 1) 24 (spV N a n cap) (0, 0) _ rfl (heap_alloc2_new _ _ _) Try.underlying24 rfl sizeSp) rfl ⟨rfl, ((Below.refl _ _).alloc (Nat.le_refl _) _).alloc (by simp) _⟩

theorem results_cell_slot {P : Program} {fn : Func} {p q : Tmp} {ty : TypeId} (h : fn.results = #[.cell p ty, .tmp q]) (tmps : Array Value) (w : World) (g : Nat) (t : TypeId) (cs : Array Value) (fr : Nat × Nat) (d : TypeDesc) (v : Value)
    (hp : tmps.getD p undef = .pointer (some ⟨g, 0, none⟩)) (hg : w.heap[g]? = some (.cells cs t fr)) (hq : tmps.getD q undef = v)
    (hu : P.underlying ty = some d) (hd : (match d with | .struct _ | .array _ _ => true | _ => false) = true) (hi : (P.info? ty).map (·.size) = some cs.size) :
    (results fn tmps).run P w = .ok (.tuple #[.agg cs, v]) w := by
  have hp' : tmps[p]?.getD undef = .pointer (some ⟨g, 0, none⟩) := by simpa using hp
  have hq' : tmps[q]?.getD undef = v := by simpa using hq
  simp [results, h, hp', hq', asAddr, run_loadVar_row w g t ty cs fr d hg hu hd hi]
theorem results_cell_slots {P : Program} {fn : Func} {p q r : Tmp} {ty : TypeId} (h : fn.results = #[.cell p ty, .tmp q, .tmp r]) (tmps : Array Value) (w : World) (g : Nat) (t : TypeId) (cs : Array Value) (fr : Nat × Nat) (d : TypeDesc) (v v' : Value)
    (hp : tmps.getD p undef = .pointer (some ⟨g, 0, none⟩)) (hg : w.heap[g]? = some (.cells cs t fr)) (hq : tmps.getD q undef = v) (hr : tmps.getD r undef = v')
    (hu : P.underlying ty = some d) (hd : (match d with | .struct _ | .array _ _ => true | _ => false) = true) (hi : (P.info? ty).map (·.size) = some cs.size) :
    (results fn tmps).run P w = .ok (.tuple #[.agg cs, v, v']) w := by
  have hp' : tmps[p]?.getD undef = .pointer (some ⟨g, 0, none⟩) := by simpa using hp
  have hq' : tmps[q]?.getD undef = v := by simpa using hq
  have hr' : tmps[r]?.getD undef = v' := by simpa using hr
  simp [results, h, hp', hq', hr', asAddr, run_loadVar_row w g t ty cs fr d hg hu hd hi]

/-- a space by value in new memory, of the flags F -/
def FreshSp (P : Value → Value) (F : List Bool) (w : World) (e : Ending) (w' : World) : Prop :=
  ∃ a n cap, e = .returned (P (.agg (spV F.length a n cap))) ∧ w'.ownsRow w.heap.size 5 1 (.slice a n cap) n (vals (packB F)) ∧ Below w.heap.size w w'
theorem FreshSp.at {w w' : World} {a : Option Addr} {n cap : Nat} {F : List Bool} (hF : F.length ≤ 2048) (h : w'.ownsRow w.heap.size 5 1 (.slice a n cap) n (vals (packB F))) : SpAt w' F.length a n cap F := ⟨hF, rfl, BytesAt.owned h⟩

theorem new_no (N : Int) (w : World) (h : N < 0 ∨ 2048 < N) :
    Calls Try.prog 8 #[.int .i64 N] w fun e w' => e = .returned (.tuple #[.agg (spV 0 none 0 0), .int .i64 1]) ∧ Below w.heap.size w w' := by
  rcases h with h | h
  · have h0 : decide (N < 0) = true := by simpa using h
    go_enter Try.func8, Try.ntmps8
    go_wp2
    exact bodyPost_ret (v := .tuple #[.agg (spV 0 none 0 0), .int .i64 1]) (results_cell_slot rfl _ _ w.heap.size 24 (spV 0 none 0 0) (0, 0) _ _ rfl (heap_alloc_new _ _) rfl Try.underlying24 rfl sizeSp) rfl ⟨rfl, (Below.refl _ _).alloc (Nat.le_refl _) _⟩
  · have h0 : decide (N < 0) = false := by simp; omega
    have h1 : decide (2048 < N) = true := by simpa using h
    go_enter Try.func8, Try.ntmps8
    go_wp2
    exact bodyPost_ret (v := .tuple #[.agg (spV 0 none 0 0), .int .i64 1]) (results_cell_slot rfl _ _ w.heap.size 24 (spV 0 none 0 0) (0, 0) _ _ rfl (heap_alloc_new _ _) rfl Try.underlying24 rfl sizeSp) rfl ⟨rfl, (Below.refl _ _).alloc (Nat.le_refl _) _⟩

theorem packB_zero (N : Nat) : packB (List.replicate N false) = List.replicate ((N + 7) / 8) 0 := by
  refine bit_ext _ _ (by simp [packB_length]) fun p hp => ?_
  rw [packB_bit]
  unfold bitU
  have h1 : (List.replicate N false).getD p false = false := by simp only [List.getD, List.getElem?_replicate]; split <;> rfl
  have h2 : (List.replicate ((N + 7) / 8) (0 : UInt8)).getD (p / 8) 0 = 0 := by simp only [List.getD, List.getElem?_replicate]; split <;> rfl
  rw [h1, h2]; simp

theorem mk_octets (m : Nat) (hm : m ≤ 1048576) (u : World) : (Instr.makeSlice 22 (.int .i64 m) (.int .i64 m)).run Try.prog u = .ok (.slice (some ⟨u.heap.size, 0, none⟩) m m) (u.alloc (.cells (madeCells #[.int .u8 0] m) 5)) := by
  obtain ⟨i0, hi, hz0, hz1, hz2⟩ := info_parts infoU8
  have := run_make u 22 5 i0 _ Try.underlying22 hi hz0 .i64 .i64 m m (by omega) (by omega) (by rw [hz2]; omega) (by omega)
  rw [hz1] at this
  simpa [Value.cells] using this
theorem new_ok (N : Nat) (w : World) (h : N ≤ 2048) :
    Calls Try.prog 8 #[.int .i64 N] w (FreshSp (fun v => .tuple #[v, .int .i64 0]) (List.replicate N false) w) := by
  have h0 : decide ((N : Int) < 0) = false := by simp
  have h1 : decide ((2048 : Int) < (N : Int)) = false := by simp; omega
  obtain ⟨m, hm⟩ : ∃ m, m = (N + 7) / 8 := ⟨_, rfl⟩
  have CO := Lib.hid (fun u => octets_any N u h)
  rw [← hm] at CO
  have hmb : m ≤ 256 := by omega
  have hmk := mk_octets m (by omega)
  have HM := Lib.hid hm
  clear hm
  have hmc : (madeCells #[.int .u8 0] m).toList = vals (List.replicate m 0) := by rw [toList_madeCells_one]; unfold vals; rw [List.map_replicate]; rfl
  have HC := Lib.hid hmc
  clear hmc
  generalize madeCells #[.int .u8 0] m = C at *
  go_enter Try.func8, Try.ntmps8
  go_wp2_with fail
  refine (CO.out _).mono ?_
  rintro e w1 ⟨rfl, rfl⟩
  go_wp2
  refine bodyPost_ret (v := .tuple #[.agg (spV N (some ⟨w.heap.size + 1, 0, none⟩) m m), .int .i64 0]) (results_cell_slot rfl _ _ w.heap.size 24 (spV N (some ⟨w.heap.size + 1, 0, none⟩) m m) (0, 0) _ _ rfl (heap_alloc2_old _ _ _) rfl Try.underlying24 rfl sizeSp) rfl ⟨some ⟨w.heap.size + 1, 0, none⟩, m, m, ?_, ?_, ((Below.refl _ _).alloc (Nat.le_refl _) _).alloc (by simp) _⟩
  · rw [List.length_replicate]
  · rw [packB_zero, ← HM.out, ← HC.out]
    have hCl : C.size = m := by have := congrArg List.length HC.out; simpa [vals_length] using this
    exact ⟨by simp [hCl], .inr ⟨w.heap.size + 1, m, C, rfl, by omega, heap_alloc2_new _ _ _, Nat.le_refl _, by unfold maxLen; omega, by omega, by rw [Nat.mul_one, List.take_of_length_le]; simp; omega⟩⟩

theorem bit_flip (x : UInt8) (j : Nat) (hj : j < 8) : bits .xor .u8 (x.toNat : Int) ((2 ^ j : Nat) : Int) = ((UInt8.ofNat (x.toNat ^^^ 2 ^ j)).toNat : Int) := by
  have : x.toNat ^^^ 2 ^ j < 256 := Nat.xor_lt_two_pow (n := 8) (UInt8.toNat_lt _) (two_pow_lt _ hj)
  rw [u8_xor_nat _ _ x.toNat_lt (two_pow_lt j hj), UInt8.toNat_ofNat']
  congr 1
  omega
theorem vals_set (l : List UInt8) (i : Nat) (x : UInt8) : (vals l).set i (.int .u8 x.toNat) = vals (l.set i x) := by simp [vals, List.map_set]

theorem flip_any (N : Int) (p : Nat) (base g n cap : Nat) (F : List Bool) (w : World) (hp : p < F.length) (hF : F.length ≤ 2048) (h : w.ownsRow base 5 1 (.slice (some ⟨g, 0, none⟩) n cap) n (vals (packB F))) :
    Calls Try.prog 30 #[.agg (spV N (some ⟨g, 0, none⟩) n cap), .int .i64 p] w fun e w' => e = .returned (.tuple #[]) ∧
      w'.ownsRow base 5 1 (.slice (some ⟨g, 0, none⟩) n cap) n (vals (packB (F.set p (!F.getD p false)))) ∧ Only (· = g) w w' := by
  have hn : n = (F.length + 7) / 8 := by have := h.1; rw [vals_length, packB_length] at this; omega
  obtain ⟨q, HQ, hwq⟩ := place_of p (by omega)
  have hqn : q < n := by have := HQ.out; omega
  have hcq := World.ownsRow.cellAt h q (by omega)
  rw [vals_at _ _ (by rw [packB_length, ← hn]; exact hqn)] at hcq
  have hqi : (q : Int) < n := by omega
  have hgl : g < w.heap.size := block_lt hcq
  have hb0 : Below w.heap.size w (w.alloc (.cells (spV N (some ⟨g, 0, none⟩) n cap) 24)).drew := ((Below.refl _ w).alloc (Nat.le_refl _) _).drew
  have hown := owned_below h hb0
  have hfl := packB_flip F p hp
  rw [← HQ.out] at hfl
  have hst := World.ownsRow.stored h q (.int .u8 ((UInt8.ofNat (((packB F).getD q 0).toNat ^^^ 2 ^ (p % 8))).toNat : Int))
  rw [vals_set, hfl] at hst
  have hbf := bit_flip ((packB F).getD q 0) (p % 8) (by omega)
  have CB := Lib.hid (fun u => bit_any p u (by omega))
  have hfr : ∀ i, (w.alloc (.cells (spV N (some ⟨g, 0, none⟩) n cap) 24)).drew.frozen? ⟨g, i, none⟩ = false := by
    intro i
    rcases hown.2 with ⟨h', _⟩ | ⟨g', cap', cur, h', _, hg', _⟩
    · simp at h'
    · simp only [Value.slice.injEq, Option.some.injEq, Addr.mk.injEq, and_true] at h'
      obtain ⟨rfl, _⟩ := h'
      exact frozen_of_row _ _ _ _ _ hg'
  have hf := hfr q
  have hcell : (w.alloc (.cells (spV N (some ⟨g, 0, none⟩) n cap) 24)).drew.cell? ⟨g, q, none⟩ = some (.int .u8 (((packB F).getD q 0).toNat : Int)) := (hb0.cell (p := ⟨g, q, none⟩) hgl).trans (by simpa using hcq)
  have HST := Lib.hid hst
  have HB := Lib.hid hb0
  clear hst hfl hown hfr hcq h hb0 hn
  generalize UInt8.ofNat (((packB F).getD q 0).toNat ^^^ 2 ^ (p % 8)) = y at *
  generalize (packB F).getD q 0 = x at *
  rw [Int.natCast_pow] at hbf
  have hbf2 : bits BinOp.xor IntKind.u8 (x.toNat : Int) (2 ^ (p % 8)) = (y.toNat : Int) := hbf
  have HBF := Lib.hid hbf2
  clear hbf hbf2
  unfold spV at *
  go_enter Try.func30, Try.ntmps30
  go_upto_region 1 with (fail)
  refine region_still_tail 10 (by kernel_rfl) (by kernel_rfl) ?_
  simp only [List.take_succ_cons, List.take_zero, List.drop_succ_cons, List.drop_zero]
  iterate 7 still_step
  still_call ((CB.out _).mono fun _ _ hh => ⟨hh.1, hh.2.symm⟩)
  repeat still_step
  refine wpStill_nil ?_
  go_wp2
  go_end0
  have HW := HST.out
  rw [HBF.out]
  have hk : ∀ u : World, Below u.heap.size u (u.alloc (.cells (spV N (some ⟨g, 0, none⟩) n cap) 24)).drew := fun u => ((Below.refl _ u).alloc (Nat.le_refl _) _).drew
  refine ⟨rfl, owned_below HW.1 (hk _), (Only.of_grown HW.2 (fun k hk => by simpa using hk.symm)).trans (Only.of_below (hk _)) (fun i _ hi => hi)⟩

end Go.Proofs.Ytcmhijhoemcdcaa
