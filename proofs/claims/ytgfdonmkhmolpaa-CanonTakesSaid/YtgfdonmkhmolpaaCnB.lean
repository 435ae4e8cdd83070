/-
  Contracts of package canon: room, lone, firsts.
-/
import Derived.Test.YtgfdonmkhmolpaaCnA
import Derived.StillTailTactics
import Derived.Laws.StructEq
import Derived.IntWalk
import Derived.BigFrame
import Derived.Laws.Rows
namespace Go.Proofs.Ytgfdonmkhmolpaa
open Go.RowKit
set_option linter.unusedVariables false
set_option linter.unusedSimpArgs false
set_option maxRecDepth 100000

/-! ### room -/
theorem kraftTo_all (ls : List Nat) (h : ∀ x ∈ ls, x ≤ 15) : kraftTo ls 15 = kraft ls := by
  unfold kraftTo kraft
  congr 1
  apply List.map_congr_left
  intro x hx
  have := h x hx
  by_cases h0 : x = 0
  · rw [if_pos (.inl h0), if_pos h0]
  · rw [if_neg (by omega), if_neg h0]
theorem kraftTo_small (ls : List Nat) (n : Nat) (hn : n ≤ 15) (hl : ls.length ≤ 320) : kraftTo ls n ≤ 5242880 := by
  have h1 := kraftTo_le ls n hn
  have h2 := kraft_small ls
  have h3 : 1 ≤ 2 ^ (15 - n) := Nat.pow_pos (by omega)
  have h4 := Nat.mul_le_mul_left (kraftTo ls n) h3
  omega
theorem boxed_row {w : World} {c : Nat → Nat} {k : IntKind} {t : TypeId} (u : World) (hb : Below (w.alloc (.cells (row16 k c) t)).heap.size (w.alloc (.cells (row16 k c) t)) u) (i : Nat) (hi : i < 16) :
    u.cell? ⟨w.heap.size, i, none⟩ = some (.int k (c i : Int)) := by
  rw [cell_of_row _ _ _ _ _ _ ((hb.block w.heap.size (by simp)).trans (heap_alloc_new w _)), row16_at _ _ _ hi]
set_option maxHeartbeats 2000000 in
theorem cnRoom_any (ls : List Nat) (w : World) (h15 : ∀ x ∈ ls, x ≤ 15) (hl : ls.length ≤ 320) :
    Calls Try.prog 31 #[.agg (tallyV ls)] w fun e w' => e = .returned (.int .i64 (32768 - (kraft ls : Nat) : Int)) ∧ Below w.heap.size w w' := by
  have HALL := Lib.hid (kraftTo_all ls h15)
  have HSM := Lib.hid (fun n (hn : n ≤ 15) => kraftTo_small ls n hn hl)
  have HCN := Lib.hid (cntN_le ls)
  have HSU := Lib.hid (kraftTo_succ ls)
  have HCELL := Lib.hid (fun i (hi : i < 16) => boxed_row (w := w) (c := cntN ls) (k := .i64) (t := 63) _ (Below.refl _ _) i hi)
  have HB := Lib.hid ((Below.refl w.heap.size w).alloc (Nat.le_refl _) (.cells (row16 .i64 (cntN ls)) 63))
  have HZ := Lib.hid (kraftTo_zero ls)
  have hsz : (row16 .i64 (cntN ls)).size = 16 := row16_size _ _
  clear h15
  unfold tallyV
  generalize row16 .i64 (cntN ls) = C at *
  go_enter Try.func31, Try.ntmps31
  go_wp2
  generalize w.alloc (.cells C 63) = wb at *
  go_loop [3, 4] (fun r i => ∃ k K R : Nat, k ≤ 15 ∧ K = k + 1 ∧ i = .int .i64 (K : Int) ∧ r = .int .i64 ((2 ^ k : Nat) - (R : Int)) ∧ R = kraftTo ls k) (fun _ i => 16 - (intOf i).toNat)
  case atStart => exact ⟨0, 1, 0, Nat.zero_le _, rfl, rfl, rfl, HZ.out.symm⟩
  case round =>
    obtain ⟨k, K, R, hk, hK, rfl, rfl, hR⟩ := hrel
    by_cases hlt : k < 15
    · have hKi : (K : Int) ≤ 15 := by omega
      have hcell := HCELL.out K (by omega)
      have hcc := HCN.out K
      have hsm := HSM.out k (by omega)
      rw [← hR] at hsm
      have hp : 2 ^ k ≤ 32768 := pow15 k (by omega)
      have HRR := Lib.hid (show 2 * R + cntN ls K = kraftTo ls (k + 1) by rw [HSU.out, hR, ← hK])
      have HP := Lib.hid (show 2 ^ (k + 1) = 2 * 2 ^ k by rw [Nat.pow_succ]; omega)
      have HK := Lib.hid hK
      generalize cntN ls K = c at *
      generalize hP : 2 ^ k = p at *
      have HPP := Lib.hid hP
      clear hR hK hP
      go_wp2
      go_round
      case rel => exact ⟨k + 1, K + 1, 2 * R + c, by omega, by have := HK.out; omega, by go_num, by rw [HP.out]; go_num, HRR.out⟩
      case measure => simp [intOf]; omega
    · obtain rfl : k = 15 := by omega
      have hKi : ¬ (K : Int) ≤ 15 := by omega
      have HR := Lib.hid (hR.trans HALL.out)
      clear hR hK
      go_wp2
      go_ret
      exact ⟨by rw [HR.out]; rfl, HB.out⟩

/-! ### lone -/
def loneN (ls : List Nat) : Bool := decide ((orderN ls).length = 0 ∨ ((orderN ls).length = 1 ∧ ls.getD ((orderN ls).getD 0 0) 0 = 1))
def eq16 (c d : Nat → Nat) : Bool := (List.range 16).all fun i => c i == d i
theorem eq16_iff (c d : Nat → Nat) : eq16 c d = true ↔ ∀ i, i < 16 → c i = d i := by simp [eq16]
theorem orderN_sum (ls : List Nat) : (orderN ls).length = cntN ls 1 + cntN ls 2 + cntN ls 3 + cntN ls 4 + cntN ls 5 + cntN ls 6 + cntN ls 7 + cntN ls 8 + cntN ls 9 + cntN ls 10 + cntN ls 11 + cntN ls 12 + cntN ls 13 + cntN ls 14 + cntN ls 15 := by
  unfold orderN
  simp only [orderTo_len ls]
  simp [orderTo]
theorem cntN_zero (ls : List Nat) : cntN ls 0 = 0 := rfl
theorem lone_eq (ls : List Nat) : loneN ls = (eq16 (cntN ls) (fun _ => 0) || eq16 (cntN ls) (fun i => if i = 1 then 1 else 0)) := by
  have hs := orderN_sum ls
  have h0 := cntN_zero ls
  rw [Bool.eq_iff_iff, Bool.or_eq_true, eq16_iff, eq16_iff]
  unfold loneN
  rw [decide_eq_true_iff]
  constructor
  · rintro (h | ⟨h, h1⟩)
    · left
      intro i hi
      rw [h] at hs
      rcases (show i = 0 ∨ i = 1 ∨ i = 2 ∨ i = 3 ∨ i = 4 ∨ i = 5 ∨ i = 6 ∨ i = 7 ∨ i = 8 ∨ i = 9 ∨ i = 10 ∨ i = 11 ∨ i = 12 ∨ i = 13 ∨ i = 14 ∨ i = 15 by omega) with rfl | rfl | rfl | rfl | rfl | rfl | rfl | rfl | rfl | rfl | rfl | rfl | rfl | rfl | rfl | rfl <;> omega
    · right
      have hm : (orderN ls)[0]? = some ((orderN ls).getD 0 0) := by rw [List.getD, List.getElem?_eq_getElem (by omega)]; rfl
      obtain ⟨_, hi, _, _⟩ := foldC_code ls 0 _ hm
      have hr := rankN_lt ls _ hi (by rw [h1]; omega)
      rw [h1] at hr
      rw [h] at hs
      intro i hi
      rcases (show i = 0 ∨ i = 1 ∨ i = 2 ∨ i = 3 ∨ i = 4 ∨ i = 5 ∨ i = 6 ∨ i = 7 ∨ i = 8 ∨ i = 9 ∨ i = 10 ∨ i = 11 ∨ i = 12 ∨ i = 13 ∨ i = 14 ∨ i = 15 by omega) with rfl | rfl | rfl | rfl | rfl | rfl | rfl | rfl | rfl | rfl | rfl | rfl | rfl | rfl | rfl | rfl <;> simp <;> omega
  · rintro (h | h)
    · left
      rw [hs, h 1 (by omega), h 2 (by omega), h 3 (by omega), h 4 (by omega), h 5 (by omega), h 6 (by omega), h 7 (by omega), h 8 (by omega), h 9 (by omega), h 10 (by omega), h 11 (by omega), h 12 (by omega), h 13 (by omega), h 14 (by omega), h 15 (by omega)]
    · right
      refine ⟨by rw [hs, h 1 (by omega), h 2 (by omega), h 3 (by omega), h 4 (by omega), h 5 (by omega), h 6 (by omega), h 7 (by omega), h 8 (by omega), h 9 (by omega), h 10 (by omega), h 11 (by omega), h 12 (by omega), h 13 (by omega), h 14 (by omega), h 15 (by omega)]; rfl, ?_⟩
      have h1 := h 1 (by omega)
      have hl : (symsN ls 1).length = 1 := (symsN_cnt ls 1 (by omega)).trans h1
      have hr := order_row ls 0 0 (by omega) (by show 0 < (symsN ls 1).length; omega)
      obtain ⟨i, hi, _, h3, _⟩ := symsN_at ls 1 0 (by omega)
      rw [hi] at hr
      rw [show (orderTo ls 0).length + 0 = 0 by simp [orderTo]] at hr
      have e : (orderN ls).getD 0 0 = i := by rw [List.getD, hr]; rfl
      rw [e]
      exact h3
theorem run_equal16 (w : World) (t : TypeId) (ht : Try.prog.underlying t = some (.array 16 3)) (c d : Nat → Nat) :
    (Op.equalIn 10000 t (.agg (row16 .i64 c)) (.agg (row16 .i64 d))).run Try.prog w = .ok (eq16 c d) w := by
  obtain ⟨i0, hi0, hz0, hz1, hz2⟩ := info_parts infoIntS
  have hsz : ∀ w, (sizeOf 3).run Try.prog w = .ok 1 w := fun w => by simp [sizeOf, typeInfo, hi0, hz1, Result.andThen]
  unfold eq16
  rw [show (10000 : Nat) = 9999 + 1 from rfl, List.range_eq_range', Op.equalIn]
  simp only [Sem.run_bind, run_underlying ht, Result.andThen_ok, hsz, Std.Legacy.Range.forIn_eq_forIn_range', Std.Legacy.Range.size, Nat.sub_zero, Nat.add_sub_cancel, Nat.div_one]
  have hl : ∀ i ∈ List.range' 0 16 1, i < 16 := fun i hi => by simpa using (List.mem_range'_1.1 hi).2
  generalize List.range' 0 16 1 = l at hl ⊢
  induction l with
  | nil => simp
  | cons i l ih =>
    have hi : i < 16 := hl i (by simp)
    have px : ∀ c : Nat → Nat, (part 3 (row16 .i64 c) (i * 1)).run Try.prog w = .ok (.int .i64 (c i : Int)) w := fun c => by
      have := row16_at .i64 c i hi
      simp [part, isAgg, run_underlying Try.underlying3, this]
    have pe : (Op.equalIn 9999 3 (.int .i64 (c i : Int)) (.int .i64 (d i : Int))).run Try.prog w = .ok (c i == d i) w := by
      rw [show (9999 : Nat) = 9998 + 1 from rfl, run_equalIn_int w 9998 3 .i64 .i64 _ _ Try.underlying3]
      congr 1
      rw [Bool.eq_iff_iff]
      simp
      omega
    simp only [List.forIn_cons, Sem.run_bind, px, pe, Result.andThen_ok, List.all_cons]
    cases hb : (c i == d i)
    · simp
    · simp only [Bool.not_true, Bool.false_eq_true, if_false, Sem.run_pure, Result.andThen_ok, Bool.true_and]
      exact ih fun j hj => hl j (by simp [hj])
/-- a whole row read, behind a guard -/
theorem wpList_load_rowG {ops : Array Oper} {rest : List Oper} {o : Oper} {a : Act} {w : World} {Q : Exit → Act → World → Prop} (hw : Region.wanted o (yielded ops a.tmps) = true) (ty : TypeId) (x : Operand) (ho : o.op = .load ty x)
    (g : Nat) (hx : a.eval x = .pointer (some ⟨g, 0, none⟩)) (t : TypeId) (cs : Array Value) (fr : Nat × Nat) (m : Nat) (et : TypeId) (hg : w.heap[g]? = some (.cells cs t fr))
    (hu : Try.prog.underlying ty = some (.array m et)) (hi : (Try.prog.info? ty).map (·.size) = some cs.size)
    (h : wpList Try.prog ops Q rest (a.put o.dst (.agg cs)) w) : wpList Try.prog ops Q (o :: rest) a w :=
  Go.BigFrame.wpList_want hw fun _ hK => wp_load_row ty x ho g hx t cs fr _ hg hu rfl hi (hK _ _ h)
theorem zero_one16 : row16 .i64 (fun i => if i = 1 then 1 else 0) = (Array.replicate 16 (Value.int .i64 0)).setIfInBounds 1 (.int .i64 1) := by
  rw [← row16_zero .i64 (fun _ => 0) (fun _ _ => rfl), show (Value.int .i64 1) = .int .i64 ((1 : Nat) : Int) from rfl, row16_set]
set_option maxHeartbeats 2000000 in
theorem cnLone_any (ls : List Nat) (w : World) :
    Calls Try.prog 33 #[.agg (tallyV ls)] w fun e w' => e = .returned (.bool (loneN ls)) ∧ Below w.heap.size w w' := by
  have hz := (zero_of_info infoTally).1
  have HE := Lib.hid (lone_eq ls)
  have E0 := Lib.hid (fun u => run_equal16 u 63 Try.underlying63 (cntN ls) (fun _ => 0))
  have E1 := Lib.hid (fun u => run_equal16 u 63 Try.underlying63 (cntN ls) (fun i => if i = 1 then 1 else 0))
  rw [row16_zero .i64 (fun _ => 0) (fun _ _ => rfl)] at E0
  rw [zero_one16] at E1
  have HB := Lib.hid ((Below.refl w.heap.size w).alloc (Nat.le_refl _) (.cells (row16 .i64 (cntN ls)) 63))
  have HR := Lib.hid (heap_alloc_new w (.cells (row16 .i64 (cntN ls)) 63))
  have hsz := row16_size .i64 (cntN ls)
  have HSZ := Lib.hid (hsz)
  unfold tallyV
  generalize row16 .i64 (cntN ls) = C at *
  generalize eq16 (cntN ls) (fun _ => 0) = b0 at *
  generalize eq16 (cntN ls) (fun i => if i = 1 then 1 else 0) = b1 at *
  clear hsz
  have e0 := E0.out
  have e1 := E1.out
  go_enter Try.func33, Try.ntmps33
  cases b0 with
  | true =>
    go_wp2_with (refine wpList_load_row rfl _ _ rfl w.heap.size rfl 63 C (0, 0) _ HR.out Try.underlying63 rfl (by rw [HSZ.out]; exact sizeTally) ?_)
    go_ret
    exact ⟨by rw [HE.out]; rfl, HB.out⟩
  | false =>
    go_wp2_with (first
      | (refine wpList_load_row rfl _ _ rfl w.heap.size rfl 63 C (0, 0) _ HR.out Try.underlying63 rfl (by rw [HSZ.out]; exact sizeTally) ?_)
      | (refine wpList_load_rowG rfl _ _ rfl w.heap.size rfl 63 C (0, 0) _ _ HR.out Try.underlying63 (by rw [HSZ.out]; exact sizeTally) ?_))
    go_wp2_with (refine wpList_load_row rfl _ _ rfl w.heap.size rfl 63 C (0, 0) _ HR.out Try.underlying63 rfl (by rw [HSZ.out]; exact sizeTally) ?_)
    go_ret
    exact ⟨by rw [HE.out]; rfl, HB.out⟩

/-! ### firsts -/
def firstsV (ls : List Nat) : Array Value := row16 .u64 (firstN ls)
def firstTo (ls : List Nat) (k i : Nat) : Nat := if i ≤ k then firstN ls i else 0
theorem firstTo_succ (ls : List Nat) (k i : Nat) : (if i = k + 1 then firstN ls (k + 1) else firstTo ls k i) = firstTo ls (k + 1) i := by
  unfold firstTo
  by_cases h : i = k + 1
  · subst h; rw [if_pos rfl, if_pos (Nat.le_refl _)]
  · rw [if_neg h]
    by_cases h2 : i ≤ k
    · rw [if_pos h2, if_pos (by omega)]
    · rw [if_neg h2, if_neg (by omega)]
/-- the three blocks of firsts -/
def FirW (w wx : World) (ls : List Nat) (k : Nat) : Prop :=
  wx.heap[w.heap.size]? = some (.cells (row16 .i64 (cntN ls)) 63 (0, 0)) ∧ wx.heap[w.heap.size + 1]? = some (.cells (Array.replicate 16 (.int .u64 0)) 61 (0, 0)) ∧ wx.heap[w.heap.size + 2]? = some (.cells (row16 .u64 (firstTo ls k)) 61 (0, 0)) ∧ Below w.heap.size w wx
theorem FirW.set {w wx : World} {ls : List Nat} {k : Nat} (h : FirW w wx ls k) : FirW w (wx.setCell ⟨w.heap.size + 2, k + 1, none⟩ (.int .u64 (firstN ls (k + 1) : Nat))) ls (k + 1) := by
  obtain ⟨h1, h2, h3, h4⟩ := h
  refine ⟨?_, ?_, ?_, h4.setCell (by simp) _⟩
  · rw [heap_setCell_other _ _ _ _ (by simp)]; exact h1
  · rw [heap_setCell_other _ _ _ _ (by simp)]; exact h2
  · rw [heap_setCell_same _ _ _ _ _ _ h3, row16_set]
    simp only [firstTo_succ]
theorem FirW.drewN {w wx : World} {ls : List Nat} {k : Nat} (h : FirW w wx ls k) (n : Nat) : FirW w (wx.drewN n) ls k := ⟨h.1, h.2.1, h.2.2.1, below_drewN h.2.2.2 n⟩
theorem FirW.drew {w wx : World} {ls : List Nat} {k : Nat} (h : FirW w wx ls k) : FirW w wx.drew ls k := h.drewN 1
theorem FirW.many {w wx : World} {ls : List Nat} {k : Nat} (h : FirW w wx ls k) (i : Nat) (hi : i < 16) : wx.cell? ⟨w.heap.size, i, none⟩ = some (.int .i64 (cntN ls i : Nat)) := by rw [cell_of_row _ _ _ _ _ _ h.1, row16_at _ _ _ hi]
theorem FirW.out {w wx : World} {ls : List Nat} {k : Nat} (h : FirW w wx ls k) (i : Nat) (hi : i < 16) : wx.cell? ⟨w.heap.size + 2, i, none⟩ = some (.int .u64 (firstTo ls k i : Nat)) := by rw [cell_of_row _ _ _ _ _ _ h.2.2.1, row16_at _ _ _ hi]
theorem FirW.free {w wx : World} {ls : List Nat} {k : Nat} (h : FirW w wx ls k) (i : Nat) : wx.frozen? ⟨w.heap.size + 2, i, none⟩ = false := frozen_of_row _ _ _ _ _ h.2.2.1

theorem first_start (ls : List Nat) (w : World) : FirW w (((w.alloc (.cells (row16 .i64 (cntN ls)) 63)).alloc (.cells (Array.replicate 16 (.int .u64 0)) 61)).alloc (.cells (Array.replicate 16 (.int .u64 0)) 61)) ls 0 := by
  have hb : Below w.heap.size w (w.alloc (.cells (row16 .i64 (cntN ls)) 63)) := (Below.refl w.heap.size w).alloc (Nat.le_refl _) _
  have hb2 := ((Below.refl (w.alloc (.cells (row16 .i64 (cntN ls)) 63)).heap.size (w.alloc (.cells (row16 .i64 (cntN ls)) 63))).alloc (Nat.le_refl _) (.cells (Array.replicate 16 (.int .u64 0)) 61)).alloc (by simp) (.cells (Array.replicate 16 (.int .u64 0)) 61)
  have h1 := heap_alloc2_old (w.alloc (.cells (row16 .i64 (cntN ls)) 63)) (.cells (Array.replicate 16 (.int .u64 0)) 61) (.cells (Array.replicate 16 (.int .u64 0)) 61)
  have h2 := heap_alloc2_new (w.alloc (.cells (row16 .i64 (cntN ls)) 63)) (.cells (Array.replicate 16 (.int .u64 0)) 61) (.cells (Array.replicate 16 (.int .u64 0)) 61)
  rw [show (w.alloc (.cells (row16 .i64 (cntN ls)) 63)).heap.size = w.heap.size + 1 by simp] at h1 h2
  refine ⟨(hb2.block w.heap.size (by simp)).trans (heap_alloc_new w _), h1, ?_, hb.trans (hb2.mono (by simp))⟩
  rw [h2, row16_zero .u64 (firstTo ls 0) fun i hi => by
    unfold firstTo
    by_cases h : i ≤ 0
    · rw [if_pos h, show i = 0 by omega]; rfl
    · rw [if_neg h]]

set_option maxHeartbeats 4000000 in
theorem cnFirsts_any (ls : List Nat) (w : World) (hk : kraft ls ≤ 32768) :
    Calls Try.prog 29 #[.agg (tallyV ls)] w fun e w' => e = .returned (.agg (firstsV ls)) ∧ Below w.heap.size w w' := by
  have hz := (zero_of_info infoFirst).1
  have HF := Lib.hid (fun n (hn : n ≤ 15) => first_le ls hk n hn)
  have H00 := Lib.hid (first_start ls w)
  have hsz := row16_size .i64 (cntN ls)
  clear hk
  unfold tallyV
  generalize hC : row16 .i64 (cntN ls) = C at *
  have HC := Lib.hid hC
  clear hC
  go_enter Try.func29, Try.ntmps29
  go_wp2
  generalize ((w.alloc (.cells C 63)).alloc (.cells (Array.replicate 16 (.int .u64 0)) 61)).alloc (.cells (Array.replicate 16 (.int .u64 0)) 61) = w00 at *
  go_loopw [4] (fun i wx => ∃ k K : Nat, k ≤ 15 ∧ K = k + 1 ∧ i = .int .i64 (K : Int) ∧ FirW w wx ls k) (fun i _ => 16 - (intOf i).toNat)
  case atStart => exact ⟨0, 1, Nat.zero_le _, rfl, rfl, H00.out⟩
  case round =>
    obtain ⟨k, K, hk, hK, rfl, ht⟩ := hrel
    have HT := Lib.hid ht
    clear ht
    by_cases hlt : k < 15
    · have hKi : (K : Int) ≤ 15 := by omega
      have hc1 := HT.out.out k (by omega)
      have hc2 := HT.out.many k (by omega)
      have hf := HF.out k (by omega)
      have hp : 2 ^ k ≤ 32768 := pow15 k (by omega)
      have hc3 := HT.out.out K (by omega)
      have hfr := HT.out.free K
      have HN := Lib.hid HT.out.set
      rw [← hK] at HN
      have hFK : 2 * (firstN ls k + cntN ls k) = firstN ls K := by rw [hK]; rfl
      rw [show firstTo ls k k = firstN ls k from if_pos (Nat.le_refl _)] at hc1
      have HFK := Lib.hid hFK
      have hFb : firstN ls k + cntN ls k ≤ 32768 := by omega
      clear hFK hf hp
      generalize firstN ls k = x at *
      generalize cntN ls k = y at *
      generalize firstTo ls k K = z at *
      have e1 : IntKind.i64.wrap ((K : Int) - 1) = (k : Int) := by rw [IntWalk.i64_in _ (by omega)]; omega
      have e2 : IntKind.u64.wrap (y : Int) = (y : Int) := by rw [IntKind.wrap_u64]; omega
      have e3 : IntKind.u64.wrap ((x : Int) + (y : Int)) = (x : Int) + (y : Int) := by rw [IntKind.wrap_u64]; omega
      have hKb : K ≤ 15 := by omega
      have hkb : k < 15 := hlt
      have HK := Lib.hid hK
      clear hK
      go_wp2
      go_region
      rw [show ((x : Int) + (y : Int)) * 2 = ((firstN ls K : Nat) : Int) by rw [← HFK.out]; omega]
      clear e1 e2 e3
      go_wp2
      go_roundw
      case rel => exact ⟨k + 1, K + 1, by omega, by have := HK.out; omega, by go_num, by rw [← HK.out]; exact HN.out.drew⟩
      case measure => simp [intOf]; omega
    · obtain rfl : k = 15 := by omega
      have hKi : ¬ (K : Int) ≤ 15 := by omega
      obtain ⟨t1, t2, t3, t4⟩ := HT.out
      rw [row16_congr .u64 (firstTo ls 15) (firstN ls) (fun i hi => if_pos (by omega))] at t3
      clear HT hK HF
      go_wp2_with (first
        | (refine wpList_load_row rfl _ _ rfl (w.heap.size + 2) rfl 61 (row16 .u64 (firstN ls)) (0, 0) _ t3 Try.underlying61 rfl (by rw [row16_size]; exact sizeFirst) ?_)
        | (refine wpList_store_row rfl _ _ _ rfl (w.heap.size + 1) (row16 .u64 (firstN ls)) rfl rfl 61 (Array.replicate 16 (.int .u64 0)) t2 (by rw [row16_size]; exact sizeFirst) (by simp only [row16_size]; rfl) (row16_one _ _) ?_))
      refine bodyPost_ret (v := .agg (row16 .u64 (firstN ls))) (results_cell_row rfl _ _ (w.heap.size + 1) 61 (row16 .u64 (firstN ls)) (0, 0) _ rfl ?_ Try.underlying61 rfl (by rw [row16_size]; exact sizeFirst)) rfl ⟨rfl, ?_⟩
      · exact heap_setRow_same _ _ _ _ _ t2
      · exact below_setRow t4 (by omega) _
end Go.Proofs.Ytgfdonmkhmolpaa
