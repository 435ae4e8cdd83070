/-
  Contracts of package canon: valid, tallyOf, room, firsts.
-/
import Derived.Test.YtgfdonmkhmolpaaCnS
import Derived.Deep.WholeRow
import Derived.Deep.LoopGhost
namespace Go.Proofs.Ytgfdonmkhmolpaa
open Go.RowKit
set_option linter.unusedVariables false
set_option linter.unusedSimpArgs false
set_option maxRecDepth 100000

/-! ### sixteen numbers -/
def row16 (k : IntKind) (c : Nat → Nat) : Array Value := ((List.range 16).map fun i => .int k (c i : Int)).toArray
theorem row16_size (k : IntKind) (c : Nat → Nat) : (row16 k c).size = 16 := by simp [row16]
theorem row16_at (k : IntKind) (c : Nat → Nat) (i : Nat) (h : i < 16) : (row16 k c)[i]? = some (.int k (c i : Int)) := by simp [row16, h]
theorem row16_set (k : IntKind) (c : Nat → Nat) (m v : Nat) : (row16 k c).setIfInBounds m (.int k (v : Int)) = row16 k (fun i => if i = m then v else c i) := by
  apply Array.ext_getElem?
  intro i
  rw [Array.getElem?_setIfInBounds, row16_size]
  by_cases hi : i < 16
  · rw [row16_at _ _ _ hi, row16_at _ _ _ hi]
    by_cases he : m = i
    · subst he; simp [hi]
    · rw [if_neg he, if_neg (fun h => he h.symm)]
  · rw [Array.getElem?_eq_none (by rw [row16_size]; omega), Array.getElem?_eq_none (by rw [row16_size]; omega)]
    by_cases he : m = i
    · subst he; simp [hi]
    · rw [if_neg he]
theorem row16_one (k : IntKind) (c : Nat → Nat) : (row16 k c).all (·.oneCell') = true := by
  refine Array.all_eq_true_iff_forall_mem.2 fun v hv => ?_
  simp only [row16, List.mem_toArray, List.mem_map] at hv
  obtain ⟨i, _, rfl⟩ := hv
  rfl
theorem row16_congr (k : IntKind) (c d : Nat → Nat) (h : ∀ i, i < 16 → c i = d i) : row16 k c = row16 k d := by
  unfold row16
  congr 1
  apply List.map_congr_left
  intro i hi
  rw [h i (List.mem_range.1 hi)]
theorem row16_zero (k : IntKind) (c : Nat → Nat) (h : ∀ i, i < 16 → c i = 0) : row16 k c = Array.replicate 16 (.int k 0) := by
  apply Array.ext_getElem?
  intro i
  by_cases hi : i < 16
  · rw [row16_at _ _ _ hi, h i hi]; simp [Array.getElem?_replicate, hi]
  · rw [Array.getElem?_eq_none (by rw [row16_size]; omega), Array.getElem?_eq_none (by simp; omega)]

theorem infoTally : (Try.prog.info? 63).map (fun i => (i.zero, i.size)) = some (some (.agg (Array.replicate 16 (.int .i64 0))), 16) := by kernel_rfl
theorem sizeTally : (Try.prog.info? 63).map (·.size) = some 16 := (zero_of_info infoTally).2
theorem infoFirst : (Try.prog.info? 61).map (fun i => (i.zero, i.size)) = some (some (.agg (Array.replicate 16 (.int .u64 0))), 16) := by kernel_rfl
theorem sizeFirst : (Try.prog.info? 61).map (·.size) = some 16 := (zero_of_info infoFirst).2

/-! ### valid -/
set_option maxHeartbeats 2000000 in
theorem cnValid_any (a : Option Addr) (n cap : Nat) (L : List Int) (w : World) (h : IntsAt w a n cap L) :
    Calls Try.prog 30 #[.slice a n cap] w fun e w' => e = .returned (.bool (validL L)) ∧ w = w' := by
  have hl : L.length = n := h.1
  have hn : n ≤ 9223372036854775807 := by have := h.2.1; have := h.2.2.1; unfold maxLen at *; omega
  have HL := Lib.hid h
  have H1 := Lib.hid hl
  by_cases hbig : 320 < n
  · have hE := Lib.hid (show validL L = false by rw [validL_eq, hl]; simp; omega)
    have hbi : (320 : Int) < n := by omega
    clear h hl
    go_enter Try.func30, Try.ntmps30
    go_wp2
    go_ret
    exact ⟨by rw [hE.out]; rfl, rfl⟩
  have HNV := Lib.hid (fun k (hk : k < n) => not_valid L k (by rw [hl]; exact hk))
  have HAL := Lib.hid (fun k (hk : k < n) => all_take L k (by rw [hl]; exact hk))
  have HCH := Lib.hid (show L.all okI = true → validL L = true from fun h => by rw [validL_eq, hl, h]; simp; omega)
  have hn3 : n ≤ 320 := by omega
  have hbi : ¬ (320 : Int) < n := by omega
  clear h hl
  go_enter Try.func30, Try.ntmps30
  go_wp2
  go_loop [10] (fun i => ∃ k : Nat, k ≤ n ∧ i = .int .i64 k ∧ (L.take k).all okI = true) (fun i => n - (intOf i).toNat)
  case atStart => exact ⟨0, Nat.zero_le _, rfl, rfl⟩
  case round =>
    obtain ⟨k, hk, rfl, hv⟩ := hrel
    have HV := Lib.hid hv
    clear hv
    by_cases hlt : k < n
    · obtain ⟨b, off, rfl, _, hc⟩ := IntsAt.cell HL.out (by omega)
      have x1 := hc k hlt
      have hki : (k : Int) < n := by omega
      have hok := HAL.out k hlt
      have hno := HNV.out k hlt
      clear hc
      generalize L.getD k 0 = z at *
      have HOK := Lib.hid hok
      clear hok HAL HNV
      by_cases hneg : z < 0
      · have HR := Lib.hid (hno (by unfold okI; simp; omega))
        clear hno
        go_wp2
        go_ret
        exact ⟨by rw [HR.out]; rfl, rfl⟩
      · by_cases h15 : 15 < z
        · have HR := Lib.hid (hno (by unfold okI; simp; omega))
          clear hno
          go_wp2
          go_ret
          exact ⟨by rw [HR.out]; rfl, rfl⟩
        · clear hno
          have hok2 : okI z = true := by unfold okI; simp; omega
          have HYV := Lib.hid (show (L.take (k + 1)).all okI = true by rw [HOK.out, HV.out, hok2]; rfl)
          clear hok2 HOK
          go_wp2
          go_round
          case rel => exact ⟨k + 1, by omega, by go_num, HYV.out⟩
          case measure => simp [intOf]; omega
    · obtain rfl : k = n := by omega
      have hki : ¬ (k : Int) < k := by omega
      have HT := Lib.hid (show L.take k = L from List.take_of_length_le (by have := H1.out; omega))
      have hv2 := HV.out
      rw [HT.out] at hv2
      have HC := Lib.hid (HCH.out hv2)
      clear HCH HV hv2 HNV HAL
      go_wp2
      go_ret
      exact ⟨by rw [HC.out]; rfl, rfl⟩

/-! ### how many codes of each length -/
def tallyV (ls : List Nat) : Array Value := row16 .i64 (cntN ls)
theorem cntN_snoc (ls : List Nat) (y i : Nat) : cntN (ls ++ [y]) i = if i = y ∧ y ≠ 0 then cntN ls i + 1 else cntN ls i := by
  unfold cntN
  by_cases hi : i = 0
  · subst hi
    rw [if_pos rfl, if_pos rfl, if_neg (fun h => h.2 h.1.symm)]
  · rw [if_neg hi, if_neg hi, List.count_append, List.count_singleton]
    by_cases hy : i = y
    · subst hy; simp [hi]
    · rw [if_neg (by simp; exact fun h => hy h.symm), if_neg (fun h => hy h.1)]; rfl
theorem cntN_le (ls : List Nat) (i : Nat) : cntN ls i ≤ ls.length := by
  unfold cntN
  split
  · exact Nat.zero_le _
  · exact List.count_le_length
/-- the two blocks of tallyOf -/
def TalW (w wx : World) (c : Nat → Nat) : Prop :=
  wx.heap[w.heap.size]? = some (.cells (Array.replicate 16 (.int .i64 0)) 63 (0, 0)) ∧ wx.heap[w.heap.size + 1]? = some (.cells (row16 .i64 c) 63 (0, 0)) ∧ Below w.heap.size w wx ∧ wx.heap.size = w.heap.size + 2
theorem TalW.set {w wx : World} {c : Nat → Nat} (h : TalW w wx c) (m v : Nat) : TalW w (wx.setCell ⟨w.heap.size + 1, m, none⟩ (.int .i64 (v : Int))) (fun i => if i = m then v else c i) := by
  obtain ⟨h1, h2, h3, h4⟩ := h
  refine ⟨?_, ?_, h3.setCell (by simp) _, by simpa using h4⟩
  · rw [heap_setCell_other _ _ _ _ (by simp)]; exact h1
  · rw [heap_setCell_same _ _ _ _ _ _ h2, row16_set]
theorem TalW.cell {w wx : World} {c : Nat → Nat} (h : TalW w wx c) (i : Nat) (hi : i < 16) : wx.cell? ⟨w.heap.size + 1, i, none⟩ = some (.int .i64 (c i : Int)) := by
  rw [cell_of_row _ _ _ _ _ _ h.2.1, row16_at _ _ _ hi]
theorem TalW.free {w wx : World} {c : Nat → Nat} (h : TalW w wx c) (i : Nat) : wx.frozen? ⟨w.heap.size + 1, i, none⟩ = false := frozen_of_row _ _ _ _ _ h.2.1
theorem TalW.congr {w wx : World} {c d : Nat → Nat} (h : TalW w wx c) (he : ∀ i, i < 16 → c i = d i) : TalW w wx d := by
  obtain ⟨h1, h2, h3⟩ := h
  rw [row16_congr _ _ _ he] at h2
  exact ⟨h1, h2, h3⟩

set_option maxHeartbeats 2000000 in
theorem cnTally_any (a : Option Addr) (n cap : Nat) (L : List Int) (w : World) (h : IntsAt w a n cap L) (hv : validL L = true) :
    Calls Try.prog 28 #[.slice a n cap] w fun e w' => e = .returned (.agg (tallyV (natsL L))) ∧ Below w.heap.size w w' := by
  have hl : L.length = n := h.1
  have hz := (zero_of_info infoTally).1
  have hval : n ≤ 320 ∧ L.all okI = true := by rw [validL_eq, hl] at hv; simpa using hv
  have hn3 : n ≤ 320 := hval.1
  have HL := Lib.hid h
  have H1 := Lib.hid hl
  have HOK := Lib.hid (fun k (hk : k < n) => show okI (L.getD k 0) = true by
    have := List.all_eq_true.1 hval.2 (L.getD k 0) (by rw [List.getD, List.getElem?_eq_getElem (by omega)]; exact List.getElem_mem _)
    exact this)
  have HNT := Lib.hid (fun k (hk : k < n) => natsL_take L k (by rw [hl]; exact hk))
  have HLE := Lib.hid (fun k i => show cntN (natsL (L.take k)) i ≤ 320 by
    have h1 := cntN_le (natsL (L.take k)) i
    have h2 : (natsL (L.take k)).length ≤ 320 := by unfold natsL; rw [List.length_map, List.length_take]; omega
    omega)
  clear h hl hval hv
  go_enter Try.func28, Try.ntmps28
  go_wp2
  have H00 := Lib.hid (show TalW w ((w.alloc (.cells (Array.replicate 16 (.int .i64 0)) 63)).alloc (.cells (Array.replicate 16 (.int .i64 0)) 63)) (cntN (natsL (L.take 0))) from
    ⟨heap_alloc2_old w _ _, by rw [row16_zero _ _ (fun i _ => by simp [natsL, cntN])]; exact heap_alloc2_new w _ _, ((Below.refl _ _).alloc (Nat.le_refl _) _).alloc (by simp) _, by simp⟩)
  generalize (w.alloc (.cells (Array.replicate 16 (.int .i64 0)) 63)).alloc (.cells (Array.replicate 16 (.int .i64 0)) 63) = w00 at *
  go_loopw [5, 8] (fun v i wx => ∃ k : Nat, k ≤ n ∧ i = .int .i64 k ∧ TalW w wx (cntN (natsL (L.take k)))) (fun _ i _ => n - (intOf i).toNat)
  case atStart => exact ⟨0, Nat.zero_le _, rfl, H00.out⟩
  case round =>
    obtain ⟨k, hk, rfl, ht⟩ := hrel
    have HT := Lib.hid ht
    clear ht
    by_cases hlt : k < n
    · obtain ⟨b, off, rfl, _, hc⟩ := IntsAt.cell (CameAt.below HL.out (by omega) HT.out.2.2.1) (by omega)
      have x1 := hc k hlt
      have hki : (k : Int) < n := by omega
      have hok := HOK.out k hlt
      have hnt := HNT.out k hlt
      clear hc
      generalize L.getD k 0 = z at *
      have hz2 : 0 ≤ z ∧ z ≤ 15 := by unfold okI at hok; simpa using hok
      obtain ⟨y, rfl⟩ : ∃ y : Nat, z = y := ⟨z.toNat, by omega⟩
      have hy : y ≤ 15 := by omega
      rw [Int.toNat_natCast] at hnt
      have HS := Lib.hid (fun i => show cntN (natsL (L.take (k + 1))) i = if i = y ∧ y ≠ 0 then cntN (natsL (L.take k)) i + 1 else cntN (natsL (L.take k)) i by rw [hnt]; exact cntN_snoc _ y i)
      clear hok hnt hz2
      by_cases h0 : y = 0
      · subst h0
        have HN := Lib.hid (show TalW w wr (cntN (natsL (L.take (k + 1)))) from HT.out.congr fun i _ => by rw [HS.out, if_neg (by simp)])
        go_wp2
        go_roundw
        case rel => exact ⟨k + 1, by omega, by go_num, HN.out⟩
        case measure => simp [intOf]; omega
      · have h0i : (0 : Int) < y := by omega
        have hcell := HT.out.cell y (by omega)
        have hfree := HT.out.free y
        have hle := HLE.out k y
        have HN := Lib.hid (show TalW w (wr.setCell ⟨w.heap.size + 1, y, none⟩ (.int .i64 ((cntN (natsL (L.take k)) y : Nat) + 1 : Int))) (cntN (natsL (L.take (k + 1)))) from
          (HT.out.set y (cntN (natsL (L.take k)) y + 1)).congr fun i _ => by
            rw [HS.out]
            by_cases hi : i = y
            · subst hi; rw [if_pos rfl, if_pos ⟨rfl, h0⟩]
            · rw [if_neg hi, if_neg (fun h => hi h.1)])
        clear HS
        generalize cntN (natsL (L.take k)) y = cc at *
        go_wp2
        go_roundw
        case rel => exact ⟨k + 1, by omega, by go_num, HN.out⟩
        case measure => simp [intOf]; omega
    · obtain rfl : k = n := by omega
      have hki : ¬ (k : Int) < k := by omega
      have HTK := Lib.hid (show L.take k = L from List.take_of_length_le (by have := H1.out; omega))
      have ht := HT.out
      rw [HTK.out] at ht
      obtain ⟨t1, t2, t3, t4⟩ := ht
      clear HT HOK HNT HLE
      go_wp2_with (first
        | (refine wpList_load_row rfl _ _ rfl (w.heap.size + 1) rfl 63 (row16 .i64 (cntN (natsL L))) (0, 0) _ t2 Try.underlying63 rfl (by rw [row16_size]; exact sizeTally) ?_)
        | (refine wpList_store_row rfl _ _ _ rfl w.heap.size (row16 .i64 (cntN (natsL L))) rfl rfl 63 (Array.replicate 16 (.int .i64 0)) t1 (by rw [row16_size]; exact sizeTally) (by simp only [row16_size]; rfl) (row16_one _ _) ?_))
      refine bodyPost_ret (v := .agg (row16 .i64 (cntN (natsL L)))) (results_cell_row rfl _ _ w.heap.size 63 (row16 .i64 (cntN (natsL L))) (0, 0) _ rfl ?_ Try.underlying63 rfl (by rw [row16_size]; exact sizeTally)) rfl ⟨rfl, ?_⟩
      · exact heap_setRow_same _ _ _ _ _ t1
      · exact below_setRow t3 (Nat.le_refl _) _
end Go.Proofs.Ytgfdonmkhmolpaa
