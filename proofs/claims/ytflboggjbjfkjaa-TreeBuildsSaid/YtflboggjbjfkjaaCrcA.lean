/-
  Contracts of package crc: shift, Table.
-/
import Derived.Test.YtflboggjbjfkjaaOctMem
import Derived.Test.YtflboggjbjfkjaaCrcMath
import Derived.Deep.WholeRow
import Derived.Deep.LoopGhost
namespace Go.Proofs.Ytflboggjbjfkjaa
open Go.RowKit
set_option linter.unusedVariables false
set_option linter.unusedSimpArgs false

theorem step_int (w : Nat) (h : w < 4294967296) :
    bits .xor .u32 ((w : Int) / 2) (IntKind.u32.wrap (3988292384 * bits .and .u32 (w : Int) 1)) = ((step w : Nat) : Int) := by
  have h1 : bits .and .u32 (w : Int) 1 = ((w % 2 : Nat) : Int) := by
    have := u32_and_nat w 1 h (by omega)
    rw [Nat.and_one_is_mod] at this
    exact this
  have h2 : ((w : Int) / 2) = ((w / 2 : Nat) : Int) := by simp
  rw [h1, h2]
  unfold step poly
  by_cases hw : w % 2 = 1
  · rw [if_pos hw, hw, show IntKind.u32.wrap (3988292384 * ((1 : Nat) : Int)) = ((3988292384 : Nat) : Int) by rfl, u32_xor_nat _ _ (by omega) (by omega)]
  · rw [if_neg hw, show w % 2 = 0 by omega, show IntKind.u32.wrap (3988292384 * ((0 : Nat) : Int)) = ((0 : Nat) : Int) by rfl, u32_xor_nat _ _ (by omega) (by omega), Nat.xor_zero]

theorem shift_any (v : Nat) (w : World) (h : v < 4294967296) :
    Calls Try.prog 66 #[.int .u32 v] w fun e w' => e = .returned (.int .u32 (steps 8 v : Nat)) ∧ w = w' := by
  go_enter Try.func66, Try.ntmps66
  go_wp2
  go_loop [0, 3] (fun x i => ∃ k u : Nat, k ≤ 8 ∧ i = .int .i64 k ∧ x = .int .u32 u ∧ u < 4294967296 ∧ steps (8 - k) u = steps 8 v) (fun _ i => 8 - (intOf i).toNat)
  case atStart => exact ⟨0, v, by omega, rfl, rfl, h, rfl⟩
  case round =>
    obtain ⟨k, u, hk, rfl, rfl, hu, hs⟩ := hrel
    have HS := Lib.hid hs
    clear hs
    by_cases hlt : k < 8
    · have h8 : 8 - k = (8 - (k + 1)) + 1 := by omega
      have H8 := Lib.hid h8
      have HI := Lib.hid (step_int u hu)
      clear h8
      go_wp2
      go_round
      case rel =>
        refine ⟨k + 1, step u, by omega, by go_num, ?_, step_lt u hu, by rw [← HS.out, H8.out]; rfl⟩
        exact congrArg _ HI.out
      case measure => simp [intOf]; omega
    · obtain rfl : k = 8 := by omega
      go_wp2
      go_ret
      have h0 := HS.out
      simp only [Nat.sub_self] at h0
      exact ⟨congrArg (fun n : Nat => Ending.returned (.int .u32 (n : Int))) h0, rfl⟩

/-- the table whose first m entries are laid -/
def tabC (m : Nat) : Array Value := ((List.range 256).map fun i => if i < m then .int .u32 (steps 8 i : Nat) else .int .u32 0).toArray

theorem tabC_size (m : Nat) : (tabC m).size = 256 := by simp [tabC]
theorem tabC_at (m i : Nat) (h : i < 256) : (tabC m)[i]? = some (if i < m then .int .u32 (steps 8 i : Nat) else .int .u32 0) := by
  simp [tabC, h]
theorem tabC_set (m : Nat) (h : m < 256) : (tabC m).setIfInBounds m (.int .u32 (steps 8 m : Nat)) = tabC (m + 1) := by
  apply Array.ext_getElem?
  intro i
  rw [Array.getElem?_setIfInBounds, tabC_size]
  by_cases hi : i < 256
  · rw [tabC_at _ _ hi, tabC_at _ _ hi]
    by_cases he : m = i
    · subst he; simp [h]
    · rw [if_neg he]
      by_cases hl : i < m
      · rw [if_pos hl, if_pos (by omega)]
      · rw [if_neg hl, if_neg (by omega)]
  · rw [if_neg (by omega), Array.getElem?_eq_none (by rw [tabC_size]; omega), Array.getElem?_eq_none (by rw [tabC_size]; omega)]
theorem tabC_one (m : Nat) : (tabC m).all (·.oneCell') = true := by
  refine Array.all_eq_true_iff_forall_mem.2 fun v hv => ?_
  simp only [tabC, List.mem_toArray, List.mem_map] at hv
  obtain ⟨i, _, rfl⟩ := hv
  by_cases h : i < m
  · rw [if_pos h]; rfl
  · rw [if_neg h]; rfl
theorem tabC_zero : tabC 0 = Array.replicate 256 (.int .u32 0) := by
  apply Array.ext_getElem?
  intro i
  by_cases hi : i < 256
  · rw [tabC_at _ _ hi]; simp [Array.getElem?_replicate, hi]
  · rw [Array.getElem?_eq_none (by rw [tabC_size]; omega), Array.getElem?_eq_none (by simp; omega)]
theorem tabC_01 : tabC 1 = tabC 0 := by
  have := tabC_set 0 (by omega)
  rw [← this]
  apply Array.ext_getElem?
  intro i
  rw [Array.getElem?_setIfInBounds, tabC_size]
  by_cases hi : 0 = i
  · subst hi; rw [tabC_at _ _ (by omega)]; rfl
  · rw [if_neg hi]

theorem infoTab : (Try.prog.info? 111).map (fun i => (i.zero, i.size)) = some (some (.agg (Array.replicate 256 (.int .u32 0))), 256) := by kernel_rfl
theorem sizeTab : (Try.prog.info? 111).map (·.size) = some 256 := (zero_of_info infoTab).2

def TabW (w wx : World) (m : Nat) : Prop :=
  wx.heap[w.heap.size]? = some (.cells (tabC 0) 111 (0, 0)) ∧ wx.heap[w.heap.size + 1]? = some (.cells (tabC m) 111 (0, 0)) ∧ Below w.heap.size w wx ∧ wx.heap.size = w.heap.size + 2

theorem TabW.set {w wx : World} {m : Nat} (h : TabW w wx m) (hm : m < 256) : TabW w (wx.setCell ⟨w.heap.size + 1, m, none⟩ (.int .u32 (steps 8 m : Nat))) (m + 1) := by
  obtain ⟨h1, h2, h3, h4⟩ := h
  refine ⟨?_, ?_, h3.setCell (by simp) _, by simpa using h4⟩
  · rw [heap_setCell_other _ _ _ _ (by simp)]; exact h1
  · rw [heap_setCell_same _ _ _ _ _ _ h2, tabC_set m hm]
theorem TabW.cell {w wx : World} {m : Nat} (h : TabW w wx m) (i : Nat) (hi : i < m) (hm : i < 256) : wx.cell? ⟨w.heap.size + 1, i, none⟩ = some (.int .u32 (steps 8 i : Nat)) := by
  rw [cell_of_row _ _ _ _ _ _ h.2.1, tabC_at _ _ hm, if_pos hi]
theorem TabW.old {w wx : World} {m : Nat} (h : TabW w wx m) (i : Nat) (hi : m ≤ i) (hm : i < 256) : wx.cell? ⟨w.heap.size + 1, i, none⟩ = some (.int .u32 0) := by
  rw [cell_of_row _ _ _ _ _ _ h.2.1, tabC_at _ _ hm, if_neg (by omega)]
theorem TabW.free {w wx : World} {m : Nat} (h : TabW w wx m) (i : Nat) : wx.frozen? ⟨w.heap.size + 1, i, none⟩ = false := frozen_of_row _ _ _ _ _ h.2.1
theorem TabW.drewN {w wx : World} {m : Nat} (h : TabW w wx m) (n : Nat) : TabW w (wx.drewN n) m := ⟨h.1, h.2.1, below_drewN h.2.2.1 n, h.2.2.2⟩
theorem TabW.drew {w wx : World} {m : Nat} (h : TabW w wx m) : TabW w wx.drew m := h.drewN 1

set_option maxHeartbeats 1000000 in
set_option maxRecDepth 100000 in
theorem table_any (w : World) :
    Calls Try.prog 65 #[] w fun e w' => e = .returned (.agg (tabC 256)) ∧ Below w.heap.size w w' := by
  have hz := (zero_of_info infoTab).1
  rw [← tabC_zero] at hz
  go_enter Try.func65, Try.ntmps65
  go_wp2
  have h00 : TabW w ((w.alloc (.cells (tabC 0) 111)).alloc (.cells (tabC 0) 111)) 1 :=
    ⟨heap_alloc2_old w _ _, by rw [tabC_01]; exact heap_alloc2_new w _ _, ((Below.refl _ _).alloc (Nat.le_refl _) _).alloc (by simp) _, by simp⟩
  have H00 := Lib.hid h00
  clear h00
  generalize (w.alloc (.cells (tabC 0) 111)).alloc (.cells (tabC 0) 111) = w00 at *
  go_loopw [2] (fun b wx => ∃ (m : Nat), b = .int .i64 m ∧ 1 ≤ m ∧ m ≤ 256 ∧ (∃ j, m = 2 ^ j) ∧ TabW w wx m) (fun b _ => 256 - (intOf b).toNat)
  case atStart => exact ⟨1, rfl, by omega, by omega, ⟨0, rfl⟩, H00.out⟩
  case round =>
    obtain ⟨m, rfl, hm1, hm2, hj, ht⟩ := hrel
    have HJ := Lib.hid hj
    clear hj
    have HT := Lib.hid ht
    clear ht
    by_cases hlt : m < 256
    · have hcell := HT.out.old m (by omega) hlt
      have hfree := HT.out.free m
      go_wp2_with (go_at_call 66; refine (shift_any _ _ (by omega)).mono ?_; rintro e w' ⟨rfl, rfl⟩)
      have h01 := HT.out.set hlt
      have H01 := Lib.hid h01
      clear h01 hcell hfree
      generalize wr.setCell ⟨w.heap.size + 1, m, none⟩ (.int .u32 (steps 8 m : Nat)) = w01 at *
      obtain ⟨wo, rfl⟩ : ∃ wo : World, wo = wr := ⟨_, rfl⟩
      clear HT
      have hm3 : m ≤ 128 := by
        obtain ⟨j, rfl⟩ := HJ.out
        by_cases hj : j < 8
        · have := Nat.pow_le_pow_right (n := 2) (by omega) (show j ≤ 7 by omega)
          omega
        · have := Nat.pow_le_pow_right (n := 2) (by omega) (show 8 ≤ j by omega)
          omega
      go_loopw [3] (fun r wx => ∃ (k : Nat), r = .int .i64 k ∧ 1 ≤ k ∧ k ≤ m ∧ TabW w wx (m + k)) (fun r _ => m - (intOf r).toNat)
      case atStart => exact ⟨1, rfl, by omega, by omega, H01.out⟩
      case round =>
        obtain ⟨k, rfl, hk1, hk2, ht⟩ := hrel
        have HT := Lib.hid ht
        clear ht
        by_cases hlk : k < m
        · have hc1 := HT.out.cell m (by omega) (by omega)
          have hc2 := HT.out.cell k (by omega) (by omega)
          have hc3 := HT.out.old (m + k) (by omega) (by omega)
          have hf3 := HT.out.free (m + k)
          have hx : bits .xor .u32 (steps 8 m : Nat) (steps 8 k : Nat) = ((steps 8 (m + k) : Nat) : Int) := by
            rw [u32_xor_nat _ _ (steps_lt _ _ (by omega)) (steps_lt _ _ (by omega))]
            obtain ⟨j, hj⟩ := HJ.out
            rw [tab_add m k j hj hlk]
          have HX := Lib.hid hx
          clear hx
          have hmk : (m : Int) + (k : Int) < 256 := by omega
          go_wp2
          go_region
          go_wp2
          go_roundw
          case rel =>
            refine ⟨k + 1, by go_num, by omega, by omega, ?_⟩
            rw [HX.out]
            exact (HT.out.set (by omega)).drew
          case measure => simp [intOf]; omega
        · obtain rfl : k = m := by omega
          go_wp2
          go_roundw
          case rel =>
            refine ⟨2 * k, by go_num, by omega, by omega, ?_, by rw [Nat.two_mul]; exact HT.out⟩
            obtain ⟨j, hj⟩ := HJ.out
            exact ⟨j + 1, by rw [hj, Nat.pow_succ]; omega⟩
          case measure => simp [intOf]; omega
    · obtain rfl : m = 256 := by omega
      obtain ⟨t1, t2, t3, t4⟩ := HT.out
      go_wp2_with (first
        | (refine wpList_load_row rfl _ _ rfl (w.heap.size + 1) rfl 111 (tabC 256) (0, 0) _ t2 Try.underlying111 rfl (by rw [tabC_size]; exact sizeTab) ?_)
        | (refine wpList_store_row rfl _ _ _ rfl w.heap.size (tabC 256) rfl rfl 111 (tabC 0) t1 (by rw [tabC_size]; exact sizeTab) (by simp only [tabC_size]) (tabC_one _) ?_))
      refine bodyPost_ret (v := .agg (tabC 256)) (results_cell_row rfl _ _ w.heap.size 111 (tabC 256) (0, 0) _ rfl ?_ Try.underlying111 rfl (by rw [tabC_size]; exact sizeTab)) rfl ⟨rfl, ?_⟩
      · exact heap_setRow_same _ _ _ _ _ t1
      · exact below_setRow t3 (Nat.le_refl _) _

end Go.Proofs.Ytflboggjbjfkjaa
