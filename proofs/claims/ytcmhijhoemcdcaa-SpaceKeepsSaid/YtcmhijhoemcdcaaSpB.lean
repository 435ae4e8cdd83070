/-
  Contracts of package space: clone, Count.
-/
import Derived.Test.YtcmhijhoemcdcaaSpA
import Derived.Test.YtcmhijhoemcdcaaHead
import Derived.Test.YtcmhijhoemcdcaaFill
import Derived.Lib.SliceRun
import Derived.Lib.Strings
import Derived.Lib.Slices
import Derived.Lib.Small
import Derived.Lib.Walk
import Derived.Lib.BitFns
namespace Go.Proofs.Ytcmhijhoemcdcaa
open Go.RowKit
set_option linter.unusedVariables false
set_option linter.unusedSimpArgs false
set_option maxRecDepth 100000

theorem cloneo_nil (w : World) : Calls Try.prog 35 #[.slice none 0 0] w fun e w' => e = .returned (.slice none 0 0) ∧ w = w' := by
  have hq := fun u : World => Lib.run_eql_slice_nil (P := Try.prog) u 22 5 none 0 0 0 0 Try.underlying22
  go_enter Try.func35, Try.ntmps35
  go_wp2
  go_ret
  exact ⟨rfl, rfl⟩

theorem cloneo_any (a : Option Addr) (n cap : Nat) (l : List UInt8) (w : World) (h : BytesAt w a n cap l) (hn : n ≤ 1048576) :
    Calls Try.prog 35 #[.slice a n cap] w (FreshB id n l w) := by
  obtain ⟨i0, hi, hz0, hz1, hz2⟩ := info_parts infoU8
  cases a with
  | none =>
    rcases h.2.2.2 with ⟨_, rfl, rfl⟩ | ⟨x, hx, _⟩
    · refine (cloneo_nil w).mono ?_
      rintro e w' ⟨rfl, rfl⟩
      have : l = [] := List.eq_nil_of_length_eq_zero h.1
      subst this
      exact ⟨none, 0, rfl, World.ownsRow_nil _ _ _ _, Below.refl _ _⟩
    · cases hx
  | some x =>
    have hq := fun u : World => Lib.run_eql_slice_nil (P := Try.prog) u 22 5 (some x) n cap 0 0 Try.underlying22
    have hbs : ∀ u, (Instr.buildSlice 22 0 #[]).run Try.prog u = .ok (.slice (some ⟨u.heap.size, 0, none⟩) 0 0) (u.alloc (.cells #[] 5)) := fun u => by
      simp [Instr.buildSlice, run_underlying Try.underlying22, sizeOf, typeInfo, hi, Instr.fill, newRow, Array.range_zero']
    have hb0 : Below w.heap.size w (w.alloc (.cells #[] 5)) := (Below.refl _ _).alloc (Nat.le_refl _) _
    have HO := Lib.hid (show (w.alloc (.cells #[] 5)).ownsRow w.heap.size 5 1 (.slice (some ⟨w.heap.size, 0, none⟩) 0 0) 0 [] from ⟨rfl, .inr ⟨w.heap.size, 0, #[], rfl, Nat.le_refl _, heap_alloc_new w _, by omega, by unfold maxLen; omega, rfl, rfl⟩⟩)
    have HS := Lib.hid (h.below hb0)
    clear h hi hz0 hz1 hz2
    go_enter Try.func35, Try.ntmps35
    go_wp2_with (at_builtin; refine wpList_append_bytes rfl _ _ rfl w.heap.size (.slice (some ⟨w.heap.size, 0, none⟩) 0 0) 0 [] rfl HO.out (some x) n cap l rfl HS.out n (by omega) (by omega) hb0.size ?_; intro a3 cap3 w3 ho3 hg3)
    go_ret
    exact ⟨a3, cap3, rfl, by simpa using ho3, hb0.grown hg3 hb0.size (fun k hk => by simp [Value.ownBlock] at hk; omega)⟩

/-! ### how many are used -/
def cntF (F : List Bool) (n : Nat) : Nat := (List.range n).countP fun j => F.getD j false
theorem cntF_succ (F : List Bool) (n : Nat) : cntF F (n + 1) = cntF F n + (if F.getD n false then 1 else 0) := by
  unfold cntF
  rw [List.range_succ, List.countP_append, List.countP_singleton]
theorem cntF_eight (F : List Bool) (k : Nat) : cntF F (8 * (k + 1)) = cntF F (8 * k) + (List.range 8).countP fun j => F.getD (8 * k + j) false := by
  unfold cntF
  rw [show 8 * (k + 1) = 8 * k + 8 by omega, List.range_add, List.countP_append, List.countP_map]
  rfl
theorem cntF_take (F : List Bool) : ∀ n, cntF F n = (F.take n).count true
  | 0 => by simp [cntF]
  | n + 1 => by
    rw [cntF_succ, cntF_take F n]
    by_cases h : n < F.length
    · rw [List.take_succ_eq_append_getElem h, List.count_append, List.getD, List.getElem?_eq_getElem h, Option.getD_some]
      cases F[n] <;> simp
    · rw [List.getD, List.getElem?_eq_none (by omega), List.take_of_length_le (by omega), List.take_of_length_le (by omega)]; simp
theorem cntF_all (F : List Bool) (n : Nat) (h : F.length ≤ n) : cntF F n = F.count true := by rw [cntF_take, List.take_of_length_le h]
theorem ones_eq : ∀ n : Fin 256, Lib.onesCount n.val = (List.range 8).countP fun j => n.val.testBit j := by decide +kernel
theorem ones_oct (F : List Bool) (k : Nat) (h : k < (F.length + 7) / 8) : Lib.onesCount ((packB F).getD k 0).toNat = (List.range 8).countP fun j => F.getD (8 * k + j) false := by
  have := ones_eq ⟨((packB F).getD k 0).toNat, UInt8.toNat_lt _⟩
  simp only at this
  rw [this]
  apply List.countP_congr
  intro j hj
  have hj8 : j < 8 := by simpa using hj
  have hb := packB_bit F (8 * k + j)
  unfold bitU at hb
  rw [show (8 * k + j) / 8 = k by omega, show (8 * k + j) % 8 = j by omega] at hb
  rw [hb]

theorem clone_sp (N : Int) (a : Option Addr) (n cap : Nat) (F : List Bool) (w : World) (h : SpAt w N a n cap F) :
    Calls Try.prog 29 #[.agg (spV N a n cap)] w (FreshSp id F w) := by
  have hnum := h.num
  subst hnum
  have hsz := h.size
  have hlen := h.len
  have hb0 : Below w.heap.size w (((w.alloc (.cells (spV F.length a n cap) 24)).alloc (.cells (spV 0 none 0 0) 24)).drew) := (((Below.refl _ w).alloc (Nat.le_refl _) _).alloc (by simp) _).drew
  have CC := Lib.hid (cloneo_any a n cap (packB F) _ (h.oct.below hb0) (by omega))
  have hc0 : (((w.alloc (.cells (spV F.length a n cap) 24)).alloc (.cells (spV 0 none 0 0) 24)).drew).heap[w.heap.size]? = some (.cells (spV F.length a n cap) 24 (0, 0)) := heap_alloc2_old _ _ _
  have hc1 : (((w.alloc (.cells (spV F.length a n cap) 24)).alloc (.cells (spV 0 none 0 0) 24)).drew).heap[w.heap.size + 1]? = some (.cells (spV 0 none 0 0) 24 (0, 0)) := heap_alloc2_new _ _ _
  have hs2 : (((w.alloc (.cells (spV F.length a n cap) 24)).alloc (.cells (spV 0 none 0 0) 24)).drew).heap.size = w.heap.size + 2 := by show ((w.alloc _).alloc _).heap.size = _; simp
  obtain ⟨d0, d1⟩ := sp_cells hc0
  have HB := Lib.hid hb0
  have HC1 := Lib.hid hc1
  have HS2 := Lib.hid hs2
  have HC0 := Lib.hid hc0
  clear h hsz hb0 hc0 hc1 hs2
  unfold spV at *
  go_enter Try.func29, Try.ntmps29
  go_upto_region 1 with (fail)
  refine region_head 6 [0, 1, 2, 3, 4, 5] [4] (fun u => u.cell? ⟨w.heap.size, 0, none⟩ = some (.int .i64 (F.length : Int)) ∧ u.cell? ⟨w.heap.size, 1, none⟩ = some (.slice a n cap)) (by kernel_rfl) (by kernel_rfl) ⟨d0, d1⟩ ?_
  simp only [pickO, List.filterMap_cons, List.filterMap_nil, List.getElem?_cons_zero, List.getElem?_cons_succ, Option.map_some, List.drop_succ_cons, List.drop_zero]
  clear d0 d1
  iterate 4
    refine seqH_read _ rfl rfl (by rintro u ⟨hu1, hu2⟩; go_simp; with_reducible rfl) ?_
    try simp only [Act.put, List.setIfInBounds_toArray, List.set_cons_zero, List.set_cons_succ]
  refine seqH_move rfl rfl (fun K hK => ?_)
  go_simp
  refine (CC.out).mono ?_
  rintro e w1 ⟨a1, cap1, rfl, ho1, hb1⟩
  have hx0 := (hb1.block w.heap.size (by rw [HS2.out]; omega)).trans HC0.out
  have hx1 := (hb1.block (w.heap.size + 1) (by rw [HS2.out]; omega)).trans HC1.out
  obtain ⟨d0, d1⟩ := sp_cells hx0
  refine hK _ _ ⟨d0, d1⟩ ?_
  clear hK K d0 d1
  try simp only [Act.put, List.setIfInBounds_toArray, List.set_cons_zero, List.set_cons_succ]
  refine seqH_read _ rfl rfl (by rintro u ⟨hu1, hu2⟩; go_simp; with_reducible rfl) ?_
  try simp only [Act.put, List.setIfInBounds_toArray, List.set_cons_zero, List.set_cons_succ]
  refine seqH_nil ?_
  go_wp2_with (refine wpList_store_row rfl _ _ _ rfl (w.heap.size + 1) (spV F.length a1 n cap1) rfl rfl 24 _ hx1 sizeSp rfl (spV_one _ _ _ _) ?_)
  refine bodyPost_ret (v := .agg (spV F.length a1 n cap1)) (results_cell_row rfl _ _ (w.heap.size + 1) 24 (spV F.length a1 n cap1) (0, 0) _ rfl (heap_setRow_same _ _ _ _ _ hx1) Try.underlying24 rfl sizeSp) rfl ⟨a1, n, cap1, rfl, ?_, ?_⟩
  · have ho2 : w1.ownsRow w.heap.size 5 1 (.slice a1 n cap1) n (vals (packB F)) := owned_low ho1 (by rw [HS2.out]; omega)
    exact owned_setRow ho2 hx1 (by decide)
  · exact below_setRow (HB.out.trans (hb1.mono (by have := HS2.out; omega))) (by omega) _

theorem ones_any (x : Int) (w : World) (h0 : 0 ≤ x) (h1 : x ≤ 255) :
    Calls Try.prog 24 #[.int .u8 x] w fun e w' => e = .returned (.int .i64 (Lib.onesCount x.toNat)) ∧ w' = w := by
  rw [← Lib.pop8_int x h0 h1]
  go_enter Try.func24, Try.ntmps24
  go_wp2
  go_ret
  refine ⟨congrArg (fun n => Ending.returned (.int .i64 n)) ?_, rfl⟩
  show wrap64 (Lib.pop8 x) = _
  generalize Lib.pop8 x = y
  unfold wrap64
  omega

theorem count_no (N : Int) (a : Option Addr) (n cap : Nat) (l : List UInt8) (w : World) (hb : BytesAt w a n cap l) (h : mayS N l = false) :
    Calls Try.prog 13 #[.agg (spV N a n cap)] w fun e w' => e = .returned (.int .i64 0) ∧ Below w.heap.size w w' := by
  have hb0 : Below w.heap.size w (w.alloc (.cells (spV N a n cap) 24)) := (Below.refl _ w).alloc (Nat.le_refl _) _
  have CM := Lib.hid (may_any N a n cap l _ (hb.below hb0))
  rw [h] at CM
  unfold spV at *
  clear hb h
  go_enter Try.func13, Try.ntmps13
  go_wp2_with (go_at_call 12; refine (CM.out).mono ?_; rintro e w1 ⟨rfl, hb1⟩)
  go_ret
  exact ⟨rfl, hb0.trans (hb1.mono hb0.size)⟩

theorem count_ok (N : Int) (a : Option Addr) (n cap : Nat) (F : List Bool) (w : World) (h : SpAt w N a n cap F) :
    Calls Try.prog 13 #[.agg (spV N a n cap)] w fun e w' => e = .returned (.int .i64 (F.count true : Nat)) ∧ Below w.heap.size w w' := by
  have hb0 : Below w.heap.size w (w.alloc (.cells (spV N a n cap) 24)) := (Below.refl _ w).alloc (Nat.le_refl _) _
  have CM := Lib.hid ((h.below hb0).may)
  have HS := Lib.hid h
  have HN := Lib.hid h.size
  have hn : n ≤ 256 := by have := h.size; have := h.len; omega
  unfold spV at *
  clear h
  go_enter Try.func13, Try.ntmps13
  go_wp2_with fail
  refine (CM.out).mono ?_
  rintro e w1 ⟨rfl, hb1⟩
  obtain ⟨c0, c1⟩ := sp_cells (box_keep hb1)
  have hb1' := hb0.trans (hb1.mono hb0.size)
  have HB1 := Lib.hid hb1'
  have HO := Lib.hid (HS.out.oct.below hb1')
  clear hb0 hb1 hb1'
  go_wp2
  go_loop [3, 12] (fun c i => ∃ k : Nat, k ≤ n ∧ i = .int .i64 k ∧ c = .int .i64 (cntF F (8 * k) : Nat)) (fun _ i => n - (intOf i).toNat)
  case atStart => exact ⟨0, Nat.zero_le _, rfl, rfl⟩
  case round =>
    obtain ⟨k, hk, rfl, rfl⟩ := hrel
    by_cases hlt : k < n
    · obtain ⟨b, off, rfl, hc⟩ := HO.out.at (by omega)
      have hck := hc k hlt
      have hxl : ((packB F).getD k 0).toNat < 256 := UInt8.toNat_lt _
      have CO := Lib.hid (fun u => ones_any (((packB F).getD k 0).toNat : Int) u (by omega) (by omega))
      have h8 := cntF_eight F k
      rw [← ones_oct F k (by rw [← HN.out]; exact hlt)] at h8
      have hki : (k : Int) < n := by omega
      have hcb : cntF F (8 * k) ≤ 8 * k := by unfold cntF; have := List.countP_le_length (p := fun j => F.getD j false) (l := List.range (8 * k)); simpa using this
      have hob := Lib.onesCount_le8 ⟨((packB F).getD k 0).toNat, hxl⟩
      simp only [Int.toNat_natCast] at CO
      simp only at hob
      generalize cntF F (8 * k) = c at *
      generalize Lib.onesCount ((packB F).getD k 0).toNat = d at *
      generalize ((packB F).getD k 0).toNat = x at *
      have H8 := Lib.hid h8
      clear hc h8 hxl
      go_wp2_with (go_at_call 24; refine (CO.out _).mono ?_; rintro e w2 ⟨rfl, rfl⟩)
      exact ⟨⟨k + 1, by omega, by simp, by rw [H8.out]; simp⟩, by simp [intOf]; omega⟩
    · obtain rfl : k = n := by omega
      have h9 := cntF_all F (8 * k) (by rw [HN.out]; omega)
      rw [h9]
      go_wp2
      go_ret
      exact ⟨rfl, HB1.out⟩

end Go.Proofs.Ytcmhijhoemcdcaa
