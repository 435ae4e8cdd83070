/-
  Package limit: the heap of coins: Pop, Push.
-/
import Derived.Test.YtklfoafbgniogaaLkF
namespace Go.Proofs.Ytklfoafbgniogaa
open Go.RowKit Go.Deep
set_option linter.unusedVariables false
set_option linter.unusedSimpArgs false
set_option maxRecDepth 100000

theorem Recs.upto {α : Type} {f : α → List Value} {w : World} {e : TypeId} {size : Nat} {a : Option Addr} {n cap : Nat} {L : List α} (h : Recs f w e size (.slice a n cap) L) (j : Nat) (hj : j ≤ L.length) : Recs f w e size (.slice a j cap) (L.take j) := by
  obtain ⟨h1, h2, h3, h4⟩ := h
  refine ⟨fun x hx => h1 x (List.mem_of_mem_take hx), fun x hx => h2 x (List.mem_of_mem_take hx), ?_, ?_⟩
  · rw [flatMap_len _ (fun x hx => h1 x (List.mem_of_mem_take hx))]
  · have hl : (L.take j).length = j := by rw [List.length_take]; omega
    rw [hl]
    rcases h4 with ⟨h5, h6⟩ | ⟨g, cap', cur, h5, hb, hg, hnc, hcm, hcs, ht⟩
    · simp only [Value.slice.injEq] at h5
      exact .inl ⟨by rw [h5.1, h5.2.2, show j = 0 by omega], by omega⟩
    · simp only [Value.slice.injEq] at h5
      refine .inr ⟨g, cap', cur, by rw [h5.1, h5.2.2], hb, hg, by omega, hcm, hcs, ?_⟩
      rw [← flatMap_take L h1 j hj, ← ht, List.take_take, Nat.min_eq_left (Nat.mul_le_mul_right _ hj)]
theorem PurW.ne {w0 w : World} {g rb n cap : Nat} {L : List Itm} (h : PurW w0 w g (some ⟨rb, 0, none⟩) n cap L) : rb ≠ g := h.2.1.1.ne_of h.1 (by decide) rb rfl
theorem PurW.cut {w0 w : World} {g rb n cap : Nat} {L : List Itm} (h : PurW w0 w g (some ⟨rb, 0, none⟩) n cap L) (j : Nat) (hj : j ≤ n) : PurW w0 (w.setCell ⟨g, 0, none⟩ (.slice (some ⟨rb, 0, none⟩) j cap)) g (some ⟨rb, 0, none⟩) j cap (L.take j) := by
  have hne := h.ne
  obtain ⟨h1, ⟨h2, h3, h4, h5⟩, h6⟩ := h
  refine ⟨heap_setCell_same _ _ _ _ _ _ h1, ⟨(h2.keep fun k hk => ?_).upto j (by omega), by rw [List.length_take]; omega, h4, h5.setCell h6 _⟩, h6⟩
  injection hk with hk
  exact heap_setCell_other _ _ _ _ (by rw [← hk]; exact hne)
set_option maxHeartbeats 4000000 in
theorem purPop_any (w0 w : World) (g : Nat) (a : Option Addr) (n cap : Nat) (L : List Itm) (h : PurW w0 w g a n cap L) (hn : 0 < n) :
    Calls Try.prog 47 #[.pointer (some ⟨g, 0, none⟩)] w fun e w' => e = .returned (.iface 40 (.agg (cnC (L.getD (n - 1) default)).toArray)) ∧ PurW w0 w' g a (n - 1) cap (L.take (n - 1)) ∧ Only (fun q => q = g) w w' := by
  obtain ⟨rb, rcap, hv, hnc, hcm, hrl⟩ := h.2.1.1.form' (by rw [h.2.1.2.1]; omega)
  simp only [Value.slice.injEq] at hv
  obtain ⟨rfl, hv2, rfl⟩ := hv
  clear hv2
  rw [h.2.1.2.1] at hnc
  have c0 := h.box
  obtain ⟨j, hj⟩ : ∃ j, j = n - 1 := ⟨_, rfl⟩
  rw [← hj]
  have hLj : L[j]? = some (L.getD j default) := by rw [List.getD, List.getElem?_eq_getElem (by rw [h.2.1.2.1]; omega)]; rfl
  have hrj := h.2.1.1.rangeAt j _ hLj
  generalize L.getD j default = y at *
  have HRJ := Lib.hid hrj
  have H := Lib.hid h
  have e1 : IntKind.i64.wrap ((n : Int) - 1) = (j : Int) := by rw [IntWalk.i64_in _ (by unfold maxLen at *; omega)]; omega
  have hjn : (j : Int) < n := by omega
  have hjc : j ≤ cap := by omega
  have HJ := Lib.hid hj
  have hel : (cnC y).length = 2 := rfl
  have hst := run_storeCells_new (P := Try.prog) w 40 #[.int .i64 0, .int .i64 0] (cnC y).toArray sizeCn rfl (all_oneCell_toArray (cnC_one y))
  rw [List.toList_toArray] at hst
  obtain ⟨w2, hw2⟩ : ∃ u, u = w.alloc (.cells (cnC y).toArray 40) := ⟨_, rfl⟩
  rw [← hw2] at hst
  have HB2 := Lib.hid (show Below w.heap.size w w2 by rw [hw2]; exact (Below.refl _ _).alloc (Nat.le_refl _) _)
  have hrow : w2.heap[w.heap.size]? = some (.cells (cnC y).toArray 40 (0, 0)) := by rw [hw2]; exact heap_alloc_new w _
  have HROW := Lib.hid hrow
  have HGL := Lib.hid ((Array.getElem?_eq_some_iff.1 h.1).1)
  clear hLj hrj h hw2 hrow hj
  go_enter Try.func47, Try.ntmps47
  go_upto_region 3 with (refine wpList_load_mid rfl 40 _ rfl rb (j * 2) rfl (cnC y) _ HRJ.out Try.underlying40 rfl sizeCn ?_)
  clear hst
  have d0 := below_cell HB2.out c0
  have HP2 := Lib.hid (H.out.below HB2.out)
  have f0 := frozen_of_row w2 g 0 _ _ HP2.out.1
  have hwg : w.heap.size ≠ g := by have := HGL.out; omega
  have HP3 := Lib.hid (HP2.out.cut j (by omega))
  have HO3 := Lib.hid ((Only.of_below HB2.out).trans (Only.setCell (S := fun q => q = g) w2 ⟨g, 0, none⟩ (.slice (some ⟨rb, 0, none⟩) j cap) rfl) fun _ _ e => e)
  have HR3 := Lib.hid ((heap_setCell_other w2 ⟨g, 0, none⟩ w.heap.size (.slice (some ⟨rb, 0, none⟩) j cap) hwg).trans HROW.out)
  go_upto_region 4 with (fail)
  generalize w2.setCell ⟨g, 0, none⟩ (.slice (some ⟨rb, 0, none⟩) j cap) = w3 at *
  go_wp2_with (refine wpList_load_row rfl 40 _ rfl w.heap.size rfl 40 (cnC y).toArray (0, 0) _ HR3.out Try.underlying40 rfl sizeCn ?_)
  go_ret
  exact ⟨rfl, HP3.out, HO3.out⟩

theorem built_cn (X : Array Value) (hX : X.size = 2) : ∀ w : World, (Instr.buildSlice 50 1 #[(0, .agg X)]).run Try.prog w = .ok (.slice (some ⟨w.heap.size, 0, none⟩) 1 1) (w.alloc (.cells X 40)) := fun w => by
  obtain ⟨i0, hi, hz0, hz1, hz2⟩ := info_parts infoCn
  exact run_buildSlice_one w _ _ X i0 _ 2 Try.underlying50 hi hz0 hz1 hX (by omega) (by omega)
set_option maxHeartbeats 4000000 in
theorem purPush_any (w0 w : World) (g : Nat) (a : Option Addr) (n cap : Nat) (L : List Itm) (h : PurW w0 w g a n cap L) (x : Itm) (hn : n ≤ 1000000) :
    Calls Try.prog 48 #[.pointer (some ⟨g, 0, none⟩), .iface 40 (.agg (cnC x).toArray)] w fun e w' => e = .returned (.tuple #[]) ∧ ∃ a' cap', PurW w0 w' g a' (n + 1) cap' (L ++ [x]) := by
  obtain ⟨i0, hi0, hz0, hz1, hz2⟩ := info_parts infoCn
  have c0 := h.box
  have H := Lib.hid h
  have HLN := Lib.hid h.2.1.2.1
  go_enter Try.func48, Try.ntmps48
  go_upto_region 0 with (fail)
  refine region_headS 8 [0, 1, 2, 3, 4, 5, 6, 7] [6, 7] (fun u => u.cell? ⟨g, 0, none⟩ = some (.slice a n cap)) (by kernel_rfl) (by kernel_rfl) (by simpa using c0) ?_
  simp only [pickO, List.filterMap_cons, List.filterMap_nil, List.getElem?_cons_zero, List.getElem?_cons_succ, Option.map_some, List.drop_succ_cons, List.drop_zero]
  iterate 5
    refine seqS_read _ rfl rfl (by rintro u hu; go_simp; with_reducible rfl) ?_
    try simp only [Act.put, List.setIfInBounds_toArray, List.set_cons_zero, List.set_cons_succ]
  refine seqS_read (.agg (cnC x).toArray) rfl rfl (by rintro u hu; clear hu; go_simp; try rfl) ?_
  try simp only [Act.put, List.setIfInBounds_toArray, List.set_cons_zero, List.set_cons_succ]
  refine seqS_move rfl rfl (fun K' hK => ?_)
  refine wp_buildSliceV 50 1 _ rfl #[(0, .agg (cnC x).toArray)] (by simp [go_sem]) _ _ (built_cn (cnC x).toArray rfl w.drew) ?_
  have HB2 := Lib.hid ((Below.refl w.drew.heap.size w.drew).alloc (Nat.le_refl _) (.cells (cnC x).toArray 40))
  have HON1 := Lib.hid (one_rec (f := cnC) (x := x) (w := w.drew.alloc (.cells (cnC x).toArray 40)) (B := w.drew.heap.size) (t := 40) (fr := (0, 0)) (heap_alloc_new w.drew _))
  have HOD := Lib.hid (H.out.below ((Below.refl _ _).drew))
  have HOE := Lib.hid (HOD.out.below HB2.out)
  refine hK _ _ _ (fun u hu => hu) HOE.out.box ?_
  clear hK K'
  try simp only [Act.put, List.setIfInBounds_toArray, List.set_cons_zero, List.set_cons_succ]
  refine seqS_move rfl rfl (fun K' hK => ?_)
  refine wp_append_recs (f := cnC) _ _ 50 rfl 40 i0 _ 2 16 Try.underlying50 hi0 hz0 hz1 hz2 rfl (by omega) (.slice a n cap) L (by simp [go_sem]) HOE.out.2.1.1 ⟨w.drew.heap.size, 0, none⟩ 1 1 [x] (by simp [go_sem]) rfl (fun _ _ => rfl) (fun y _ => cnC_one y) HON1.out (by rw [HLN.out]; unfold maxLen; omega) (by rw [HLN.out]; omega) ?_
  intro v' w3 hr hg hbk
  obtain ⟨a2, cap2, hv, hI⟩ := OwnI.more HOD.out.2.1 hr hg hbk
  rw [show ([x] : List Itm).length = 1 from rfl] at hv hI
  subst hv
  have hgl : g < (w.drew.alloc (.cells (cnC x).toArray 40)).heap.size := (Array.getElem?_eq_some_iff.1 HOE.out.1).1
  have hne := HOE.out.2.1.1.ne_of HOE.out.1 (by decide)
  have hbox3 := (hg.block g hgl (fun e => hne g e.symm rfl)).trans HOE.out.1
  have HI := Lib.hid hI
  have HBX := Lib.hid hbox3
  have d0 : w3.cell? ⟨g, 0, none⟩ = some (.slice a n cap) := by rw [cell_of_row _ g 0 _ _ _ hbox3]; rfl
  have f0 := frozen_of_row w3 g 0 _ _ hbox3
  refine hK _ _ _ (fun u hu => hu) d0 ?_
  clear hK K' hr hg hbk hI hgl hne hbox3
  refine seqS_nil ?_
  try simp only [Act.put, List.setIfInBounds_toArray, List.set_cons_zero, List.set_cons_succ]
  have HF := Lib.hid (show PurW w0 (w3.setCell ⟨g, 0, none⟩ (.slice a2 (n + 1) cap2)) g a2 (n + 1) cap2 (L ++ [x]) from by
    obtain ⟨h2, h3, h4, h5⟩ := HI.out
    have hne2 := h2.ne_of HBX.out (by decide)
    refine ⟨heap_setCell_same _ _ _ _ _ _ HBX.out, ⟨h2.keep fun k hk => heap_setCell_other _ _ _ _ (hne2 k hk), h3, h4, h5.setCell H.out.2.2 _⟩, H.out.2.2⟩)
  go_wp2
  go_end0
  exact ⟨rfl, _, _, HF.out⟩
end Go.Proofs.Ytklfoafbgniogaa
