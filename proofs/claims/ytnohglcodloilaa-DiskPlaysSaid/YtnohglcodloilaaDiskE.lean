/-
  Contracts of package disk: Clone.
-/
import Derived.Test.YtnohglcodloilaaDiskD
import Derived.Lib.SliceRun
namespace Go.Proofs.Ytnohglcodloilaa
open Go.RowKit
set_option linter.unusedVariables false
set_option linter.unusedSimpArgs false

def RecsTo {α : Type} (f : α → List Value) (e : TypeId) (size : Nat) (L : List α) (w : World) (en : Ending) (w' : World) : Prop :=
  ∃ v, en = .returned v ∧ Recs f w' e size v L ∧ Below w.heap.size w w' ∧ ∀ k, v.ownBlock = some k → w.heap.size ≤ k

theorem clone37_nil (w : World) : Calls Try.prog 37 #[.slice none 0 0] w fun e w' => e = .returned (.slice none 0 0) ∧ w = w' := by
  have hq := fun u : World => Lib.run_eql_slice_nil (P := Try.prog) u 58 66 none 0 0 0 0 Try.underlying58
  go_enter Try.func37, Try.ntmps37
  go_wp2
  go_ret
  exact ⟨rfl, rfl⟩

set_option maxHeartbeats 1000000 in
theorem clone37_any {T : List (List UInt8)} (v : Value) (w : World) (h : Recs vals w 66 128 v T) (hn : T.length ≤ 1073741824) :
    Calls Try.prog 37 #[v] w (RecsTo vals 66 128 T w) := by
  obtain ⟨i0, hi0, hz0, hz1, hz2⟩ := info_parts infoSec
  rcases h.2.2.2 with ⟨rfl, h0⟩ | ⟨g, cap, cur, rfl, _, hg, hc, hm, _⟩
  · refine (clone37_nil w).mono ?_
    rintro e w' ⟨rfl, rfl⟩
    have : T = [] := List.eq_nil_of_length_eq_zero h0
    subst this
    exact ⟨_, rfl, h, Below.refl _ _, fun k hk => by simp [Value.ownBlock] at hk⟩
  · have hq := fun u : World => Lib.run_eql_slice_nil (P := Try.prog) u 58 66 (some ⟨g, 0, none⟩) T.length cap 0 0 Try.underlying58
    have hbs : ∀ u, (Instr.buildSlice 58 0 #[]).run Try.prog u = .ok (.slice (some ⟨u.heap.size, 0, none⟩) 0 0) (u.alloc (.cells #[] 66)) := fun u => by
      simp [Instr.buildSlice, run_underlying Try.underlying58, sizeOf, typeInfo, hi0, Instr.fill, newRow, Array.range_zero']
    have HR := Lib.hid h
    have HI := Lib.hid hi0
    have H0 := Lib.hid hz0
    have H1 := Lib.hid hz1
    have H2 := Lib.hid hz2
    clear hg hc hm h hi0 hz0 hz1 hz2
    have hown : Recs vals (w.alloc (.cells #[] 66)) 66 128 (.slice (some ⟨w.heap.size, 0, none⟩) 0 0) ([] : List (List UInt8)) := ⟨by simp, by simp, World.ownsRow_made w #[] 0 (Nat.zero_le _) (by simp) (by simp)⟩
    have HO := Lib.hid hown
    clear hown
    go_enter Try.func37, Try.ntmps37
    go_wp2_with (first
      | (refine wpList_append_recs (f := vals) rfl _ _ 58 rfl 66 i0 _ 128 128 Try.underlying58 HI.out H0.out H1.out H2.out (by simp [Value.cells]) (by omega) (.slice (some ⟨w.heap.size, 0, none⟩) 0 0) [] rfl HO.out ⟨g, 0, none⟩ T.length cap T rfl rfl HR.out.1 HR.out.2.1 (fun j u hu => ((HR.out.below ((Below.refl _ _).alloc (Nat.le_refl _) _)).2.2.cells rfl j u hu)) (by unfold maxLen; simp; omega) (by simp; omega) ?_; intro v' w' hr' hg' hv'; obtain ⟨av', capv', rfl, _, _⟩ := hr'.form))
    go_ret
    refine ⟨_, rfl, hr', ((Below.refl w.heap.size w).alloc (Nat.le_refl _) _).grown hg' (by simp) (fun k hk => by simp [Value.ownBlock] at hk; omega), fun k hk => ?_⟩
    have hk2 : (Value.slice av' ([] ++ T).length capv').ownBlock = some k := hk
    rcases hv' with hv' | hv'
    · rw [hv'] at hk2; simp [Value.ownBlock] at hk2; omega
    · rw [hv'] at hk2; simp at hk2; omega

theorem clone38_nil (w : World) : Calls Try.prog 38 #[.slice none 0 0] w fun e w' => e = .returned (.slice none 0 0) ∧ w = w' := by
  have hq := fun u : World => Lib.run_eql_slice_nil (P := Try.prog) u 59 69 none 0 0 0 0 Try.underlying59
  go_enter Try.func38, Try.ntmps38
  go_wp2
  go_ret
  exact ⟨rfl, rfl⟩

set_option maxHeartbeats 1000000 in
theorem clone38_any {T : List (Nat × List UInt8)} (v : Value) (w : World) (h : Recs waitC w 69 129 v T) (hn : T.length ≤ 1073741824) :
    Calls Try.prog 38 #[v] w (RecsTo waitC 69 129 T w) := by
  obtain ⟨i0, hi0, hz0, hz1, hz2⟩ := info_parts infoWait
  rcases h.2.2.2 with ⟨rfl, h0⟩ | ⟨g, cap, cur, rfl, _, hg, hc, hm, _⟩
  · refine (clone38_nil w).mono ?_
    rintro e w' ⟨rfl, rfl⟩
    have : T = [] := List.eq_nil_of_length_eq_zero h0
    subst this
    exact ⟨_, rfl, h, Below.refl _ _, fun k hk => by simp [Value.ownBlock] at hk⟩
  · have hq := fun u : World => Lib.run_eql_slice_nil (P := Try.prog) u 59 69 (some ⟨g, 0, none⟩) T.length cap 0 0 Try.underlying59
    have hbs : ∀ u, (Instr.buildSlice 59 0 #[]).run Try.prog u = .ok (.slice (some ⟨u.heap.size, 0, none⟩) 0 0) (u.alloc (.cells #[] 69)) := fun u => by
      simp [Instr.buildSlice, run_underlying Try.underlying59, sizeOf, typeInfo, hi0, Instr.fill, newRow, Array.range_zero']
    have HR := Lib.hid h
    have HI := Lib.hid hi0
    have H0 := Lib.hid hz0
    have H1 := Lib.hid hz1
    have H2 := Lib.hid hz2
    clear hg hc hm h hi0 hz0 hz1 hz2
    have hown : Recs waitC (w.alloc (.cells #[] 69)) 69 129 (.slice (some ⟨w.heap.size, 0, none⟩) 0 0) ([] : List (Nat × List UInt8)) := ⟨by simp, by simp, World.ownsRow_made w #[] 0 (Nat.zero_le _) (by simp) (by simp)⟩
    have HO := Lib.hid hown
    clear hown
    go_enter Try.func38, Try.ntmps38
    go_wp2_with (first
      | (refine wpList_append_recs (f := waitC) rfl _ _ 59 rfl 69 i0 _ 129 136 Try.underlying59 HI.out H0.out H1.out H2.out (by simp [Value.cells]) (by omega) (.slice (some ⟨w.heap.size, 0, none⟩) 0 0) [] rfl HO.out ⟨g, 0, none⟩ T.length cap T rfl rfl HR.out.1 HR.out.2.1 (fun j u hu => ((HR.out.below ((Below.refl _ _).alloc (Nat.le_refl _) _)).2.2.cells rfl j u hu)) (by unfold maxLen; simp; omega) (by simp; omega) ?_; intro v' w' hr' hg' hv'; obtain ⟨av', capv', rfl, _, _⟩ := hr'.form))
    go_ret
    refine ⟨_, rfl, hr', ((Below.refl w.heap.size w).alloc (Nat.le_refl _) _).grown hg' (by simp) (fun k hk => by simp [Value.ownBlock] at hk; omega), fun k hk => ?_⟩
    have hk2 : (Value.slice av' ([] ++ T).length capv').ownBlock = some k := hk
    rcases hv' with hv' | hv'
    · rw [hv'] at hk2; simp [Value.ownBlock] at hk2; omega
    · rw [hv'] at hk2; simp at hk2; omega

set_option maxHeartbeats 1000000 in
set_option maxRecDepth 100000 in
theorem clone_any (g : Nat) (D : Dk) (S : Nat → Prop) (w : World) (h : DiskAt w S g D) :
    Calls Try.prog 25 #[.pointer (some ⟨g, 0, none⟩)] w (FreshDisk id D w) := by
  obtain ⟨vs, vw, h⟩ := h
  have HD := Lib.hid h
  have hok := h.ok
  obtain ⟨c0, c1, c2, c3, hf⟩ := DiskAt.cells (S := S) h.blk
  obtain ⟨as_, caps, rfl, _, _⟩ := h.secs.form
  obtain ⟨aw, capw, rfl, _, _⟩ := h.waits.form
  have hgl := h.lt g h.self
  clear h hf
  go_enter Try.func25, Try.ntmps25
  go_upto_region 1 with (fail)
  refine region_head 20 [0, 1, 2, 3, 5, 6, 7, 8, 10, 11, 12, 13, 14, 15, 16, 17, 4, 9, 18, 19] [4, 9, 19] (fun u => u.cell? ⟨g, 0, none⟩ = some (.slice as_ D.secs.length caps) ∧ u.cell? ⟨g, 1, none⟩ = some (.slice aw D.waits.length capw) ∧ u.cell? ⟨g, 2, none⟩ = some (.bool D.power) ∧ u.cell? ⟨g, 3, none⟩ = some (.int .i64 D.budget)) (by kernel_rfl) (by kernel_rfl) ⟨c0, c1, c2, c3⟩ ?_
  simp only [pickO, List.filterMap_cons, List.filterMap_nil, List.getElem?_cons_zero, List.getElem?_cons_succ, Option.map_some, List.drop_succ_cons, List.drop_zero]
  clear c0 c1 c2 c3
  iterate 16
    refine seqH_read _ rfl rfl (by rintro u ⟨hu1, hu2, hu3, hu4⟩; go_simp; with_reducible rfl) ?_
    try simp only [Act.put, List.setIfInBounds_toArray, List.set_cons_zero, List.set_cons_succ]
  have hdd := HD.out.below ((Below.refl _ _).drew)
  refine seqH_move rfl rfl (fun K hK => ?_)
  go_simp
  refine (clone37_any _ _ hdd.secs (by have := hok.many; omega)).mono ?_
  rintro e w1 ⟨v1, rfl, hr1, hb1, ho1⟩
  have hd1 := hdd.below hb1
  obtain ⟨a1, k1, rfl, _, _⟩ := hr1.form
  obtain ⟨c0, c1, c2, c3, _⟩ := DiskAt.cells (S := S) hd1.blk
  refine hK _ _ ⟨c0, c1, c2, c3⟩ ?_
  clear hK K c0 c1 c2 c3
  try simp only [Act.put, List.setIfInBounds_toArray, List.set_cons_zero, List.set_cons_succ]
  refine seqH_move rfl rfl (fun K hK => ?_)
  go_simp
  refine (clone38_any _ _ hd1.waits hok.few).mono ?_
  rintro e w2 ⟨v2, rfl, hr2, hb2, ho2⟩
  have hd2 := hd1.below hb2
  obtain ⟨a2, k2, rfl, _, _⟩ := hr2.form
  obtain ⟨c0, c1, c2, c3, _⟩ := DiskAt.cells (S := S) hd2.blk
  refine hK _ _ ⟨c0, c1, c2, c3⟩ ?_
  clear hK K c0 c1 c2 c3
  try simp only [Act.put, List.setIfInBounds_toArray, List.set_cons_zero, List.set_cons_succ]
  refine seqH_read _ rfl rfl (by rintro u ⟨hu1, hu2, hu3, hu4⟩; go_simp; with_reducible rfl) ?_
  try simp only [Act.put, List.setIfInBounds_toArray, List.set_cons_zero, List.set_cons_succ]
  refine seqH_move rfl rfl (fun K hK => ?_)
  go_simp
  have hd3 := hd2.below ((Below.refl w2.heap.size w2).alloc (Nat.le_refl _) (.cells #[.slice a1 D.secs.length k1, .slice a2 D.waits.length k2, .bool D.power, .int .i64 D.budget] 61))
  obtain ⟨c0, c1, c2, c3, _⟩ := DiskAt.cells (S := S) hd3.blk
  refine hK _ _ ⟨c0, c1, c2, c3⟩ ?_
  have hb0 : Below w.heap.size w w2 := (Below.refl _ _).drew.trans ((hb1.mono (Nat.le_refl _)).trans (hb2.mono hb1.size))
  have hr1' := (hr1.below hb2).below ((Below.refl w2.heap.size w2).alloc (Nat.le_refl _) (.cells #[.slice a1 D.secs.length k1, .slice a2 D.waits.length k2, .bool D.power, .int .i64 D.budget] 61))
  have hr2' := hr2.below ((Below.refl w2.heap.size w2).alloc (Nat.le_refl _) (.cells #[.slice a1 D.secs.length k1, .slice a2 D.waits.length k2, .bool D.power, .int .i64 D.budget] 61))
  have hz1 : w.heap.size ≤ w1.heap.size := hb1.size
  have HB := Lib.hid hb0
  have H1 := Lib.hid hr1'
  have H2 := Lib.hid hr2'
  have HO1 := Lib.hid ho1
  have HO2 := Lib.hid ho2
  clear hK K c0 c1 c2 c3 hd3 hd2 hd1 hdd hr1 hr2 hr1' hr2' hb1 hb2 hb0 ho1 ho2
  refine seqH_nil ?_
  go_wp2
  go_ret
  have hz2 := HB.out.size
  refine ⟨w2.heap.size, (fun k => w.heap.size ≤ k ∧ k < w2.heap.size + 1), rfl, ⟨.slice a1 D.secs.length k1, .slice a2 D.waits.length k2, hok, fun k hk => by simp only [World.size_alloc]; omega, ⟨hz2, by omega⟩, heap_alloc_new _ _, H1.out, H2.out, fun k hk => ⟨HO1.out k hk, ?_⟩, fun k hk => ⟨Nat.le_trans hz1 (HO2.out k hk), ?_⟩⟩, HB.out.alloc hz2 _, fun k hk => hk.1⟩
  · have := H1.out.lt k hk; simpa using this
  · have := H2.out.lt k hk; simpa using this

end Go.Proofs.Ytnohglcodloilaa
