/-
  The document's answer for layer 3: New, Flush, Cut.
-/
import Derived.Test.YtinfgfgmijjhjaaRefDisk
namespace Go.Proofs.Ytinfgfgmijjhjaa
open Go.RowKit
set_option linter.unusedVariables false
set_option linter.unusedSimpArgs false

theorem zeros_at (C : Array Value) (w : World) (hC : C.toList = vals (sec 0)) : BytesAt (w.alloc (.cells C 5)) (some ⟨w.heap.size, 0, none⟩) 128 128 (sec 0) :=
  BytesAt.of_cells (sec_length 0) (Nat.le_refl _) (by unfold maxLen; omega) fun i hi => by
    rw [Nat.zero_add, cell_of_row _ _ i _ _ _ (heap_alloc_new w _), ← Array.getElem?_toList, hC, vals_at _ _ (by rw [sec_length]; exact hi)]

theorem noughts_any (w : World) : Calls Try.prog 41 #[] w fun e w' => e = .returned (.string ⟨(sec 0).toArray⟩) ∧ Below w.heap.size w w' := by
  obtain ⟨i0, hi, hz0, hz1, hz2⟩ := info_parts infoU8
  have hmk : ∀ u, (Instr.makeSlice 24 (.int .i64 128) (.int .i64 128)).run Try.prog u = .ok (.slice (some ⟨u.heap.size, 0, none⟩) 128 128) (u.alloc (.cells (madeCells #[.int .u8 0] 128) 5)) := fun u => by
    have := run_make u 24 5 i0 _ Try.underlying24 hi hz0 .i64 .i64 128 128 (by omega) (by omega) (by rw [hz2]; omega) (by omega)
    rw [hz1] at this
    simpa [Value.cells] using this
  have hl : (madeCells #[.int .u8 0] 128).toList = vals (sec 0) := by
    rw [toList_madeCells_one]
    unfold sec vals
    rw [List.map_replicate]; rfl
  have HL := Lib.hid hl
  clear hl hi hz0 hz1 hz2
  generalize madeCells #[.int .u8 0] 128 = C at *
  have hcv := (zeros_at C w HL.out).conv
  go_enter Try.func41, Try.ntmps41
  go_wp2
  go_ret
  exact ⟨rfl, (Below.refl _ _).alloc (Nat.le_refl _) _⟩

/-! ### New -/
def FreshRef (D : Dk) (w : World) (e : Ending) (w' : World) : Prop :=
  ∃ g S, e = .returned (.pointer (some ⟨g, 0, none⟩)) ∧ RefAt w' S g D ∧ Below w.heap.size w w' ∧ ∀ k, S k → w.heap.size ≤ k

def preD (k : Nat) : Dk := ⟨List.replicate k (sec 0), [], true, -1⟩

/-- under way: so many sectors are laid -/
structure Pre (w wr : World) (k : Nat) (vs : Value) : Prop where
  blk : wr.heap[w.heap.size]? = some (.cells (refC vs (.slice none 0 0) (preD k)) 51 (0, 0))
  secs : Recs strC wr 9 1 vs (List.replicate k (sec 0))
  new : ∀ b, vs.ownBlock = some b → w.heap.size ≤ b
  below : Below w.heap.size w wr

set_option maxHeartbeats 1000000 in
set_option maxRecDepth 100000 in
theorem rnew_any (n : Nat) (w : World) (h1 : 1 ≤ n) (h2 : n ≤ 2048) : Calls Try.prog 13 #[.int .i64 n] w (FreshRef (Dk.new n) w) := by
  go_enter Try.func13, Try.ntmps13
  go_wp2
  have hp0 : Pre w (w.alloc (.cells (refC (.slice none 0 0) (.slice none 0 0) (preD 0)) 51)) 0 (.slice none 0 0) :=
    ⟨heap_alloc_new _ _, Recs.nil _ _ _ _, fun b hb => by simp [Value.ownBlock] at hb, (Below.refl _ _).alloc (Nat.le_refl _) _⟩
  have HP0 := Lib.hid hp0
  clear hp0
  go_loopw [4] (fun s4 wr => ∃ (k : Nat) (vs : Value), k ≤ n ∧ s4 = .int .i64 k ∧ Pre w wr k vs) (fun s4 _ => n - (intOf s4).toNat)
  case atStart => exact ⟨0, _, Nat.zero_le _, rfl, HP0.out⟩
  case round =>
    obtain ⟨k, vs, hk, rfl, hp⟩ := hrel
    obtain ⟨c0, c1, c2, c3, hf⟩ := ref_cells hp.blk
    obtain ⟨av, cv, hvs, _, _⟩ := hp.secs.form
    rw [List.length_replicate] at hvs
    subst hvs
    have HP := Lib.hid hp
    by_cases hlt : k < n
    · have hlti : (k : Int) < (n : Int) := by omega
      obtain ⟨i0, hi0, hz0, hz1, hz2⟩ := info_parts infoStr
      have Hi0 := Lib.hid hi0
      have Hz0 := Lib.hid hz0
      have Hz1 := Lib.hid hz1
      have Hz2 := Lib.hid hz2
      clear hp hf c1 c2 c3 hi0 hz0 hz1 hz2
      go_wp2
      refine region_head 8 [0, 1, 2, 3, 4, 5, 6, 7] [5, 6, 7] (fun u => u.cell? ⟨w.heap.size, 0, none⟩ = some (.slice av k cv)) (by kernel_rfl) (by kernel_rfl) c0 ?_
      clear c0
      simp only [pickO, List.append_eq, List.cons_append, List.nil_append, List.filterMap_cons, List.filterMap_nil, List.getElem?_cons_zero, List.getElem?_cons_succ, Option.map_some, List.drop_succ_cons, List.drop_zero]
      iterate 5
        refine seqH_readG _ rfl (by rfl) (by rintro u hu1; go_simp; with_reducible rfl) ?_
        try simp only [Act.put, List.setIfInBounds_toArray, List.set_cons_zero, List.set_cons_succ]

      refine seqH_moveG rfl (by rfl) (fun K hK => ?_)
      go_simp
      refine (noughts_any _).mono ?_
      rintro e w2 ⟨rfl, hb2⟩
      have hbd : Below wr.heap.size wr w2 := ((Below.refl _ _).drew).trans hb2
      have hz := HP.out.below.size
      have hgl : w.heap.size < wr.heap.size := (Array.getElem?_eq_some_iff.1 HP.out.blk).1
      have hblk2 := (hbd.block _ hgl).trans HP.out.blk
      refine hK _ _ (ref_cells hblk2).1 ?_
      clear hK K
      try simp only [Act.put, List.setIfInBounds_toArray, List.set_cons_zero, List.set_cons_succ]
      refine seqH_moveG rfl (by rfl) (fun K hK => ?_)
      go_simp
      have hba : Below w2.heap.size w2 (w2.alloc (.cells #[.string ⟨(sec 0).toArray⟩] 9)) := (Below.refl _ _).alloc (Nat.le_refl _) _
      have hblk3 := (hba.block _ (Nat.lt_of_lt_of_le hgl hbd.size)).trans hblk2
      refine hK _ _ (ref_cells hblk3).1 ?_
      clear hK K
      try simp only [Act.put, List.setIfInBounds_toArray, List.set_cons_zero, List.set_cons_succ]
      refine seqH_moveG rfl (by rfl) (fun K hK => ?_)
      refine wp_append_recs (f := strC) _ _ 48 rfl 9 i0 _ 1 16 Try.underlying48 Hi0.out Hz0.out Hz1.out Hz2.out rfl (by omega) _ (List.replicate k (sec 0)) rfl ((HP.out.secs.below hbd).below hba) ⟨w2.heap.size, 0, none⟩ 1 1 [sec 0] rfl rfl (fun _ _ => rfl) (fun y _ => strC_one y) (one_rec (heap_alloc_new w2 _)) (by unfold maxLen; simp; omega) (by simp; omega) ?_
      intro v' w4 hr' hg' hv'
      obtain ⟨a', cap', hv0, _, _⟩ := hr'.form
      rw [List.length_append, List.length_singleton, List.length_replicate] at hv0
      subst hv0
      have hne : some w.heap.size ≠ (Value.slice av k cv).ownBlock := fun e => HP.out.secs.ne_of HP.out.blk (by decide) _ e.symm rfl
      have hblk4 := (hg'.block _ (by have := hba.size; have := hbd.size; omega) hne).trans hblk3
      refine hK _ _ (ref_cells hblk4).1 ?_
      have hn4 : List.replicate k (sec 0) ++ [sec 0] = List.replicate (k + 1) (sec 0) := by rw [List.replicate_succ']
      rw [hn4] at hr'
      have hpre : Pre w (w4.setCell ⟨w.heap.size, 0, none⟩ (.slice a' (k + 1) cap')) (k + 1) (.slice a' (k + 1) cap') := by
        refine ⟨?_, ?_, ?_, ?_⟩
        · rw [heap_setCell_same _ _ _ _ _ _ hblk4]; rfl
        · exact hr'.keep fun b hb => heap_setCell_other _ _ _ _ (hr'.ne_of hblk4 (by decide) b hb)
        · intro b hb
          rcases hv' with hv' | hv'
          · exact HP.out.new b (hv'.symm.trans hb)
          · rw [hv'] at hb; injection hb with hb; subst hb; have := hba.size; have := hbd.size; omega
        · have h3 := (HP.out.below.trans (hbd.mono hz)).trans (hba.mono (by have := hbd.size; omega))
          exact (h3.grown hg' (by have := h3.size; omega) (fun b hb => HP.out.new b hb)).setCell (Nat.le_refl _) _
      have HPRE := Lib.hid hpre
      obtain ⟨d0, _, _, _, df⟩ := ref_cells hblk4
      have df0 := df 0
      clear hK K hr' hg' hv' hne hblk2 hblk3 hblk4 hpre hba hbd hb2 hn4 df
      try simp only [Act.put, List.setIfInBounds_toArray, List.set_cons_zero, List.set_cons_succ]
      refine seqH_nil ?_
      go_wp2
      go_roundw
      case rel => exact ⟨k + 1, _, by omega, by go_num, HPRE.out⟩
      case measure => simp [intOf]; omega
    · obtain rfl : k = n := by omega
      clear hp hf c0 c1 c2 c3
      go_wp2
      go_ret
      have e : preD k = Dk.new k := rfl
      have hb := HP.out.blk
      rw [e] at hb
      have hgl : w.heap.size < wr.heap.size := (Array.getElem?_eq_some_iff.1 HP.out.blk).1
      refine ⟨w.heap.size, (fun j => w.heap.size ≤ j ∧ j < wr.heap.size), rfl, ⟨_, _, Dk.ok_new k h1 h2, fun j hj => hj.2, ⟨Nat.le_refl _, hgl⟩, hb, HP.out.secs, Recs.nil _ _ _ _, fun j hj => ⟨HP.out.new j hj, HP.out.secs.lt j hj⟩, fun j hj => by simp [Value.ownBlock] at hj⟩, HP.out.below, fun j hj => hj.1⟩

end Go.Proofs.Ytinfgfgmijjhjaa
