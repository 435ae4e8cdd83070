/-
  Contracts of package disk: Write, where it is done; Waits; Clone.
-/
import Derived.Test.YtinfgfgmijjhjaaDiskC
import Derived.Test.YtinfgfgmijjhjaaHead
namespace Go.Proofs.Ytinfgfgmijjhjaa
open Go.RowKit
set_option linter.unusedVariables false
set_option linter.unusedSimpArgs false

theorem DiskIs.moreWaits {w w' : World} {S : Nat → Prop} {g : Nat} {D : Dk} {vs vw v' : Value} (h : DiskIs w S g D vs vw) (x : Nat × List UInt8) (hok : ({ D with waits := D.waits ++ [x] } : Dk).Ok) (hr : Recs waitC w' 108 129 v' (D.waits ++ [x])) (hg : w.grownBy w' vw.ownBlock) (hv : v'.ownBlock = vw.ownBlock ∨ v'.ownBlock = some w.heap.size) :
    DiskIs (w'.setCell ⟨g, 1, none⟩ v') (fun k => S k ∨ (w.heap.size ≤ k ∧ k < w'.heap.size)) g { D with waits := D.waits ++ [x] } vs v' ∧ Only S w (w'.setCell ⟨g, 1, none⟩ v') := by
  have hne : some g ≠ vw.ownBlock := fun e => h.waits.ne_of h.blk (by decide) g e.symm rfl
  have hblk := (hg.block g (h.lt g h.self) hne).trans h.blk
  have hsecs : Recs vals w' 106 128 vs D.secs := h.secs.keep fun k hk => hg.block k (h.secs.lt k hk) (fun e => h.secs.ne_own h.waits (by decide) k hk e.symm)
  refine ⟨⟨hok, fun k hk => ?_, .inl h.self, ?_, ?_, ?_, fun k hk => .inl (h.inS k hk), fun k hk => ?_⟩, ?_⟩
  · rcases hk with hk | hk
    · have := h.lt k hk; have := hg.size; simp [World.setCell]; omega
    · simpa [World.setCell] using hk.2
  · rw [heap_setCell_same _ _ _ _ _ _ hblk]; rfl
  · exact hsecs.keep fun k hk => heap_setCell_other _ _ _ _ (hsecs.ne_of hblk (by decide) k hk)
  · exact hr.keep fun k hk => heap_setCell_other _ _ _ _ (hr.ne_of hblk (by decide) k hk)
  · rcases hv with hv | hv
    · exact .inl (h.inW k (by rw [← hv]; exact hk))
    · rw [hv] at hk
      injection hk with hk
      subst hk
      exact .inr ⟨Nat.le_refl _, hr.lt _ hv⟩
  · exact (Only.of_grown (S := S) hg (fun k hk => h.inW k hk)).trans (Only.setCell (S := S) _ _ _ h.self) (fun _ _ h => h)

set_option maxHeartbeats 1000000 in
set_option maxRecDepth 100000 in
theorem write_yes (g : Nat) (i : Nat) (D : Dk) (S : Nat → Prop) (a : Option Addr) (cap : Nat) (l : List UInt8) (w : World) (h : DiskAt w S g D) (hi : i < D.secs.length) (hc : D.can = true) (hf : D.waits.length < 1073741824)
    (hl : BytesAt w a 128 cap l) (hS : ∀ p, a = some p → ¬ S p.block) :
    Calls Try.prog 25 #[.pointer (some ⟨g, 0, none⟩), .int .i64 i, .slice a 128 cap] w (DiskTo (.int .i64 0) S g (D.put i l) w) := by
  have CT := Lib.hid (there_yes g i D S w h hi)
  have CS := Lib.hid (spend_yes g D S w h hc)
  have HLT := Lib.hid h.lt
  have HBY := Lib.hid hl
  have HS := Lib.hid hS
  have HOK := Lib.hid (h.ok.put hc i l hi hl.1 hf)
  have hll := hl.1
  have HLL := Lib.hid hll
  obtain ⟨b, off, rfl, _⟩ := hl.at (by omega)
  clear h hi hc hl hS hll
  go_enter Try.func25, Try.ntmps25
  go_upto_region 8 with (first
    | (go_at_call 58; refine (CT.out).mono ?_; rintro e w1 ⟨rfl, rfl⟩)
    | (go_at_call 59; refine (CS.out).mono ?_; rintro e w1 ⟨rfl, hd, ho, hs⟩))
  obtain ⟨vs, vw, hd⟩ := hd
  obtain ⟨c0, c1, c2, c3, hfz⟩ := DiskAt.cells (S := S) hd.blk
  have f1 := hfz 1
  obtain ⟨av, capv, rfl, hvl, hvm⟩ := hd.waits.form
  have hby := HBY.out.only ho HS.out
  obtain ⟨b', off', he, hcell⟩ := hby.at (by omega)
  simp only [Option.some.injEq, Addr.mk.injEq, and_true] at he
  obtain ⟨rfl, rfl⟩ := he
  have hrange : w1.drew.rangeAt b off (vals l) := fun j u hu => by
    have hj : j < 128 := by have := (List.getElem?_eq_some_iff.1 hu).1; rw [vals_length, HLL.out] at this; exact this
    have := hcell j hj
    rw [vals_at l j (by rw [HLL.out]; exact hj)] at hu
    rw [← hu]; exact this
  have harr := run_arrayAtS ⟨b, off, none⟩ cap
  have hbuild := built_wait i l HLL.out
  have hslice := builtS_wait (i, l) HLL.out
  unfold waitC at hslice
  dsimp only at hslice
  have HD := Lib.hid hd
  have HO := Lib.hid ho
  have HSZ := Lib.hid hs
  have HR := Lib.hid hrange
  have hd' : DiskIs w1.drew S g D.paid vs (.slice av D.paid.waits.length capv) := hd.below ((Below.refl _ _).drew)
  have HDD := Lib.hid hd'
  have hgl : g < w1.drew.heap.size := hd'.lt g hd'.self
  have HGL := Lib.hid hgl
  have HF1 := Lib.hid f1
  obtain ⟨i0, hi0, hz0, hz1, hz2⟩ := info_parts infoWait
  clear hd ho hs hfz c0 c2 c3 hcell hby hvl hvm hd' hgl f1
  refine region_head 12 [0, 1, 2, 3, 4, 5, 6, 7, 8, 9, 10, 11] [10, 11] (fun u => u.rangeAt b off (vals l) ∧ u.cell? ⟨g, 1, none⟩ = some (.slice av D.paid.waits.length capv)) (by kernel_rfl) (by kernel_rfl) ⟨hrange, c1⟩ ?_
  clear hrange c1
  simp only [pickO, List.filterMap_cons, List.filterMap_nil, List.getElem?_cons_zero, List.getElem?_cons_succ, Option.map_some, List.drop_succ_cons, List.drop_zero]
  iterate 8
    refine seqH_read _ rfl rfl (by rintro u ⟨hu1, hu2⟩; clear hu1; go_simp; with_reducible rfl) ?_
    simp only [Act.put, List.setIfInBounds_toArray, List.set_cons_zero, List.set_cons_succ]
  refine seqH_load_mid rfl rfl 106 _ rfl b off rfl (vals l) _ (fun u hu => hu.1) Try.underlying106 rfl (by rw [vals_length, HLL.out]; exact sizeSec) ?_
  simp only [Act.put, List.setIfInBounds_toArray, List.set_cons_zero, List.set_cons_succ]
  refine seqH_build rfl rfl 108 _ rfl _ (by simp [go_sem]) _ hbuild ?_
  simp only [Act.put, List.setIfInBounds_toArray, List.set_cons_zero, List.set_cons_succ]
  refine seqH_move rfl rfl (fun K hK => ?_)
  refine wp_buildSliceV 81 1 _ rfl _ (by simp [go_sem]) _ _ (hslice _) ?_
  refine hK _ _ ⟨World.rangeAt_alloc HR.out _, ?_⟩ ?_
  · rw [World.cell?_alloc_lt _ _ _ (by exact HGL.out)]; exact (DiskAt.cells (S := S) HDD.out.blk).2.1
  clear hK K
  simp only [Act.put, List.setIfInBounds_toArray, List.set_cons_zero, List.set_cons_succ]
  have hda : DiskIs (w1.drew.alloc (.cells (waitC (i, l)).toArray 108)) S g D.paid vs (.slice av D.paid.waits.length capv) := HDD.out.below ((Below.refl _ _).alloc (Nat.le_refl _) _)
  have hfew : D.paid.waits.length < 1073741824 := hf
  refine seqH_move rfl rfl (fun K hK => ?_)
  refine wp_append_recs _ _ 81 rfl 108 i0 _ 129 136 Try.underlying81 hi0 hz0 hz1 hz2 (by simp [Value.cells]) (by omega) _ _ rfl hda.waits ⟨w1.drew.heap.size, 0, none⟩ 1 1 [(i, l)] rfl rfl (by
      intro y hy; simp only [List.mem_singleton] at hy; subst hy; exact waitC_length _ HLL.out) (fun y hy => waitC_one y) (one_rec (heap_alloc_new w1.drew _)) (by unfold maxLen; omega) (by omega) ?_
  intro v' w' hr' hg' hv'
  obtain ⟨av', capv', hv0, _, _⟩ := hr'.form
  rw [List.length_append, List.length_singleton] at hv0
  subst hv0
  have hm := hda.moreWaits (i, l) HOK.out hr' hg' hv'
  have hgr : some b ≠ (Value.slice av D.paid.waits.length capv).ownBlock := fun e => HS.out ⟨b, off, none⟩ rfl (HD.out.inW b e.symm)
  have hgr2 : some g ≠ (Value.slice av D.paid.waits.length capv).ownBlock := fun e => hda.waits.ne_of hda.blk (by decide) g e.symm rfl
  have hblk := (hg'.block g (hda.lt g hda.self) hgr2).trans hda.blk
  have hrg : w'.rangeAt b off (vals l) := fun j u hu => hg'.cell (World.rangeAt_alloc HR.out _ j u hu) hgr
  obtain ⟨d0, d1, d2, d3, df⟩ := DiskAt.cells (S := S) hblk
  have df1 := df 1
  refine hK _ _ ⟨hrg, d1⟩ ?_
  have HM := Lib.hid hm
  clear hK K hblk hrg d0 d2 d3 df hgr hgr2 hr' hg' hv' hda hm
  simp only [Act.put, List.setIfInBounds_toArray, List.set_cons_zero, List.set_cons_succ]
  refine seqH_nil ?_
  go_wp2
  go_ret
  refine ⟨rfl, _, ⟨_, _, HM.out.1⟩, ?_, ?_⟩
  · exact HO.out.trans ((Only.of_below (S := S) (((Below.refl _ _).drew).alloc (Nat.le_refl _) _)).trans HM.out.2 (fun _ _ h => h)) (fun _ _ h => h)
  · rintro k (hk | ⟨hk, _⟩)
    · exact .inl hk
    · refine .inr ?_
      simp only [World.size_alloc] at hk
      have := HSZ.out
      have e : w1.drew.heap.size = w1.heap.size := rfl
      omega

/-! ### Waits -/
theorem infoInt : (Try.prog.info? 3).map (fun i => (i.zero, i.size, i.bytes)) = some (some (.int .i64 0), 1, 8) := by kernel_rfl
def intC (n : Nat) : List Value := [.int .i64 n]

/-- a list that is filled from its head on -/
def filled (l : List Nat) (k : Nat) : List Nat := l.take k ++ List.replicate (l.length - k) 0
theorem filled_zero (l : List Nat) : filled l 0 = List.replicate l.length 0 := by simp [filled]
theorem filled_all (l : List Nat) : filled l l.length = l := by simp [filled]
theorem filled_length (l : List Nat) (k : Nat) (hk : k ≤ l.length) : (filled l k).length = l.length := by simp [filled]; omega
theorem filled_set (l : List Nat) (k : Nat) (hk : k < l.length) : (filled l k).set k l[k] = filled l (k + 1) := by
  unfold filled
  have h1 : (l.take k).length = k := by simp; omega
  have h3 : l.length - k = (l.length - (k + 1)) + 1 := by omega
  rw [List.set_append, if_neg (by omega), h1, Nat.sub_self, h3, List.replicate_succ, List.set_cons_zero, List.take_succ_eq_append_getElem hk, List.append_assoc]
  rfl

def WaitsTo (D : Dk) (w : World) (e : Ending) (w' : World) : Prop :=
  ∃ b, e = .returned (.slice (some ⟨b, 0, none⟩) D.waits.length D.waits.length) ∧ w.heap.size ≤ b ∧ Recs intC w' 3 1 (.slice (some ⟨b, 0, none⟩) D.waits.length D.waits.length) (D.waits.map (·.1)) ∧ Below w.heap.size w w'

set_option maxHeartbeats 1000000 in
set_option maxRecDepth 100000 in
theorem waits_any (g : Nat) (D : Dk) (S : Nat → Prop) (w : World) (h : DiskAt w S g D) :
    Calls Try.prog 62 #[.pointer (some ⟨g, 0, none⟩)] w (WaitsTo D w) := by
  obtain ⟨vs, vw, h⟩ := h
  have HD := Lib.hid h
  have hmax : D.waits.length ≤ 1073741824 := h.ok.few
  obtain ⟨c0, c1, c2, c3, hf⟩ := DiskAt.cells (S := S) h.blk
  obtain ⟨av, capv, rfl, hvl, hvm⟩ := h.waits.form
  obtain ⟨i0, hi, hz0, hz1, hz2⟩ := info_parts infoInt
  have hmk : ∀ u, (Instr.makeSlice 109 (.int .i64 (D.waits.length : Int)) (.int .i64 (D.waits.length : Int))).run Try.prog u = .ok (.slice (some ⟨u.heap.size, 0, none⟩) D.waits.length D.waits.length) (u.alloc (.cells (madeCells #[.int .i64 0] D.waits.length) 3)) := fun u => by
    have := run_make u 109 3 i0 _ Try.underlying109 hi hz0 .i64 .i64 (D.waits.length : Int) (D.waits.length : Int) (by omega) (by omega) (by rw [hz2]; omega) (by omega)
    rw [hz1] at this
    simpa [Value.cells] using this
  have hgl := h.lt g h.self
  have HML := Lib.hid (show (D.waits.map (·.1)).length = D.waits.length by simp)
  obtain ⟨Z, hZ, hz⟩ := zeroWait
  have HZ := Lib.hid hZ
  clear h hf c0 c2 c3 hZ hi hz0 hz1 hz2 hvm
  go_enter Try.func62, Try.ntmps62
  go_upto_region 2 with (fail)
  have hb0 : Below w.heap.size w (w.alloc (.cells (madeCells #[.int .i64 0] D.waits.length) 3)) := (Below.refl _ _).alloc (Nat.le_refl _) _
  have hr0 : Recs intC (w.alloc (.cells (madeCells #[.int .i64 0] D.waits.length) 3)) 3 1 (.slice (some ⟨w.heap.size, 0, none⟩) D.waits.length D.waits.length) (filled (D.waits.map (·.1)) 0) := by
    have := World.ownsRow_lit (base := 0) (e := 3) (size := 1) w (madeCells #[.int .i64 0] D.waits.length) D.waits.length (Nat.zero_le _) (by unfold maxLen; omega) (by simp [size_madeCells])
    rw [toList_madeCells_one] at this
    refine ⟨fun x _ => rfl, fun x _ u hu => by simp only [intC, List.mem_singleton] at hu; subst hu; rfl, ?_⟩
    rw [filled_length _ _ (Nat.zero_le _), HML.out, filled_zero, HML.out]
    have e : (List.replicate D.waits.length 0).flatMap intC = List.replicate D.waits.length (.int .i64 0) := by
      generalize D.waits.length = n
      induction n with
      | zero => rfl
      | succ n ih => rw [List.replicate_succ, List.flatMap_cons, ih, List.replicate_succ]; rfl
    rw [e]; exact this
  have HB0 := Lib.hid hb0
  have HR0 := Lib.hid hr0
  have c1' : (w.alloc (.cells (madeCells #[.int .i64 0] D.waits.length) 3)).cell? ⟨g, 1, none⟩ = some (.slice av D.waits.length capv) := (hb0.cell (p := ⟨g, 1, none⟩) hgl).trans c1
  have hsz : w.heap.size < (w.alloc (.cells (madeCells #[.int .i64 0] D.waits.length) 3)).heap.size := by simp
  clear hb0 hr0 hmk
  generalize w.alloc (.cells (madeCells #[.int .i64 0] D.waits.length) 3) = w1 at *
  go_wp2
  go_loopw [17] (fun i wr => ∃ k : Nat, k ≤ D.waits.length ∧ i = .int .i64 k ∧ Recs intC wr 3 1 (.slice (some ⟨w.heap.size, 0, none⟩) D.waits.length D.waits.length) (filled (D.waits.map (·.1)) k) ∧ Below w.heap.size w wr) (fun i _ => D.waits.length - (intOf i).toNat)
  case atStart => exact ⟨0, Nat.zero_le _, rfl, HR0.out, HB0.out⟩
  case round =>
    obtain ⟨k, hk, rfl, hr, hb⟩ := hrel
    have HR := Lib.hid hr
    have HB := Lib.hid hb
    clear hr hb
    by_cases hlt : k < D.waits.length
    · have hd := HD.out.below HB.out
      obtain ⟨gw, capw, hv, _, _, hgw⟩ := hd.waits.form' (by omega)
      simp only [Value.slice.injEq, true_and] at hv
      obtain ⟨rfl, rfl⟩ := hv
      have hx : D.waits[k]? = some D.waits[k] := List.getElem?_eq_getElem hlt
      have hr := hd.waits.rangeAt k _ hx
      have hlen := waitC_length D.waits[k] (HD.out.ok.wait _ (List.getElem_mem hlt)).2
      have HW := Lib.hid hr
      have HLEN := Lib.hid hlen
      have hlti : (k : Int) < (D.waits.length : Int) := by omega
      have HZW := Lib.hid (show Z.size = (waitC D.waits[k]).toArray.size by rw [List.size_toArray]; exact HZ.out.trans HLEN.out.symm)
      have HSW := Lib.hid (show (Try.prog.info? 108).map (·.size) = some (waitC D.waits[k]).toArray.size by rw [List.size_toArray, HLEN.out]; exact sizeWait)
      have HSL := Lib.hid (show (Try.prog.info? 108).map (·.size) = some (waitC D.waits[k]).length by rw [HLEN.out]; exact sizeWait)
      clear hd hr hlen hx
      go_upto_region 5 with (first
        | (refine wpList_load_mid rfl 108 _ rfl gw (k * 129) rfl (waitC D.waits[k]) _ HW.out Try.underlying108 rfl HSL.out ?_)
        | (refine wpList_store_row rfl 108 _ _ rfl wr.heap.size (waitC D.waits[k]).toArray rfl rfl 108 Z (heap_alloc_new wr _) HSW.out HZW.out (all_oneCell_toArray (waitC_one _)) ?_))
      have hbox := heap_setRow_same (wr.alloc (.cells Z 108)) wr.heap.size (waitC D.waits[k]).toArray Z 108 (heap_alloc_new wr _)
      have hbel : Below wr.heap.size wr ((wr.alloc (.cells Z 108)).setRow wr.heap.size (waitC D.waits[k]).toArray) := below_setRow ((Below.refl _ _).alloc (Nat.le_refl _) _) (Nat.le_refl _) _
      obtain ⟨cb0, _⟩ := box_wait hbox
      have hr2 := HR.out.below hbel
      have hlf : k < (filled (D.waits.map (·.1)) k).length := by rw [filled_length _ _ (by rw [HML.out]; omega), HML.out]; exact hlt
      have hth := (hr2.there k hlf 0 (by omega)).1
      have hfr := hr2.frozenAt (k * 1 + 0)
      have hkk : k * 1 + 0 = k := by omega
      rw [hkk] at hth hfr
      obtain ⟨ck, hck⟩ := Option.isSome_iff_exists.1 hth
      have HR2 := Lib.hid hr2
      have HB2 := Lib.hid (HB.out.trans (hbel.mono HB.out.size))
      have HLF := Lib.hid hlf
      have HKM := Lib.hid (show (D.waits.map (·.1))[k]'(by rw [HML.out]; exact hlt) = D.waits[k].1 by simp)
      clear hbox hbel hr2 hth hkk hlf
      generalize (wr.alloc (.cells Z 108)).setRow wr.heap.size (waitC D.waits[k]).toArray = w2 at *
      generalize D.waits[k] = x at *
      obtain ⟨xa, xs⟩ := x
      dsimp only at *
      go_wp2
      go_roundw
      case rel =>
        refine ⟨k + 1, by omega, by go_num, ?_, HB2.out.setCell (by simp) _⟩
        have hst := HR2.out.stored k 0 HLF.out (by omega) xa (.int .i64 xa) (by simp [intC]) rfl
        rw [show k * 1 + 0 = k by omega, ← HKM.out, filled_set _ _ (by rw [HML.out]; exact hlt)] at hst
        rw [← HKM.out]
        exact hst
      case measure => simp [intOf]; omega
    · obtain rfl : k = D.waits.length := by omega
      go_wp2
      go_ret
      have hr := HR.out
      have e : filled (D.waits.map (·.1)) D.waits.length = D.waits.map (·.1) := by
        conv => lhs; rw [← HML.out]
        exact filled_all _
      rw [e] at hr
      exact ⟨w.heap.size, rfl, Nat.le_refl _, hr, HB.out⟩

end Go.Proofs.Ytinfgfgmijjhjaa
