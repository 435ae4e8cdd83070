/-
  same: a disk is as the document's.
-/
import Derived.Test.YtinfgfgmijjhjaaJnEval
namespace Go.Proofs.Ytinfgfgmijjhjaa
open Go.RowKit
set_option linter.unusedVariables false
set_option linter.unusedSimpArgs false

set_option maxHeartbeats 8000000 in
set_option maxRecDepth 100000 in
theorem same_yes (g r : Nat) (D : Dk) (S T : Nat → Prop) (w : World) (h : DiskAt w S g D) (hr : RefAt w T r D) :
    Calls Try.prog 30 #[.pointer (some ⟨g, 0, none⟩), .pointer (some ⟨r, 0, none⟩)] w fun e w' => e = .returned (.bool true) ∧ Below w.heap.size w w' := by
  have CW := Lib.hid (waits_any g D S w h)
  have HD := Lib.hid h
  have HR := Lib.hid hr
  have hok := h.ok
  have hmany := hok.many
  have hfew := hok.few
  have hpw : (D.power == !D.power) = false := by cases D.power <;> rfl
  clear h hr hok
  go_enter Try.func30, Try.ntmps30
  go_wp2_with fail
  refine (CW.out).mono ?_
  rintro e w1 ⟨b, rfl, hlo, hrec, hb1⟩
  have B1 := Lib.hid hb1
  have RC := Lib.hid hrec
  obtain ⟨vs, vw, hri⟩ := HR.out.below hb1
  have RI := Lib.hid hri
  obtain ⟨d0, d1, _, d3, _⟩ := ref_cells hri.blk
  obtain ⟨asec, csec, rfl, _, _⟩ := hri.secs.form
  obtain ⟨aw, cw, rfl, _, _⟩ := hri.waits.form
  have hS0 : w1.drew.cell? ⟨r, 0, none⟩ = some (.slice asec D.secs.length csec) ∧ w1.drew.cell? ⟨r, 1, none⟩ = some (.slice aw D.waits.length cw) ∧ w1.drew.cell? ⟨r, 3, none⟩ = some (.bool (!D.power)) := ⟨d0, d1, d3⟩
  have HS0 := Lib.hid hS0
  have CSZ := Lib.hid (size_any g D S w1.drew (HD.out.below B1.out.drew))
  have CP := Lib.hid (power_any g D S w1.drew (HD.out.below B1.out.drew))
  clear hrec hb1 hri d0 d1 d3 hS0 CW hlo
  go_wp2_with fail
  refine region_head 27 [0, 2, 3, 4, 5, 6, 1, 7, 8, 9, 11, 12, 13, 14, 10, 15, 16, 17, 18, 19, 20, 21, 22, 23, 24, 25, 26] [1, 10] (fun u => u.cell? ⟨r, 0, none⟩ = some (.slice asec D.secs.length csec) ∧ u.cell? ⟨r, 1, none⟩ = some (.slice aw D.waits.length cw) ∧ u.cell? ⟨r, 3, none⟩ = some (.bool (!D.power))) (by kernel_rfl) (by kernel_rfl) HS0.out ?_
  simp only [pickO, List.append_eq, List.cons_append, List.nil_append, List.filterMap_cons, List.filterMap_nil, List.getElem?_cons_zero, List.getElem?_cons_succ, Option.map_some, List.drop_succ_cons, List.drop_zero]
  iterate 6
    refine seqH_readG _ rfl (by rfl) (by rintro u ⟨hu1, hu2, hu3⟩; go_simp; with_reducible rfl) ?_
    try simp only [Act.put, List.setIfInBounds_toArray, List.set_cons_zero, List.set_cons_succ]
  refine seqH_moveG rfl (by rfl) (fun K hK => ?_)
  go_simp
  refine (CSZ.out).mono ?_
  rintro e w2 ⟨rfl, rfl⟩
  refine hK _ _ HS0.out ?_
  clear hK K CSZ
  try simp only [Act.put, List.setIfInBounds_toArray, List.set_cons_zero, List.set_cons_succ]
  iterate 7
    refine seqH_readG _ rfl (by rfl) (by rintro u ⟨hu1, hu2, hu3⟩; go_simp; with_reducible rfl) ?_
    try simp only [Act.put, List.setIfInBounds_toArray, List.set_cons_zero, List.set_cons_succ]
  refine seqH_moveG rfl (by rfl) (fun K hK => ?_)
  go_simp
  refine (CP.out).mono ?_
  rintro e w2 ⟨rfl, rfl⟩
  refine hK _ _ HS0.out ?_
  clear hK K CP
  try simp only [Act.put, List.setIfInBounds_toArray, List.set_cons_zero, List.set_cons_succ]
  iterate 12
    refine seqH_readG _ rfl (by rfl) (by rintro u ⟨hu1, hu2, hu3⟩; go_simp; with_reducible rfl) ?_
    try simp only [Act.put, List.setIfInBounds_toArray, List.set_cons_zero, List.set_cons_succ]
  refine seqH_nil ?_
  have B2 := Lib.hid (B1.out.drew)
  have RC2 := Lib.hid (RC.out.below (w' := w1.drew) ((Below.refl _ _).drew))
  have RI2 := Lib.hid (RI.out.below (w' := w1.drew) ((Below.refl _ _).drew))
  clear HS0 RC RI B1
  generalize w1.drew = w2 at *
  go_wp2
  go_loopw [6] (fun i wr => ∃ k : Nat, k ≤ D.waits.length ∧ i = .int .i64 k ∧ Below w2.heap.size w2 wr) (fun i _ => D.waits.length - (intOf i).toNat)
  case atStart => exact ⟨0, Nat.zero_le _, rfl, Below.refl _ _⟩
  case round =>
    obtain ⟨k, hk, rfl, hb⟩ := hrel
    have HB := Lib.hid hb
    clear hb
    by_cases hlt : k < D.waits.length
    · have RIk := Lib.hid (RI2.out.below HB.out.drew)
      have RCk := Lib.hid (RC2.out.below HB.out.drew)
      obtain ⟨gw, cw', hvw, _, _, _⟩ := RIk.out.waits.form' (by omega)
      simp only [Value.slice.injEq, true_and] at hvw
      obtain ⟨rfl, rfl⟩ := hvw
      have hx : D.waits[k]? = some D.waits[k] := List.getElem?_eq_getElem hlt
      have e1 := RCk.out.cellAt k 0 (D.waits[k].1) (by rw [List.getElem?_map, hx]; rfl) (by omega)
      have e2 := RIk.out.waits.cellAt k 0 _ hx (by omega)
      obtain ⟨_, d1, _, _, _⟩ := ref_cells RIk.out.blk
      have hki : (k : Int) < (D.waits.length : Int) := by omega
      have hS : wr.drew.cell? ⟨b, k, none⟩ = some (.int .i64 (D.waits[k].1 : Int)) ∧ wr.drew.cell? ⟨r, 1, none⟩ = some (.slice (some ⟨gw, 0, none⟩) D.waits.length cw) ∧ wr.drew.cell? ⟨gw, k * 2, none⟩ = some (.int .i64 (D.waits[k].1 : Int)) :=
        ⟨by simpa [intC] using e1, d1, by simpa [rwC] using e2⟩
      clear hx e1 e2 d1
      generalize D.waits[k].1 = q at *
      go_wp2_with fail
      refine region_head 13 [0, 1, 2, 3, 4, 5, 6, 7, 8, 9, 10, 11, 12] [] (fun u => u.cell? ⟨b, k, none⟩ = some (.int .i64 (q : Int)) ∧ u.cell? ⟨r, 1, none⟩ = some (.slice (some ⟨gw, 0, none⟩) D.waits.length cw) ∧ u.cell? ⟨gw, k * 2, none⟩ = some (.int .i64 (q : Int))) (by kernel_rfl) (by kernel_rfl) hS ?_
      clear hS
      simp only [pickO, List.append_eq, List.cons_append, List.nil_append, List.filterMap_cons, List.filterMap_nil, List.getElem?_cons_zero, List.getElem?_cons_succ, Option.map_some, List.drop_succ_cons, List.drop_zero]
      iterate 13
        refine seqH_readG _ rfl (by rfl) (by rintro u ⟨hu1, hu2, hu3⟩; go_simp; with_reducible rfl) ?_
        try simp only [Act.put, List.setIfInBounds_toArray, List.set_cons_zero, List.set_cons_succ]
      refine seqH_nil ?_
      go_wp2
      go_roundw
      case rel => exact ⟨k + 1, by omega, by go_num, HB.out.drew⟩
      case measure => simp [intOf]; omega
    · obtain rfl : k = D.waits.length := by omega
      have RI3 := Lib.hid (RI2.out.below HB.out)
      have B3 := Lib.hid (B2.out.trans (HB.out.mono B2.out.size))
      clear RI2 RC2 B2
      obtain ⟨w3, rfl⟩ : ∃ w3 : World, w3 = wr := ⟨_, rfl⟩
      have d0 := (ref_cells RI3.out.blk).1
      go_wp2
      go_loopw [7] (fun i wr => ∃ k : Nat, k ≤ D.secs.length ∧ i = .int .i64 k ∧ Below w3.heap.size w3 wr) (fun i _ => D.secs.length - (intOf i).toNat)
      case atStart => exact ⟨0, Nat.zero_le _, rfl, Below.refl _ _⟩
      case round =>
        obtain ⟨j, hj, rfl, hbj⟩ := hrel
        have HBJ := Lib.hid hbj
        clear hbj
        have RIj := Lib.hid (RI3.out.below HBJ.out)
        have e0 := (ref_cells RIj.out.blk).1
        by_cases hlt2 : j < D.secs.length
        · have CH := Lib.hid (has_yes g j D S wr (HD.out.below (B3.out.trans (HBJ.out.mono B3.out.size))) hlt2)
          have hji : (j : Int) < (D.secs.length : Int) := by omega
          go_wp2_with fail
          refine (CH.out).mono ?_
          rintro e w4 ⟨a4, c4, rfl, hy4, hb4, _⟩
          have HB4 := Lib.hid (HBJ.out.trans (hb4.mono HBJ.out.size))
          have RI4 := Lib.hid (RI3.out.below HB4.out.drew)
          obtain ⟨gs, cs', hvs, _, _, _⟩ := RI4.out.secs.form' (by omega)
          simp only [Value.slice.injEq, true_and] at hvs
          obtain ⟨rfl, rfl⟩ := hvs
          have hx : D.secs[j]? = some (D.secs.getD j []) := by rw [List.getD, List.getElem?_eq_getElem hlt2]; rfl
          have e2 := RI4.out.secs.cellAt j 0 _ hx (by omega)
          have e3 := (ref_cells RI4.out.blk).1
          have hS : BytesAt w4.drew a4 128 c4 (D.secs.getD j []) ∧ w4.drew.cell? ⟨r, 0, none⟩ = some (.slice (some ⟨gs, 0, none⟩) D.secs.length csec) ∧ w4.drew.cell? ⟨gs, j, none⟩ = some (.string ⟨(D.secs.getD j []).toArray⟩) :=
            ⟨hy4.below ((Below.refl _ _).drew), e3, by simpa [strC] using e2⟩
          clear hx e2 e3 e0 hy4 hb4 CH
          generalize D.secs.getD j [] = l at *
          go_wp2_with fail
          refine region_head 14 [0, 1, 2, 3, 4, 5, 6, 7, 8, 9, 10, 11, 12, 13] [] (fun u => BytesAt u a4 128 c4 l ∧ u.cell? ⟨r, 0, none⟩ = some (.slice (some ⟨gs, 0, none⟩) D.secs.length csec) ∧ u.cell? ⟨gs, j, none⟩ = some (.string ⟨l.toArray⟩)) (by kernel_rfl) (by kernel_rfl) hS ?_
          clear hS
          simp only [pickO, List.append_eq, List.cons_append, List.nil_append, List.filterMap_cons, List.filterMap_nil, List.getElem?_cons_zero, List.getElem?_cons_succ, Option.map_some, List.drop_succ_cons, List.drop_zero]
          iterate 14
            refine seqH_readG _ rfl (by rfl) (by rintro u ⟨hu1, hu2, hu3⟩; have hv := hu1.conv; clear hu1; go_simp; with_reducible rfl) ?_
            try simp only [Act.put, List.setIfInBounds_toArray, List.set_cons_zero, List.set_cons_succ]
          refine seqH_nil ?_
          go_wp2
          go_roundw
          case rel => exact ⟨j + 1, by omega, by go_num, HB4.out.drew⟩
          case measure => simp [intOf]; omega
        · obtain rfl : j = D.secs.length := by omega
          go_wp2
          go_ret
          exact ⟨rfl, B3.out.trans (HBJ.out.mono B3.out.size)⟩

end Go.Proofs.Ytinfgfgmijjhjaa
