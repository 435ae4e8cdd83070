/-
  What is read of a sector is what the last write of it says, flushed or not, and no write of another one changes it (P3.2).
  No condition: whatever is done, and of whatever sector.
-/
import Derived.Test.YtnohglcodloilaaAwake03
import Derived.Test.YtnohglcodloilaaActs
import Derived.Deep.DeepCutAuto
import Derived.Deep.CutBlock
namespace Go.Proofs.Ytnohglcodloilaa.diskReads
open Go.ChangeShapes Go.WideShapes Go.ChangeAt Go.RowKit
open Go.ChangeMaps (open_string shut_string)
set_option linter.unusedVariables false
set_option linter.unusedSimpArgs false

/-- what the loop holds -/
structure Inv (w wr : World) (S : Nat → Prop) (g : Nat) (D : Dk) (at_ k : Nat) (want : List UInt8) : Prop where
  run : Run w wr S g D
  size : D.secs.length = 4
  on : D.power = true
  free : D.budget = -1
  few : D.waits.length ≤ k
  want : want = D.content at_
  lt : at_ < 4

theorem Inv.can {w wr : World} {S : Nat → Prop} {g : Nat} {D : Dk} {at_ k : Nat} {want : List UInt8} (h : Inv w wr S g D at_ k want) : D.can = true := by
  simp [Dk.can, h.on, h.free]
theorem Inv.quiet {w wr wr' : World} {S : Nat → Prop} {g : Nat} {D : Dk} {at_ k : Nat} {want : List UInt8} (h : Inv w wr S g D at_ k want) (hb : Below wr.heap.size wr wr') : Inv w wr' S g D at_ (k + 1) want :=
  ⟨h.run.quiet hb, h.size, h.on, h.free, Nat.le_succ_of_le h.few, h.want, h.lt⟩
theorem Inv.still {w wr wr' : World} {S : Nat → Prop} {g : Nat} {D : Dk} {at_ k : Nat} {want : List UInt8} (h : Inv w wr S g D at_ k want) (hb : Below wr.heap.size wr wr') : Inv w wr' S g D at_ k want :=
  ⟨h.run.quiet hb, h.size, h.on, h.free, h.few, h.want, h.lt⟩
theorem Inv.flush {w wr wr' : World} {S S' : Nat → Prop} {g : Nat} {D : Dk} {at_ k : Nat} {want : List UInt8} (h : Inv w wr S g D at_ k want) (hd : DiskAt wr' S' g D.flushed) (ho : Only S wr wr') (hs : ∀ k, S' k → S k ∨ wr.heap.size ≤ k) : Inv w wr' S' g D.flushed at_ (k + 1) want := by
  refine ⟨h.run.to hd ho hs, ?_, h.on, ?_, ?_, ?_, h.lt⟩
  · exact (Dk.laid_length (fun _ => true) D.waits D.secs).trans h.size
  · show (if D.budget = -1 then (-1 : Int) else _) = -1
    rw [if_pos h.free]
  · exact Nat.zero_le _
  · rw [Dk.content_flushed D at_ (by rw [h.size]; exact h.lt)]; exact h.want
theorem Inv.put {w wr wr' : World} {S S' : Nat → Prop} {g : Nat} {D : Dk} {at_ k i : Nat} {want s : List UInt8} (h : Inv w wr S g D at_ k want) (hd : DiskAt wr' S' g (D.put i s)) (ho : Only S wr wr') (hs : ∀ k, S' k → S k ∨ wr.heap.size ≤ k) : Inv w wr' S' g (D.put i s) at_ (k + 1) (if i = at_ then s else want) := by
  refine ⟨h.run.to hd ho hs, h.size, h.on, ?_, ?_, ?_, h.lt⟩
  · show (if D.budget = -1 then (-1 : Int) else _) = -1
    rw [if_pos h.free]
  · show (D.waits ++ [(i, s)]).length ≤ k + 1
    have := h.few
    simp; omega
  · rw [Dk.content_put, ← h.want]

theorem new_content (n i : Nat) (h : i < n) : (Dk.new n).content i = sec 0 := by
  show (List.replicate n (List.replicate 128 (0 : UInt8))).getD i [] = _
  rw [List.getD, List.getElem?_replicate, if_pos h]; rfl

set_option maxRecDepth 100000 in
set_option maxHeartbeats 4000000 in
theorem walk (a : Option Addr) (n cap : Nat) (L : List ActM) (i : Int) (w : World) (hL : CameAt actC 5 w a n cap L) (hg : ∀ x ∈ L, x.Good w) (hi : (Lit.int .u8 i).wf = true) :
    Calls Try.prog 5 #[.slice a n cap, .int .u8 i] w fun e w' => e = .returned (.bool true) ∧ Below w.heap.size w w' := by
  obtain ⟨i, rfl, hi1⟩ : ∃ x : Nat, i = x ∧ x < 256 := by
    simp [Lit.wf, IntKind.min, IntKind.max, IntKind.signed, IntKind.bits] at hi
    exact ⟨i.toNat, by omega, by omega⟩
  have HL := Lib.hid hL
  have HG := Lib.hid hg
  have hm : n ≤ 9223372036854775807 := by have := hL.2.1; have := hL.2.2.1; unfold maxLen at *; omega
  clear hL hg hi
  go_enter Try.func5, Try.ntmps5
  go_wp2_with fail
  refine (new_yes 4 _ (by omega) (by omega)).mono ?_
  rintro e w1 ⟨g, S1, rfl, hd1, hb1, hn1⟩
  have R1 := Lib.hid (Run.mk hd1 hb1 hn1)
  clear hd1 hb1 hn1
  go_wp2_with fail
  refine (all_any 0 _).mono ?_
  rintro e w2 ⟨a2, c2, rfl, hr, hb, hn⟩
  have R2 := Lib.hid (R1.out.quiet hb)
  have v2 := hr.conv
  clear hr hb hn R1
  have hat0 : 0 ≤ (i : Int) % 4 := Int.emod_nonneg _ (by omega)
  have hat1 : (i : Int) % 4 < 4 := Int.emod_lt_of_pos _ (by omega)
  go_wp2
  generalize (i : Int) % 4 = q at *
  obtain ⟨at_, rfl⟩ := Int.eq_ofNat_of_zero_le hat0
  have I2 := Lib.hid (show Inv w w2 S1 g (Dk.new 4) at_ 0 (sec 0) from ⟨R2.out, by decide, rfl, rfl, Nat.le_refl _, (new_content 4 at_ (by omega)).symm, by omega⟩)
  clear R2 v2 hat0 hat1
  go_loopw [8, 9] (fun s8 s9 wr => ∃ (k : Nat) (S : Nat → Prop) (D : Dk) (want : List UInt8), k ≤ n ∧ k ≤ 40 ∧ s9 = .int .i64 k ∧ s8 = .string ⟨want.toArray⟩ ∧ Inv w wr S g D at_ k want) (fun _ s9 _ => n - (intOf s9).toNat)
  case atStart => exact ⟨0, S1, Dk.new 4, sec 0, Nat.zero_le _, by omega, rfl, rfl, I2.out⟩
  case round =>
    obtain ⟨k, S, D, want, hk, hk40, rfl, rfl, hinv⟩ := hrel
    have HI := Lib.hid hinv
    clear hinv
    by_cases hlt : k < n
    · by_cases h40 : k < 40
      · have hL := HL.out.below (by omega) HI.out.run.below
        obtain ⟨b, off, rfl, hbl, hcell⟩ := hL.at (by omega) (by omega)
        obtain ⟨x, hx⟩ : ∃ x, L[k]? = some x := ⟨L[k]'(by have := hL.1; omega), List.getElem?_eq_getElem _⟩
        have hgx := HG.out x (List.mem_of_getElem? hx)
        have c0 : wr.cell? ⟨b, off + k * 5, none⟩ = some (.int .i64 x.act) := hcell k 0 x hx (by omega)
        have c1 : wr.cell? ⟨b, off + k * 5 + 1, none⟩ = some (.int .i64 x.i) := by rw [Nat.add_assoc]; exact hcell k 1 x hx (by omega)
        have c2 : wr.cell? ⟨b, off + k * 5 + 2, none⟩ = some (.int .u8 x.c.toNat) := by rw [Nat.add_assoc]; exact hcell k 2 x hx (by omega)
        have hlti : (k : Int) < (n : Int) := by omega
        have h40i : (k : Int) < 40 := by omega
        have hat : (at_ : Int) < 4 := by have := HI.out.lt; omega
        have hbw : b < w.heap.size := by
          obtain ⟨b', off', he, hb', _⟩ := HL.out.at (by omega) (by omega)
          cases he; exact hb'
        have HLO := Lib.hid hgx.ilo
        have HHI := Lib.hid hgx.ihi
        clear hL hcell hgx hx hbl
        by_cases hdo : x.act = 2
        · have hd1 : (x.act == 2) = true := by simpa using hdo
          clear hdo
          go_wp2_with fail
          refine (flush_yes g D S _ HI.out.run.disk HI.out.can).mono ?_
          rintro e w3 ⟨rfl, S3, hd, ho, hs⟩
          have J := Lib.hid (HI.out.flush hd ho hs)
          clear hd ho hs c0 c1 c2 HI
          go_wp2_with fail
          refine (read_yes g at_ (D.flushed) S3 _ J.out.run.disk (by rw [J.out.size]; exact J.out.lt) J.out.on).mono ?_
          rintro e w4 ⟨a4, c4, rfl, hr, hb, hn⟩
          have K4 := Lib.hid (J.out.still hb)
          rw [← J.out.want] at hr
          have v4 := hr.conv
          clear hr hb hn J
          go_wp2
          go_roundw
          case rel => exact ⟨k + 1, S3, D.flushed, want, by omega, by omega, by go_num, rfl, K4.out⟩
          case measure => simp [intOf]; omega
        · have hd1 : (x.act == 2) = false := by simpa using hdo
          clear hdo
          by_cases hrange : x.i < 0 ∨ (4 : Int) ≤ x.i
          · go_wp2_with fail
            have R5 := Lib.hid HI.out.run
            refine region_head 23 [0, 1, 2, 3, 4, 5, 6, 7, 8, 9, 10, 11, 12, 13, 14, 15, 16, 17, 18, 19, 20, 21, 22] [11, 12] (fun u => u.cell? ⟨b, off + k * 5 + 1, none⟩ = some (.int .i64 x.i) ∧ u.cell? ⟨b, off + k * 5 + 2, none⟩ = some (.int .u8 x.c.toNat)) (by kernel_rfl) (by kernel_rfl) ⟨c1, c2⟩ ?_
            simp only [pickO, List.append_eq, List.cons_append, List.nil_append, List.filterMap_cons, List.filterMap_nil, List.getElem?_cons_zero, List.getElem?_cons_succ, Option.map_some, List.drop_succ_cons, List.drop_zero]
            iterate 11
              refine seqH_readG _ rfl (by rfl) (by rintro u ⟨hu1, hu2⟩; go_simp; with_reducible rfl) ?_
              try simp only [Act.put, List.setIfInBounds_toArray, List.set_cons_zero, List.set_cons_succ]
            refine seqH_moveG rfl (by rfl) (fun K hK => ?_)
            go_simp
            refine (all_any x.c _).mono ?_
            rintro e w5 ⟨a5, cc5, rfl, hr, hb, hn⟩
            have hI5 := Lib.hid (HI.out.run.drew.quiet hb)
            have d1 := (hI5.out.below.cell (p := ⟨b, off + k * 5 + 1, none⟩) hbw).trans ((HI.out.run.below.cell (p := ⟨b, off + k * 5 + 1, none⟩) hbw).symm.trans c1)
            have d2 := (hI5.out.below.cell (p := ⟨b, off + k * 5 + 2, none⟩) hbw).trans ((HI.out.run.below.cell (p := ⟨b, off + k * 5 + 2, none⟩) hbw).symm.trans c2)
            have K5 := Lib.hid (Kept.new (S := S) hr hn HI.out.run.drew.disk.lt)
            refine hK _ _ ⟨d1, d2⟩ ?_
            clear hK K
            try simp only [Act.put, List.setIfInBounds_toArray, List.set_cons_zero, List.set_cons_succ]
            refine seqH_moveG rfl (by rfl) (fun K hK => ?_)
            go_simp
            refine (write_range g x.i D S _ _ hI5.out.disk (by rw [HI.out.size]; exact hrange)).mono ?_
            rintro e w6 ⟨rfl, rfl⟩
            refine hK _ _ ⟨d1, d2⟩ ?_
            clear hK K
            have J := Lib.hid (show Inv w w5 S g D at_ (k + 1) want from HI.out.quiet (((Below.refl _ _).drew).trans hb))
            clear HI R5 c0 c1 c2 d1 d2 hr hb hn hI5 K5
            try simp only [Act.put, List.setIfInBounds_toArray, List.set_cons_zero, List.set_cons_succ]
            iterate 2
              refine seqH_readG _ rfl (by rfl) (by rintro u ⟨hu1, hu2⟩; go_simp; with_reducible rfl) ?_
              try simp only [Act.put, List.setIfInBounds_toArray, List.set_cons_zero, List.set_cons_succ]
            iterate 7
              refine seqH_skip rfl (by rfl) ?_
              try simp only [Act.put, List.setIfInBounds_toArray, List.set_cons_zero, List.set_cons_succ]
            iterate 1
              refine seqH_readG _ rfl (by rfl) (by rintro u ⟨hu1, hu2⟩; go_simp; with_reducible rfl) ?_
              try simp only [Act.put, List.setIfInBounds_toArray, List.set_cons_zero, List.set_cons_succ]
            refine seqH_nil ?_
            go_wp2_with fail
            refine (read_yes g at_ (D) S _ J.out.run.disk (by rw [J.out.size]; exact J.out.lt) J.out.on).mono ?_
            rintro e w4 ⟨a4, c4, rfl, hr, hb, hn⟩
            have K4 := Lib.hid (J.out.still hb)
            rw [← J.out.want] at hr
            have v4 := hr.conv
            clear hr hb hn J
            go_wp2
            go_roundw
            case rel => exact ⟨k + 1, S, D, want, by omega, by omega, by go_num, rfl, K4.out⟩
            case measure => simp [intOf]; omega
          · obtain ⟨xi, hxe⟩ : ∃ xi : Nat, x.i = xi := ⟨x.i.toNat, by omega⟩
            have hxi : xi < 4 := by omega
            rw [hxe] at c1
            clear hrange hxe
            by_cases hsame : xi = at_
            · have hsb : ((xi : Int) == (at_ : Int)) = true := by rw [hsame]; simp
              have HSM := Lib.hid hsame
              clear hsame
              go_wp2_with fail
              have R5 := Lib.hid HI.out.run
              refine region_head 23 [0, 1, 2, 3, 4, 5, 6, 7, 8, 9, 10, 11, 12, 13, 14, 15, 16, 17, 18, 19, 20, 21, 22] [11, 12] (fun u => u.cell? ⟨b, off + k * 5 + 1, none⟩ = some (.int .i64 (xi : Int)) ∧ u.cell? ⟨b, off + k * 5 + 2, none⟩ = some (.int .u8 x.c.toNat)) (by kernel_rfl) (by kernel_rfl) ⟨c1, c2⟩ ?_
              simp only [pickO, List.append_eq, List.cons_append, List.nil_append, List.filterMap_cons, List.filterMap_nil, List.getElem?_cons_zero, List.getElem?_cons_succ, Option.map_some, List.drop_succ_cons, List.drop_zero]
              iterate 11
                refine seqH_readG _ rfl (by rfl) (by rintro u ⟨hu1, hu2⟩; go_simp; with_reducible rfl) ?_
                try simp only [Act.put, List.setIfInBounds_toArray, List.set_cons_zero, List.set_cons_succ]
              refine seqH_moveG rfl (by rfl) (fun K hK => ?_)
              go_simp
              refine (all_any x.c _).mono ?_
              rintro e w5 ⟨a5, cc5, rfl, hr, hb, hn⟩
              have hI5 := Lib.hid (HI.out.run.drew.quiet hb)
              have d1 := (hI5.out.below.cell (p := ⟨b, off + k * 5 + 1, none⟩) hbw).trans ((HI.out.run.below.cell (p := ⟨b, off + k * 5 + 1, none⟩) hbw).symm.trans c1)
              have d2 := (hI5.out.below.cell (p := ⟨b, off + k * 5 + 2, none⟩) hbw).trans ((HI.out.run.below.cell (p := ⟨b, off + k * 5 + 2, none⟩) hbw).symm.trans c2)
              have K5 := Lib.hid (Kept.new (S := S) hr hn HI.out.run.drew.disk.lt)
              refine hK _ _ ⟨d1, d2⟩ ?_
              clear hK K
              try simp only [Act.put, List.setIfInBounds_toArray, List.set_cons_zero, List.set_cons_succ]
              refine seqH_moveG rfl (by rfl) (fun K hK => ?_)
              go_simp
              refine (write_yes g xi D S a5 cc5 (sec x.c) _ hI5.out.disk (by rw [HI.out.size]; exact hxi) HI.out.can (by have := HI.out.few; omega) K5.out.at_ (fun p hp => (K5.out.off p hp).1)).mono ?_
              rintro e w6 ⟨rfl, S6, hd, ho, hs⟩
              have J0 := Lib.hid (Inv.put (HI.out.still (((Below.refl _ _).drew).trans hb)) hd ho hs)
              have e1 := (J0.out.run.below.cell (p := ⟨b, off + k * 5 + 1, none⟩) hbw).trans ((HI.out.run.below.cell (p := ⟨b, off + k * 5 + 1, none⟩) hbw).symm.trans c1)
              have e2 := (J0.out.run.below.cell (p := ⟨b, off + k * 5 + 2, none⟩) hbw).trans ((HI.out.run.below.cell (p := ⟨b, off + k * 5 + 2, none⟩) hbw).symm.trans c2)
              refine hK _ _ ⟨e1, e2⟩ ?_
              have hfew := HI.out.few
              clear hK K HI R5 c0 c1 c2 d1 d2 hr hb hn hI5 K5 hd ho hs
              try simp only [Act.put, List.setIfInBounds_toArray, List.set_cons_zero, List.set_cons_succ]
              iterate 10
                refine seqH_readG _ rfl (by rfl) (by rintro u ⟨hu1, hu2⟩; go_simp; with_reducible rfl) ?_
                try simp only [Act.put, List.setIfInBounds_toArray, List.set_cons_zero, List.set_cons_succ]
              refine seqH_nil ?_
              rw [if_pos HSM.out] at J0
              go_wp2_with fail
              refine (all_any x.c _).mono ?_
              rintro e w7 ⟨a7, c7, rfl, hr, hb, hn⟩
              have v7 := hr.conv
              have J := Lib.hid (J0.out.still hb)
              clear hr hb hn J0
              go_wp2_with fail
              refine (read_yes g at_ (D.put xi (sec x.c)) S6 _ J.out.run.disk (by rw [J.out.size]; exact J.out.lt) J.out.on).mono ?_
              rintro e w4 ⟨a4, c4, rfl, hr, hb, hn⟩
              have K4 := Lib.hid (J.out.still hb)
              rw [← J.out.want] at hr
              have v4 := hr.conv
              clear hr hb hn J
              go_wp2
              go_roundw
              case rel => exact ⟨k + 1, S6, D.put xi (sec x.c), sec x.c, by omega, by omega, by go_num, rfl, K4.out⟩
              case measure => simp [intOf]; omega
            · have hsb : ((xi : Int) == (at_ : Int)) = false := by rw [beq_eq_false_iff_ne]; omega
              have HSM := Lib.hid hsame
              clear hsame
              go_wp2_with fail
              have R5 := Lib.hid HI.out.run
              refine region_head 23 [0, 1, 2, 3, 4, 5, 6, 7, 8, 9, 10, 11, 12, 13, 14, 15, 16, 17, 18, 19, 20, 21, 22] [11, 12] (fun u => u.cell? ⟨b, off + k * 5 + 1, none⟩ = some (.int .i64 (xi : Int)) ∧ u.cell? ⟨b, off + k * 5 + 2, none⟩ = some (.int .u8 x.c.toNat)) (by kernel_rfl) (by kernel_rfl) ⟨c1, c2⟩ ?_
              simp only [pickO, List.append_eq, List.cons_append, List.nil_append, List.filterMap_cons, List.filterMap_nil, List.getElem?_cons_zero, List.getElem?_cons_succ, Option.map_some, List.drop_succ_cons, List.drop_zero]
              iterate 11
                refine seqH_readG _ rfl (by rfl) (by rintro u ⟨hu1, hu2⟩; go_simp; with_reducible rfl) ?_
                try simp only [Act.put, List.setIfInBounds_toArray, List.set_cons_zero, List.set_cons_succ]
              refine seqH_moveG rfl (by rfl) (fun K hK => ?_)
              go_simp
              refine (all_any x.c _).mono ?_
              rintro e w5 ⟨a5, cc5, rfl, hr, hb, hn⟩
              have hI5 := Lib.hid (HI.out.run.drew.quiet hb)
              have d1 := (hI5.out.below.cell (p := ⟨b, off + k * 5 + 1, none⟩) hbw).trans ((HI.out.run.below.cell (p := ⟨b, off + k * 5 + 1, none⟩) hbw).symm.trans c1)
              have d2 := (hI5.out.below.cell (p := ⟨b, off + k * 5 + 2, none⟩) hbw).trans ((HI.out.run.below.cell (p := ⟨b, off + k * 5 + 2, none⟩) hbw).symm.trans c2)
              have K5 := Lib.hid (Kept.new (S := S) hr hn HI.out.run.drew.disk.lt)
              refine hK _ _ ⟨d1, d2⟩ ?_
              clear hK K
              try simp only [Act.put, List.setIfInBounds_toArray, List.set_cons_zero, List.set_cons_succ]
              refine seqH_moveG rfl (by rfl) (fun K hK => ?_)
              go_simp
              refine (write_yes g xi D S a5 cc5 (sec x.c) _ hI5.out.disk (by rw [HI.out.size]; exact hxi) HI.out.can (by have := HI.out.few; omega) K5.out.at_ (fun p hp => (K5.out.off p hp).1)).mono ?_
              rintro e w6 ⟨rfl, S6, hd, ho, hs⟩
              have J0 := Lib.hid (Inv.put (HI.out.still (((Below.refl _ _).drew).trans hb)) hd ho hs)
              have e1 := (J0.out.run.below.cell (p := ⟨b, off + k * 5 + 1, none⟩) hbw).trans ((HI.out.run.below.cell (p := ⟨b, off + k * 5 + 1, none⟩) hbw).symm.trans c1)
              have e2 := (J0.out.run.below.cell (p := ⟨b, off + k * 5 + 2, none⟩) hbw).trans ((HI.out.run.below.cell (p := ⟨b, off + k * 5 + 2, none⟩) hbw).symm.trans c2)
              refine hK _ _ ⟨e1, e2⟩ ?_
              have hfew := HI.out.few
              clear hK K HI R5 c0 c1 c2 d1 d2 hr hb hn hI5 K5 hd ho hs
              try simp only [Act.put, List.setIfInBounds_toArray, List.set_cons_zero, List.set_cons_succ]
              iterate 10
                refine seqH_readG _ rfl (by rfl) (by rintro u ⟨hu1, hu2⟩; go_simp; with_reducible rfl) ?_
                try simp only [Act.put, List.setIfInBounds_toArray, List.set_cons_zero, List.set_cons_succ]
              refine seqH_nil ?_
              rw [if_neg HSM.out] at J0
              have J := Lib.hid (J0.out.still (Below.refl _ _))
              clear J0
              go_wp2_with fail
              refine (read_yes g at_ (D.put xi (sec x.c)) S6 _ J.out.run.disk (by rw [J.out.size]; exact J.out.lt) J.out.on).mono ?_
              rintro e w4 ⟨a4, c4, rfl, hr, hb, hn⟩
              have K4 := Lib.hid (J.out.still hb)
              rw [← J.out.want] at hr
              have v4 := hr.conv
              clear hr hb hn J
              go_wp2
              go_roundw
              case rel => exact ⟨k + 1, S6, D.put xi (sec x.c), want, by omega, by omega, by go_num, rfl, K4.out⟩
              case measure => simp [intOf]; omega
      · obtain rfl : k = 40 := by omega
        go_wp2_with fail
        refine (awake03 _).mono ?_
        rintro e w9 ⟨rfl, hb9⟩
        go_wp2
        go_ret
        exact ⟨rfl, HI.out.run.below.trans (hb9.mono HI.out.run.below.size)⟩
    · obtain rfl : k = n := by omega
      go_wp2_with fail
      refine (awake03 _).mono ?_
      rintro e w9 ⟨rfl, hb9⟩
      go_wp2
      go_ret
      exact ⟨rfl, HI.out.run.below.trans (hb9.mono HI.out.run.below.size)⟩

theorem own : ownKnob Try.prog.godebug = none := by kernel_rfl
theorem laidOut : laidOutB Try.prog = true := by kernel_rfl

set_option maxRecDepth 100000 in
theorem lifted (os : Os) (started : os.Started) (H : Type) (enc : TypeId × Value → H) :
    ReturnsInHanded {} Try.checked os 5 .any (Rows.diskReadsSpec.pre6 enc Try.prog Try.f5 Rows.diskReadsRow.domain false) (Rows.diskReadsSpec.post enc Try.prog Try.f5 false true false false) := by
  refine returnsInHanded_of_change (C := Try.checked) own started (by kernel_rfl) Try.func5
    (ChangeSpec.witness6 (enc := enc) (C := Try.checked) false ⟨#[], #[.slice none 0 0, .int .u8 0], []⟩ 8 (by kernel_rfl) (by kernel_rfl) (by kernel_rfl) (by kernel_rfl)) ?_
  intro W base args ds gs before hval0 hW hcnd _
  have hval : ∀ (j : Nat) t v, Try.f5.params[j]? = some t → args[j]? = some v → Value.okWide Try.prog W .any base t v := hval0
  have hW' := hW
  obtain ⟨p, q, hA0, hV, rfl, hfz, hnd⟩ := hW
  have hA : DataW.TrodAll enc Try.prog W 0 (fun _ => true) true Try.f5.params.toList args.toList ds p := hA0
  rw [Try.params5] at hA hval
  obtain ⟨v0, vs0, d0, ds0, p0, q0, hargs, rfl, rfl, h0, r0⟩ := trodAll_cons hA
  obtain ⟨v1, vs1, d1, ds1, p1, q1, rfl, rfl, rfl, h1, r1⟩ := trodAll_cons r0
  obtain ⟨rfl, rfl, rfl⟩ := trodAll_nil r1
  obtain rfl : args = #[v0, v1] := by cases args; simp_all
  obtain ⟨rfl, rfl⟩ := trodVars_none hV
  have k0 := h0
  have lt0 : ∀ x ∈ p0, x.block < W.heap.size := by obtain ⟨m, hm⟩ := k0; exact DataW.trod_lt m _ _ _ hm
  obtain ⟨a0, len0, cap0, l0, rfl, w0, g0⟩ := acts_of (hval 0 22 v0 rfl rfl) h0
  obtain ⟨a1, rfl, rfl, rfl, w1⟩ := open_int Try.underlying5 (hval 1 5 v1 rfl rfl) h1
  clear hA0 hval0
  refine (walk a0 len0 cap0 l0 a1 W w0 g0 w1).mono fun e W' ⟨he, bel⟩ => ?_
  subst he
  exact ⟨_, rfl, _, _, _, [], _, [], hW', trodAll_mk1 (shut_bool Try.underlying4 _), (trodAll_cons_mk (Below.trod laidOut (by kernel_rfl) (of_decide_eq_true (by kernel_rfl)) k0 bel lt0) (trodAll_cons_mk (shut_int Try.underlying5 w1) trodAll_mk0)), rfl, bel.frame _, fun h => by cases h⟩

theorem proved : Rows.DiskReadsSaid :=
  OpenClaim.holds_of_wide 5 Try.f5 rfl rfl rfl rfl rfl rfl rfl ⟨rfl, rfl, rfl, rfl, rfl⟩ rfl rfl rfl rfl rfl (by kernel_rfl) Try.func5 (by kernel_rfl)
    (of_decide_eq_true (by kernel_rfl)) (by unfold Func.isWrapper; first | (rw [if_pos (by decide +kernel)]; kernel_rfl) | (rw [if_neg (by decide +kernel)]; exact ⟨rfl, rfl⟩))
    (fun os started H enc _ => lifted os started H enc)
end Go.Proofs.Ytnohglcodloilaa.diskReads
