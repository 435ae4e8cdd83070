/-
  All, and awake of layer 3: the chapter's examples.
-/
import Derived.Test.YtnohglcodloilaaDiskF
namespace Go.Proofs.Ytnohglcodloilaa
open Go.RowKit
set_option linter.unusedVariables false
set_option linter.unusedSimpArgs false

/-- octets that a disk's steps leave alone -/
structure Kept (w : World) (S : Nat → Prop) (a : Option Addr) (n cap : Nat) (l : List UInt8) : Prop where
  at_ : BytesAt w a n cap l
  off : ∀ x, a = some x → ¬ S x.block ∧ x.block < w.heap.size

theorem Kept.step {w w' : World} {S S' : Nat → Prop} {a : Option Addr} {n cap : Nat} {l : List UInt8} (h : Kept w S a n cap l) (ho : Only S w w') (hS : ∀ k, S' k → S k ∨ w.heap.size ≤ k) : Kept w' S' a n cap l :=
  ⟨h.at_.only ho fun x hx => (h.off x hx).1, fun x hx => ⟨fun hs => by
    rcases hS _ hs with hs | hs
    · exact (h.off x hx).1 hs
    · have := (h.off x hx).2; omega, Nat.lt_of_lt_of_le (h.off x hx).2 ho.size⟩⟩
theorem Kept.below {w w' : World} {S : Nat → Prop} {a : Option Addr} {n cap : Nat} {l : List UInt8} (h : Kept w S a n cap l) (hb : Below w.heap.size w w') : Kept w' S a n cap l :=
  ⟨h.at_.below hb, fun x hx => ⟨(h.off x hx).1, Nat.lt_of_lt_of_le (h.off x hx).2 hb.size⟩⟩
theorem Kept.new {w w' : World} {S : Nat → Prop} {a : Option Addr} {n cap : Nat} {l : List UInt8} (h : BytesAt w' a n cap l) (hn : ∀ x, a = some x → w.heap.size ≤ x.block ∧ x.block < w'.heap.size) (hS : ∀ k, S k → k < w.heap.size) : Kept w' S a n cap l :=
  ⟨h, fun x hx => ⟨fun hs => by have := hS _ hs; have := (hn x hx).1; omega, (hn x hx).2⟩⟩

def sec (c : UInt8) : List UInt8 := List.replicate 128 c
theorem sec_length (c : UInt8) : (sec c).length = 128 := by simp [sec]

theorem sec_getD (c : UInt8) (k : Nat) (h : k < 128) : (sec c).getD k 0 = c := by
  unfold sec
  rw [List.getD, List.getElem?_replicate, if_pos h]; rfl

theorem infoU8' : (Try.prog.info? 5).map (fun i => (i.zero, i.size)) = some (some (.int .u8 0), 1) := by kernel_rfl

set_option maxHeartbeats 1000000 in
theorem all_any (c : UInt8) (w : World) : Calls Try.prog 14 #[.int .u8 c.toNat] w (ReadN id 128 (sec c) w) := by
  obtain ⟨i0, hi, hz0, hz1, hz2⟩ := info_parts infoU8
  have hmk : ∀ u, (Instr.makeSlice 34 (.int .i64 128) (.int .i64 128)).run Try.prog u = .ok (.slice (some ⟨u.heap.size, 0, none⟩) 128 128) (u.alloc (.cells (madeCells #[.int .u8 0] 128) 5)) := fun u => by
    have := run_make u 34 5 i0 _ Try.underlying34 hi hz0 .i64 .i64 128 128 (by omega) (by omega) (by rw [hz2]; omega) (by omega)
    rw [hz1] at this
    simpa [Value.cells] using this
  have hl : (madeCells #[.int .u8 0] 128).toList = vals ((sec c).take 0) ++ List.replicate (128 - 0) (.int .u8 0) := by
    rw [toList_madeCells_one]; rfl
  have HL := Lib.hid hl
  have HS := Lib.hid (size_madeCells #[.int .u8 0] 128)
  clear hl hi hz0 hz1 hz2
  generalize madeCells #[.int .u8 0] 128 = C at *
  go_enter Try.func14, Try.ntmps14
  go_wp2
  have hr0 : (w.alloc (.cells C 5)).ownsRow w.heap.size 5 1 (.slice (some ⟨w.heap.size, 0, none⟩) 128 128) 128 (vals ((sec c).take 0) ++ List.replicate (128 - 0) (.int .u8 0)) := by
    have := World.ownsRow_lit (base := w.heap.size) (e := 5) (size := 1) w C 128 (Nat.le_refl _) (by unfold maxLen; omega) (by rw [HS.out])
    rwa [HL.out] at this
  have HR0 := Lib.hid hr0
  clear hr0
  go_loopw [4] (fun i wr => ∃ k : Nat, k ≤ 128 ∧ i = .int .i64 k ∧ wr.ownsRow w.heap.size 5 1 (.slice (some ⟨w.heap.size, 0, none⟩) 128 128) 128 (vals ((sec c).take k) ++ List.replicate (128 - k) (.int .u8 0)) ∧ Below w.heap.size w wr) (fun i _ => 128 - (intOf i).toNat)
  case atStart => exact ⟨0, by omega, rfl, HR0.out, (Below.refl _ _).alloc (Nat.le_refl _) _⟩
  case round =>
    obtain ⟨k, hk, rfl, hr, hb⟩ := hrel
    have HR := Lib.hid hr
    have HB := Lib.hid hb
    clear hr hb
    by_cases hlt : k < 128
    · have hc : wr.cell? ⟨w.heap.size, k, none⟩ = some (.int .u8 0) := by
        rw [World.ownsRow.cellAt HR.out k (by omega), fill_at _ _ _ _ (sec_length c) hlt]
      have hf := World.ownsRow.frozenAt HR.out k
      have hki : (k : Int) < 128 := by omega
      go_wp2
      go_roundw
      case rel =>
        have hst := World.ownsRow.stored HR.out k (.int .u8 c.toNat)
        refine ⟨k + 1, by omega, by go_num, ?_, HB.out.setCell (Nat.le_refl _) _⟩
        have h1 := hst.1
        rwa [fill_set (sec c) k 128 _ _ (sec_length c) hlt (by rw [sec_getD c k hlt])] at h1
      case measure => simp [intOf]; omega
    · obtain rfl : k = 128 := by omega
      go_wp2
      go_ret
      have hr := HR.out
      rw [Nat.sub_self, List.replicate_zero, List.append_nil, List.take_of_length_le (by rw [sec_length]; omega)] at hr
      exact ⟨_, _, rfl, BytesAt.owned hr, HB.out, fun x hx => by cases hx; exact ⟨Nat.le_refl _, (hr.lt _ rfl).2⟩⟩


def boolsC : Array Value := #[.bool false, .bool true]
theorem bools_at (w : World) (fr : Nat × Nat) : BoolsAt (w.alloc (.cells boolsC 4 fr)) (some ⟨w.heap.size, 0, none⟩) 2 2 [false, true] := by
  refine ⟨rfl, Nat.le_refl _, by unfold maxLen; omega, by simp [boolC], .inr ⟨_, rfl, fun i j x hi hj => ?_⟩⟩
  obtain rfl : j = 0 := by omega
  rw [Addr.add_mid, cell_of_row _ _ _ _ _ _ (heap_alloc_new w _)]
  match i, hi with
  | 0, hi => simp at hi; subst hi; rfl
  | 1, hi => simp at hi; subst hi; rfl

/-- the chapter's disk, step by step -/
def aD : Nat → Dk
  | 0 => Dk.new 2
  | 1 => (Dk.new 2).put 1 (sec 7)
  | 2 => ((Dk.new 2).put 1 (sec 7)).flushed
  | 3 => (((Dk.new 2).put 1 (sec 7)).flushed).put 0 (sec 1)
  | 4 => ((((Dk.new 2).put 1 (sec 7)).flushed).put 0 (sec 1)).put 0 (sec 2)
  | 5 => (((((Dk.new 2).put 1 (sec 7)).flushed).put 0 (sec 1)).put 0 (sec 2)).cut [false, true]
  | 6 => ((((((Dk.new 2).put 1 (sec 7)).flushed).put 0 (sec 1)).put 0 (sec 2)).cut [false, true]).on
  | 7 => { ((((((Dk.new 2).put 1 (sec 7)).flushed).put 0 (sec 1)).put 0 (sec 2)).cut [false, true]).on with budget := 1 }
  | _ => ({ ((((((Dk.new 2).put 1 (sec 7)).flushed).put 0 (sec 1)).put 0 (sec 2)).cut [false, true]).on with budget := 1 } : Dk).put 0 (sec 3)

/-- a disk of the call's own, since the world w0 -/
structure Run (w0 w : World) (S : Nat → Prop) (g : Nat) (D : Dk) : Prop where
  disk : DiskAt w S g D
  below : Below w0.heap.size w0 w
  new : ∀ k, S k → w0.heap.size ≤ k
theorem Run.to {w0 w w' : World} {S S' : Nat → Prop} {g : Nat} {D D' : Dk} (h : Run w0 w S g D) (hd : DiskAt w' S' g D') (ho : Only S w w') (hs : ∀ k, S' k → S k ∨ w.heap.size ≤ k) : Run w0 w' S' g D' :=
  ⟨hd, h.below.trans (ho.below h.below.size fun i hi hS => by have := h.new i hS; omega), fun k hk => (hs k hk).elim (h.new k) fun hk => Nat.le_trans h.below.size hk⟩
theorem Run.quiet {w0 w w' : World} {S : Nat → Prop} {g : Nat} {D : Dk} (h : Run w0 w S g D) (hb : Below w.heap.size w w') : Run w0 w' S g D :=
  ⟨h.disk.below hb, h.below.trans (hb.mono h.below.size), h.new⟩
theorem Run.drew {w0 w : World} {S : Nat → Prop} {g : Nat} {D : Dk} (h : Run w0 w S g D) : Run w0 w.drew S g D := h.quiet ((Below.refl _ _).drew)

set_option maxHeartbeats 2000000 in
set_option maxRecDepth 100000 in
theorem awake03 (w : World) : Calls Try.prog 8 #[] w fun e w' => e = .returned (.bool true) ∧ Below w.heap.size w w' := by
  go_enter Try.func8, Try.ntmps8
  go_wp2_with fail
  refine (new_yes 2 _ (by omega) (by omega)).mono ?_
  rintro e w1 ⟨g, S1, rfl, hd1, hb1, hn1⟩
  have R1 := Lib.hid (Run.mk hd1 hb1 hn1)
  clear hd1 hb1 hn1
  go_wp2_with fail
  refine (all_any 7 _).mono ?_
  rintro e w2 ⟨a2, c2, rfl, hr, hb, hn⟩
  have K2 := Lib.hid (Kept.new (S := S1) hr hn R1.out.disk.lt)
  have R2 := Lib.hid (R1.out.quiet hb)
  clear hr hb hn R1
  go_wp2_with fail
  refine (write_yes g 1 (aD 0) S1 a2 c2 (sec 7) _ R2.out.disk (by decide) (by decide) (by decide) K2.out.at_ (fun p hp => (K2.out.off p hp).1)).mono ?_
  rintro e w3 ⟨rfl, S3, hd, ho, hs⟩
  have R3 := Lib.hid (R2.out.to hd ho hs)
  clear hd ho hs R2 K2
  -- Read
  go_wp2_with fail
  refine (read_yes g 1 (aD 1) S3 _ R3.out.disk (by decide) (by decide)).mono ?_
  rintro e w4 ⟨a4, c4, rfl, hr, hb, hn⟩
  have A4 := Lib.hid (show Kept w4 S3 a4 128 c4 (sec 7) from Kept.new hr hn R3.out.disk.lt)
  have R4 := Lib.hid (R3.out.quiet hb)
  clear hr hb hn R3
  -- Has
  go_wp2_with fail
  refine (has_yes g 1 (aD 1) S3 _ R4.out.disk (by decide)).mono ?_
  rintro e w5 ⟨a5, c5, rfl, hr, hb, hn⟩
  have A5 := Lib.hid (show Kept w5 S3 a5 128 c5 (sec 0) from Kept.new hr hn R4.out.disk.lt)
  have A4' := Lib.hid (A4.out.below hb)
  have R5 := Lib.hid (R4.out.quiet hb)
  clear hr hb hn R4 A4
  -- Flush
  go_wp2_with fail
  refine (flush_yes g (aD 1) S3 _ R5.out.disk (by decide)).mono ?_
  rintro e w6 ⟨rfl, S6, hd, ho, hs⟩
  have R6 := Lib.hid (R5.out.to (D' := aD 2) hd ho hs)
  have B4 := Lib.hid (A4'.out.step ho hs)
  have B5 := Lib.hid (A5.out.step ho hs)
  clear hd ho hs R5 A4' A5
  -- Has
  go_wp2_with fail
  refine (has_yes g 1 (aD 2) S6 _ R6.out.disk (by decide)).mono ?_
  rintro e w7 ⟨a7, c7, rfl, hr, hb, hn⟩
  have C7 := Lib.hid (show Kept w7 S6 a7 128 c7 (sec 7) from Kept.new hr hn R6.out.disk.lt)
  have C4 := Lib.hid (B4.out.below hb)
  have C5 := Lib.hid (B5.out.below hb)
  have R7 := Lib.hid (R6.out.quiet hb)
  clear hr hb hn R6 B4 B5
  -- Write(0, All(1))
  go_wp2_with fail
  refine (all_any 1 _).mono ?_
  rintro e w8 ⟨a8, c8, rfl, hr, hb, hn⟩
  have K8 := Lib.hid (Kept.new (S := S6) hr hn R7.out.disk.lt)
  have D4 := Lib.hid (C4.out.below hb)
  have D5 := Lib.hid (C5.out.below hb)
  have D7 := Lib.hid (C7.out.below hb)
  have R8 := Lib.hid (R7.out.quiet hb)
  clear hr hb hn R7 C4 C5 C7
  go_wp2_with fail
  refine (write_yes g 0 (aD 2) S6 a8 c8 (sec 1) _ R8.out.disk (by decide) (by decide) (by decide) K8.out.at_ (fun p hp => (K8.out.off p hp).1)).mono ?_
  rintro e w9 ⟨rfl, S9, hd, ho, hs⟩
  have R9 := Lib.hid (R8.out.to (D' := aD 3) hd ho hs)
  have E4 := Lib.hid (D4.out.step ho hs)
  have E5 := Lib.hid (D5.out.step ho hs)
  have E7 := Lib.hid (D7.out.step ho hs)
  clear hd ho hs R8 K8 D4 D5 D7
  -- Write(0, All(2))
  go_wp2_with fail
  refine (all_any 2 _).mono ?_
  rintro e w10 ⟨a10, c10, rfl, hr, hb, hn⟩
  have K10 := Lib.hid (Kept.new (S := S9) hr hn R9.out.disk.lt)
  have F4 := Lib.hid (E4.out.below hb)
  have F5 := Lib.hid (E5.out.below hb)
  have F7 := Lib.hid (E7.out.below hb)
  have R10 := Lib.hid (R9.out.quiet hb)
  clear hr hb hn R9 E4 E5 E7
  go_wp2_with fail
  refine (write_yes g 0 (aD 3) S9 a10 c10 (sec 2) _ R10.out.disk (by decide) (by decide) (by decide) K10.out.at_ (fun p hp => (K10.out.off p hp).1)).mono ?_
  rintro e w11 ⟨rfl, S11, hd, ho, hs⟩
  have R11 := Lib.hid (R10.out.to (D' := aD 4) hd ho hs)
  have G4 := Lib.hid (F4.out.step ho hs)
  have G5 := Lib.hid (F5.out.step ho hs)
  have G7 := Lib.hid (F7.out.step ho hs)
  clear hd ho hs R10 K10 F4 F5 F7
  -- Cut
  have hba : Below w11.heap.size w11 (w11.alloc (.cells boolsC 4)) := (Below.refl _ _).alloc (Nat.le_refl _) _
  have R11' := Lib.hid (R11.out.quiet hba)
  have H4 := Lib.hid (G4.out.below hba)
  have H5 := Lib.hid (G5.out.below hba)
  have H7 := Lib.hid (G7.out.below hba)
  have HBO := Lib.hid (bools_at w11 (0, 0))
  have HLT := Lib.hid R11.out.disk.lt
  clear hba R11 G4 G5 G7
  go_wp2_with fail
  refine (cut_any g (aD 4) S11 _ 2 2 [false, true] (w11.alloc (.cells boolsC 4)) R11'.out.disk HBO.out (fun p hp _ hs => by cases hp; have := HLT.out _ hs; simp at this)).mono ?_
  rintro e w12 ⟨rfl, S12, hd, ho, hs⟩
  have R12 := Lib.hid (R11'.out.to (D' := aD 5) hd ho hs)
  have I4 := Lib.hid (H4.out.step ho hs)
  have I5 := Lib.hid (H5.out.step ho hs)
  have I7 := Lib.hid (H7.out.step ho hs)
  clear hd ho hs R11' H4 H5 H7 HBO HLT
  -- Has(0)
  go_wp2_with fail
  refine (has_yes g 0 (aD 5) S12 _ R12.out.disk (by decide)).mono ?_
  rintro e w13 ⟨a13, c13, rfl, hr, hb, hn⟩
  have J13 := Lib.hid (show Kept w13 S12 a13 128 c13 (sec 2) from Kept.new hr hn R12.out.disk.lt)
  have J4 := Lib.hid (I4.out.below hb)
  have J5 := Lib.hid (I5.out.below hb)
  have J7 := Lib.hid (I7.out.below hb)
  have R13 := Lib.hid (R12.out.quiet hb)
  clear hr hb hn R12 I4 I5 I7
  -- On
  go_wp2_with fail
  refine (on_any g (aD 5) S12 _ R13.out.disk).mono ?_
  rintro e w14 ⟨rfl, S14, hd, ho, hs⟩
  have R14 := Lib.hid (R13.out.to (D' := aD 6) hd ho hs)
  have L4 := Lib.hid (J4.out.step ho hs)
  have L5 := Lib.hid (J5.out.step ho hs)
  have L7 := Lib.hid (J7.out.step ho hs)
  have L13 := Lib.hid (J13.out.step ho hs)
  clear hd ho hs R13 J4 J5 J7 J13
  -- Budget(1)
  go_wp2_with fail
  refine (budget_yes g 1 (aD 6) S14 _ R14.out.disk (by omega) (by omega)).mono ?_
  rintro e w15 ⟨rfl, S15, hd, ho, hs⟩
  have R15 := Lib.hid (R14.out.to (D' := aD 7) hd ho hs)
  have M4 := Lib.hid (L4.out.step ho hs)
  have M5 := Lib.hid (L5.out.step ho hs)
  have M7 := Lib.hid (L7.out.step ho hs)
  have M13 := Lib.hid (L13.out.step ho hs)
  clear hd ho hs R14 L4 L5 L7 L13
  -- Write(0, All(3))
  go_wp2_with fail
  refine (all_any 3 _).mono ?_
  rintro e w16 ⟨a16, c16, rfl, hr, hb, hn⟩
  have K16 := Lib.hid (Kept.new (S := S15) hr hn R15.out.disk.lt)
  have N4 := Lib.hid (M4.out.below hb)
  have N5 := Lib.hid (M5.out.below hb)
  have N7 := Lib.hid (M7.out.below hb)
  have N13 := Lib.hid (M13.out.below hb)
  have R16 := Lib.hid (R15.out.quiet hb)
  clear hr hb hn R15 M4 M5 M7 M13
  go_wp2_with fail
  refine (write_yes g 0 (aD 7) S15 a16 c16 (sec 3) _ R16.out.disk (by decide) (by decide) (by decide) K16.out.at_ (fun p hp => (K16.out.off p hp).1)).mono ?_
  rintro e w17 ⟨rfl, S17, hd, ho, hs⟩
  have R17 := Lib.hid (R16.out.to (D' := aD 8) hd ho hs)
  have O4 := Lib.hid (N4.out.step ho hs)
  have O5 := Lib.hid (N5.out.step ho hs)
  have O7 := Lib.hid (N7.out.step ho hs)
  have O13 := Lib.hid (N13.out.step ho hs)
  clear hd ho hs R16 K16 N4 N5 N7 N13
  -- Write(0, All(4)): the power goes off
  go_wp2_with fail
  refine (all_any 4 _).mono ?_
  rintro e w18 ⟨a18, c18, rfl, hr, hb, hn⟩
  have P4 := Lib.hid (O4.out.below hb)
  have P5 := Lib.hid (O5.out.below hb)
  have P7 := Lib.hid (O7.out.below hb)
  have P13 := Lib.hid (O13.out.below hb)
  have R18 := Lib.hid (R17.out.quiet hb)
  clear hr hb hn R17 O4 O5 O7 O13
  go_wp2_with fail
  refine (write_off g 0 (aD 8) S17 a18 c18 _ R18.out.disk (by decide) (by decide)).mono ?_
  rintro e w19 ⟨rfl, S19, hd, ho, hs⟩
  have R19 := Lib.hid (R18.out.to (D' := (aD 8).off) hd ho hs)
  have Q4 := Lib.hid (P4.out.step ho hs)
  have Q5 := Lib.hid (P5.out.step ho hs)
  have Q7 := Lib.hid (P7.out.step ho hs)
  have Q13 := Lib.hid (P13.out.step ho hs)
  clear hd ho hs R18 P4 P5 P7 P13
  go_wp2_with fail
  have R19d := Lib.hid R19.out.drew
  have HS19d := Lib.hid (show BytesAt w19.drew a4 128 c4 (sec 7) ∧ BytesAt w19.drew a5 128 c5 (sec 0) ∧ BytesAt w19.drew a7 128 c7 (sec 7) ∧ BytesAt w19.drew a13 128 c13 (sec 2) from ⟨Q4.out.at_, Q5.out.at_, Q7.out.at_, Q13.out.at_⟩)
  clear Q4 Q5 Q7 Q13 R19
  refine region_head 71 [0, 1, 2, 3, 4, 5, 6, 7, 8, 9, 10, 11, 12, 13, 14, 15, 16, 17, 18, 19, 20, 21, 22, 23, 24, 25, 26, 27, 28, 29, 30, 31, 32, 33, 34, 35, 36, 37, 38, 39, 40, 41, 42, 43, 44, 45, 46, 47, 48, 49, 50, 51, 52, 53, 54, 55, 56, 57, 58, 59, 60, 61, 62, 63, 64, 65, 66, 67, 68, 69, 70] [5, 6, 16, 17, 31, 32, 42, 43, 64] (fun u => BytesAt u a4 128 c4 (sec 7) ∧ BytesAt u a5 128 c5 (sec 0) ∧ BytesAt u a7 128 c7 (sec 7) ∧ BytesAt u a13 128 c13 (sec 2)) (by kernel_rfl) (by kernel_rfl) HS19d.out ?_
  simp only [pickO, List.append_eq, List.cons_append, List.nil_append, List.filterMap_cons, List.filterMap_nil, List.getElem?_cons_zero, List.getElem?_cons_succ, Option.map_some, List.drop_succ_cons, List.drop_zero]
  iterate 5
    refine seqH_readG _ rfl (by rfl) (by rintro u ⟨h4, h5, h7, h13⟩; have v4 := h4.conv; have v5 := h5.conv; have v7 := h7.conv; have v13 := h13.conv; clear h4 h5 h7 h13; go_simp; with_reducible rfl) ?_
    try simp only [Act.put, List.setIfInBounds_toArray, List.set_cons_zero, List.set_cons_succ]
  -- All(7)
  refine seqH_moveG rfl (by rfl) (fun K hK => ?_)
  go_simp
  refine (all_any 7 _).mono ?_
  rintro e w20 ⟨a20, c20, rfl, hr, hb, hn⟩
  have HS20 := Lib.hid (show BytesAt w20 a4 128 c4 (sec 7) ∧ BytesAt w20 a5 128 c5 (sec 0) ∧ BytesAt w20 a7 128 c7 (sec 7) ∧ BytesAt w20 a13 128 c13 (sec 2) from ⟨HS19d.out.1.below hb, HS19d.out.2.1.below hb, HS19d.out.2.2.1.below hb, HS19d.out.2.2.2.below hb⟩)
  have R20 := Lib.hid (R19d.out.quiet hb)
  have v20 := hr.conv
  refine hK _ _ HS20.out ?_
  clear hK K hr hb hn HS19d R19d
  try simp only [Act.put, List.setIfInBounds_toArray, List.set_cons_zero, List.set_cons_succ]
  refine seqH_moveG rfl (by rfl) (fun K hK => ?_)
  go_simp
  refine hK _ _ HS20.out ?_
  clear hK K v20
  try simp only [Act.put, List.setIfInBounds_toArray, List.set_cons_zero, List.set_cons_succ]
  iterate 9
    refine seqH_readG _ rfl (by rfl) (by rintro u ⟨h4, h5, h7, h13⟩; have v4 := h4.conv; have v5 := h5.conv; have v7 := h7.conv; have v13 := h13.conv; clear h4 h5 h7 h13; go_simp; with_reducible rfl) ?_
    try simp only [Act.put, List.setIfInBounds_toArray, List.set_cons_zero, List.set_cons_succ]
  -- All(0)
  refine seqH_moveG rfl (by rfl) (fun K hK => ?_)
  go_simp
  refine (all_any 0 _).mono ?_
  rintro e w21 ⟨a21, c21, rfl, hr, hb, hn⟩
  have HS21 := Lib.hid (show BytesAt w21 a4 128 c4 (sec 7) ∧ BytesAt w21 a5 128 c5 (sec 0) ∧ BytesAt w21 a7 128 c7 (sec 7) ∧ BytesAt w21 a13 128 c13 (sec 2) from ⟨HS20.out.1.below hb, HS20.out.2.1.below hb, HS20.out.2.2.1.below hb, HS20.out.2.2.2.below hb⟩)
  have R21 := Lib.hid (R20.out.quiet hb)
  have v21 := hr.conv
  refine hK _ _ HS21.out ?_
  clear hK K hr hb hn HS20 R20
  try simp only [Act.put, List.setIfInBounds_toArray, List.set_cons_zero, List.set_cons_succ]
  refine seqH_moveG rfl (by rfl) (fun K hK => ?_)
  go_simp
  refine hK _ _ HS21.out ?_
  clear hK K v21
  try simp only [Act.put, List.setIfInBounds_toArray, List.set_cons_zero, List.set_cons_succ]
  iterate 13
    refine seqH_readG _ rfl (by rfl) (by rintro u ⟨h4, h5, h7, h13⟩; have v4 := h4.conv; have v5 := h5.conv; have v7 := h7.conv; have v13 := h13.conv; clear h4 h5 h7 h13; go_simp; with_reducible rfl) ?_
    try simp only [Act.put, List.setIfInBounds_toArray, List.set_cons_zero, List.set_cons_succ]
  -- All(7)
  refine seqH_moveG rfl (by rfl) (fun K hK => ?_)
  go_simp
  refine (all_any 7 _).mono ?_
  rintro e w22 ⟨a22, c22, rfl, hr, hb, hn⟩
  have HS22 := Lib.hid (show BytesAt w22 a4 128 c4 (sec 7) ∧ BytesAt w22 a5 128 c5 (sec 0) ∧ BytesAt w22 a7 128 c7 (sec 7) ∧ BytesAt w22 a13 128 c13 (sec 2) from ⟨HS21.out.1.below hb, HS21.out.2.1.below hb, HS21.out.2.2.1.below hb, HS21.out.2.2.2.below hb⟩)
  have R22 := Lib.hid (R21.out.quiet hb)
  have v22 := hr.conv
  refine hK _ _ HS22.out ?_
  clear hK K hr hb hn HS21 R21
  try simp only [Act.put, List.setIfInBounds_toArray, List.set_cons_zero, List.set_cons_succ]
  refine seqH_moveG rfl (by rfl) (fun K hK => ?_)
  go_simp
  refine hK _ _ HS22.out ?_
  clear hK K v22
  try simp only [Act.put, List.setIfInBounds_toArray, List.set_cons_zero, List.set_cons_succ]
  iterate 9
    refine seqH_readG _ rfl (by rfl) (by rintro u ⟨h4, h5, h7, h13⟩; have v4 := h4.conv; have v5 := h5.conv; have v7 := h7.conv; have v13 := h13.conv; clear h4 h5 h7 h13; go_simp; with_reducible rfl) ?_
    try simp only [Act.put, List.setIfInBounds_toArray, List.set_cons_zero, List.set_cons_succ]
  -- All(2)
  refine seqH_moveG rfl (by rfl) (fun K hK => ?_)
  go_simp
  refine (all_any 2 _).mono ?_
  rintro e w23 ⟨a23, c23, rfl, hr, hb, hn⟩
  have HS23 := Lib.hid (show BytesAt w23 a4 128 c4 (sec 7) ∧ BytesAt w23 a5 128 c5 (sec 0) ∧ BytesAt w23 a7 128 c7 (sec 7) ∧ BytesAt w23 a13 128 c13 (sec 2) from ⟨HS22.out.1.below hb, HS22.out.2.1.below hb, HS22.out.2.2.1.below hb, HS22.out.2.2.2.below hb⟩)
  have R23 := Lib.hid (R22.out.quiet hb)
  have v23 := hr.conv
  refine hK _ _ HS23.out ?_
  clear hK K hr hb hn HS22 R22
  try simp only [Act.put, List.setIfInBounds_toArray, List.set_cons_zero, List.set_cons_succ]
  refine seqH_moveG rfl (by rfl) (fun K hK => ?_)
  go_simp
  refine hK _ _ HS23.out ?_
  clear hK K v23
  try simp only [Act.put, List.setIfInBounds_toArray, List.set_cons_zero, List.set_cons_succ]
  iterate 20
    refine seqH_readG _ rfl (by rfl) (by rintro u ⟨h4, h5, h7, h13⟩; have v4 := h4.conv; have v5 := h5.conv; have v7 := h7.conv; have v13 := h13.conv; clear h4 h5 h7 h13; go_simp; with_reducible rfl) ?_
    try simp only [Act.put, List.setIfInBounds_toArray, List.set_cons_zero, List.set_cons_succ]
  refine seqH_moveG rfl (by rfl) (fun K hK => ?_)
  go_simp
  refine (power_any g (aD 8).off S19 _ R23.out.disk).mono ?_
  rintro e w24 ⟨rfl, rfl⟩
  refine hK _ _ HS23.out ?_
  clear hK K
  try simp only [Act.put, List.setIfInBounds_toArray, List.set_cons_zero, List.set_cons_succ]
  iterate 6
    refine seqH_readG _ rfl (by rfl) (by rintro u ⟨h4, h5, h7, h13⟩; have v4 := h4.conv; have v5 := h5.conv; have v7 := h7.conv; have v13 := h13.conv; clear h4 h5 h7 h13; go_simp; with_reducible rfl) ?_
    try simp only [Act.put, List.setIfInBounds_toArray, List.set_cons_zero, List.set_cons_succ]
  refine seqH_nil ?_
  go_wp2
  go_ret
  exact ⟨rfl, R23.out.below⟩

end Go.Proofs.Ytnohglcodloilaa
