/-
  All, and awake of layer 3: the chapter's examples.
-/
import Derived.Test.YtinfgfgmijjhjaaDiskF
namespace Go.Proofs.Ytinfgfgmijjhjaa
open Go.RowKit
set_option linter.unusedVariables false
set_option linter.unusedSimpArgs false

/-- octets that a disk's steps leave alone -/
structure Kept (w : World) (S : Nat → Prop) (a : Option Addr) (n cap : Nat) (l : List UInt8) : Prop where
  at_ : BytesAt w a n cap l
  off : ∀ x, a = some x → ¬ S x.block ∧ x.block < w.heap.size

theorem Kept.step {w w' : World} {S S' : Nat → Prop} {a : Option Addr} {n cap : Nat} {l : List UInt8} (h : Kept w S a n cap l) (ho : Only S w w') (hS : ∀ k, S' k → S k ∨ w.heap.size ≤ k) : Kept w' S' a n cap l :=
  ⟨h.at_.only ho fun x hx => (h.off x hx).1, fun x hx => ⟨fun hs => by
    rcases hS _ hs with hs | hs
    · exact (h.off x hx).1 hs
    · have := (h.off x hx).2; omega, Nat.lt_of_lt_of_le (h.off x hx).2 ho.size⟩⟩
theorem Kept.below {w w' : World} {S : Nat → Prop} {a : Option Addr} {n cap : Nat} {l : List UInt8} (h : Kept w S a n cap l) (hb : Below w.heap.size w w') : Kept w' S a n cap l :=
  ⟨h.at_.below hb, fun x hx => ⟨(h.off x hx).1, Nat.lt_of_lt_of_le (h.off x hx).2 hb.size⟩⟩
theorem Kept.new {w w' : World} {S : Nat → Prop} {a : Option Addr} {n cap : Nat} {l : List UInt8} (h : BytesAt w' a n cap l) (hn : ∀ x, a = some x → w.heap.size ≤ x.block ∧ x.block < w'.heap.size) (hS : ∀ k, S k → k < w.heap.size) : Kept w' S a n cap l :=
  ⟨h, fun x hx => ⟨fun hs => by have := hS _ hs; have := (hn x hx).1; omega, (hn x hx).2⟩⟩

def sec (c : UInt8) : List UInt8 := List.replicate 128 c
theorem sec_length (c : UInt8) : (sec c).length = 128 := by simp [sec]

theorem sec_getD (c : UInt8) (k : Nat) (h : k < 128) : (sec c).getD k 0 = c := by
  unfold sec
  rw [List.getD, List.getElem?_replicate, if_pos h]; rfl

theorem infoU8' : (Try.prog.info? 5).map (fun i => (i.zero, i.size)) = some (some (.int .u8 0), 1) := by kernel_rfl

set_option maxHeartbeats 1000000 in
theorem all_any (c : UInt8) (w : World) : Calls Try.prog 26 #[.int .u8 c.toNat] w (ReadN id 128 (sec c) w) := by
  obtain ⟨i0, hi, hz0, hz1, hz2⟩ := info_parts infoU8
  have hmk : ∀ u, (Instr.makeSlice 24 (.int .i64 128) (.int .i64 128)).run Try.prog u = .ok (.slice (some ⟨u.heap.size, 0, none⟩) 128 128) (u.alloc (.cells (madeCells #[.int .u8 0] 128) 5)) := fun u => by
    have := run_make u 24 5 i0 _ Try.underlying24 hi hz0 .i64 .i64 128 128 (by omega) (by omega) (by rw [hz2]; omega) (by omega)
    rw [hz1] at this
    simpa [Value.cells] using this
  have hl : (madeCells #[.int .u8 0] 128).toList = vals ((sec c).take 0) ++ List.replicate (128 - 0) (.int .u8 0) := by
    rw [toList_madeCells_one]; rfl
  have HL := Lib.hid hl
  have HS := Lib.hid (size_madeCells #[.int .u8 0] 128)
  clear hl hi hz0 hz1 hz2
  generalize madeCells #[.int .u8 0] 128 = C at *
  go_enter Try.func26, Try.ntmps26
  go_wp2
  have hr0 : (w.alloc (.cells C 5)).ownsRow w.heap.size 5 1 (.slice (some ⟨w.heap.size, 0, none⟩) 128 128) 128 (vals ((sec c).take 0) ++ List.replicate (128 - 0) (.int .u8 0)) := by
    have := World.ownsRow_lit (base := w.heap.size) (e := 5) (size := 1) w C 128 (Nat.le_refl _) (by unfold maxLen; omega) (by rw [HS.out])
    rwa [HL.out] at this
  have HR0 := Lib.hid hr0
  clear hr0
  go_loopw [4] (fun i wr => ∃ k : Nat, k ≤ 128 ∧ i = .int .i64 k ∧ wr.ownsRow w.heap.size 5 1 (.slice (some ⟨w.heap.size, 0, none⟩) 128 128) 128 (vals ((sec c).take k) ++ List.replicate (128 - k) (.int .u8 0)) ∧ Below w.heap.size w wr) (fun i _ => 128 - (intOf i).toNat)
  case atStart => exact ⟨0, by omega, rfl, HR0.out, (Below.refl _ _).alloc (Nat.le_refl _) _⟩
  case round =>
    obtain ⟨k, hk, rfl, hr, hb⟩ := hrel
    have HR := Lib.hid hr
    have HB := Lib.hid hb
    clear hr hb
    by_cases hlt : k < 128
    · have hc : wr.cell? ⟨w.heap.size, k, none⟩ = some (.int .u8 0) := by
        rw [World.ownsRow.cellAt HR.out k (by omega), fill_at _ _ _ _ (sec_length c) hlt]
      have hf := World.ownsRow.frozenAt HR.out k
      have hki : (k : Int) < 128 := by omega
      go_wp2
      go_roundw
      case rel =>
        have hst := World.ownsRow.stored HR.out k (.int .u8 c.toNat)
        refine ⟨k + 1, by omega, by go_num, ?_, HB.out.setCell (Nat.le_refl _) _⟩
        have h1 := hst.1
        rwa [fill_set (sec c) k 128 _ _ (sec_length c) hlt (by rw [sec_getD c k hlt])] at h1
      case measure => simp [intOf]; omega
    · obtain rfl : k = 128 := by omega
      go_wp2
      go_ret
      have hr := HR.out
      rw [Nat.sub_self, List.replicate_zero, List.append_nil, List.take_of_length_le (by rw [sec_length]; omega)] at hr
      exact ⟨_, _, rfl, BytesAt.owned hr, HB.out, fun x hx => by cases hx; exact ⟨Nat.le_refl _, (hr.lt _ rfl).2⟩⟩


def boolsC : Array Value := #[.bool false, .bool true]
theorem bools_at (w : World) (fr : Nat × Nat) : BoolsAt (w.alloc (.cells boolsC 4 fr)) (some ⟨w.heap.size, 0, none⟩) 2 2 [false, true] := by
  refine ⟨rfl, Nat.le_refl _, by unfold maxLen; omega, by simp [boolC], .inr ⟨_, rfl, fun i j x hi hj => ?_⟩⟩
  obtain rfl : j = 0 := by omega
  rw [Addr.add_mid, cell_of_row _ _ _ _ _ _ (heap_alloc_new w _)]
  match i, hi with
  | 0, hi => simp at hi; subst hi; rfl
  | 1, hi => simp at hi; subst hi; rfl

/-- the chapter's disk, step by step -/
def aD : Nat → Dk
  | 0 => Dk.new 2
  | 1 => (Dk.new 2).put 1 (sec 7)
  | 2 => ((Dk.new 2).put 1 (sec 7)).flushed
  | 3 => (((Dk.new 2).put 1 (sec 7)).flushed).put 0 (sec 1)
  | 4 => ((((Dk.new 2).put 1 (sec 7)).flushed).put 0 (sec 1)).put 0 (sec 2)
  | 5 => (((((Dk.new 2).put 1 (sec 7)).flushed).put 0 (sec 1)).put 0 (sec 2)).cut [false, true]
  | 6 => ((((((Dk.new 2).put 1 (sec 7)).flushed).put 0 (sec 1)).put 0 (sec 2)).cut [false, true]).on
  | 7 => { ((((((Dk.new 2).put 1 (sec 7)).flushed).put 0 (sec 1)).put 0 (sec 2)).cut [false, true]).on with budget := 1 }
  | _ => ({ ((((((Dk.new 2).put 1 (sec 7)).flushed).put 0 (sec 1)).put 0 (sec 2)).cut [false, true]).on with budget := 1 } : Dk).put 0 (sec 3)

/-- a disk of the call's own, since the world w0 -/
structure Run (w0 w : World) (S : Nat → Prop) (g : Nat) (D : Dk) : Prop where
  disk : DiskAt w S g D
  below : Below w0.heap.size w0 w
  new : ∀ k, S k → w0.heap.size ≤ k
theorem Run.to {w0 w w' : World} {S S' : Nat → Prop} {g : Nat} {D D' : Dk} (h : Run w0 w S g D) (hd : DiskAt w' S' g D') (ho : Only S w w') (hs : ∀ k, S' k → S k ∨ w.heap.size ≤ k) : Run w0 w' S' g D' :=
  ⟨hd, h.below.trans (ho.below h.below.size fun i hi hS => by have := h.new i hS; omega), fun k hk => (hs k hk).elim (h.new k) fun hk => Nat.le_trans h.below.size hk⟩
theorem Run.quiet {w0 w w' : World} {S : Nat → Prop} {g : Nat} {D : Dk} (h : Run w0 w S g D) (hb : Below w.heap.size w w') : Run w0 w' S g D :=
  ⟨h.disk.below hb, h.below.trans (hb.mono h.below.size), h.new⟩
theorem Run.drew {w0 w : World} {S : Nat → Prop} {g : Nat} {D : Dk} (h : Run w0 w S g D) : Run w0 w.drew S g D := h.quiet ((Below.refl _ _).drew)


end Go.Proofs.Ytinfgfgmijjhjaa
