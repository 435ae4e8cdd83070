/-
  A disk and the document's one beside it; each call's answer in one form.
-/
import Derived.Test.YtinfgfgmijjhjaaRefCut
import Derived.Test.YtinfgfgmijjhjaaRefNew
import Derived.Test.YtinfgfgmijjhjaaCame
import Derived.Test.YtinfgfgmijjhjaaAwake03
import Derived.Deep.WholeRow
namespace Go.Proofs.Ytinfgfgmijjhjaa
open Go.RowKit
set_option linter.unusedVariables false
set_option linter.unusedSimpArgs false


/-- what waits and what there is -/
def Fit (n k : Nat) (D : Dk) : Prop := D.secs.length = n ∧ D.waits.length ≤ k
theorem Fit.le {n k k' : Nat} {D : Dk} (h : Fit n k D) (hk : k ≤ k') : Fit n k' D := ⟨h.1, Nat.le_trans h.2 hk⟩
theorem Fit.off {n k : Nat} {D : Dk} (h : Fit n k D) : Fit n k D.off := h
theorem Fit.put {n k : Nat} {D : Dk} (h : Fit n k D) (i : Nat) (s : List UInt8) : Fit n (k + 1) (D.put i s) := ⟨h.1, by have := h.2; show (D.waits ++ [(i, s)]).length ≤ k + 1; simp; omega⟩
theorem Fit.settle {n k : Nat} {D : Dk} (h : Fit n k D) (K : Nat → Bool) : Fit n k (D.settle K) := ⟨(Dk.laid_length K D.waits D.secs).trans h.1, Nat.zero_le _⟩

def wrOf (D : Dk) (i : Int) (m : Nat) (l : List UInt8) : Int × Dk :=
  if i < 0 ∨ (D.secs.length : Int) ≤ i then (4, D) else if m ≠ 128 then (1, D) else if D.can = true then (0, D.put i.toNat l) else (10, D.off)
theorem Fit.wr {n k : Nat} {D : Dk} (h : Fit n k D) (i : Int) (m : Nat) (l : List UInt8) : Fit n (k + 1) (wrOf D i m l).2 := by
  unfold wrOf
  split
  · exact h.le (by omega)
  · split
    · exact h.le (by omega)
    · split
      · exact h.put _ _
      · exact h.off.le (by omega)
def flOf (D : Dk) : Int × Dk := if D.can = true then (0, D.flushed) else (10, D.off)
theorem Fit.fl {n k : Nat} {D : Dk} (h : Fit n k D) : Fit n k (flOf D).2 := by
  unfold flOf
  split
  · exact Fit.settle (D := D.paid) h _
  · exact h.off
def rdOf (D : Dk) (i : Int) : Int × List UInt8 :=
  if i < 0 ∨ (D.secs.length : Int) ≤ i then (4, []) else if D.power = true then (0, D.content i.toNat) else (10, [])

theorem diskTo_same {w : World} {S : Nat → Prop} {g : Nat} {D : Dk} (v : Value) (h : DiskAt w S g D) : DiskTo v S g D w (.returned v) w := ⟨rfl, S, h, Only.refl _ _, fun k hk => .inl hk⟩
theorem refTo_same {w : World} {S : Nat → Prop} {g : Nat} {D : Dk} (v : Value) (h : RefAt w S g D) : RefTo v S g D w (.returned v) w := ⟨rfl, S, h, Only.refl _ _, fun k hk => .inl hk⟩

theorem write_all (g : Nat) (i : Int) (D : Dk) (S : Nat → Prop) (a : Option Addr) (m cap : Nat) (l : List UInt8) (w : World) (h : DiskAt w S g D) (hl : BytesAt w a m cap l) (hf : D.waits.length < 1073741824) (hS : ∀ p, a = some p → ¬ S p.block) :
    Calls Try.prog 25 #[.pointer (some ⟨g, 0, none⟩), .int .i64 i, .slice a m cap] w (DiskTo (.int .i64 (wrOf D i m l).1) S g (wrOf D i m l).2 w) := by
  unfold wrOf
  by_cases hr : i < 0 ∨ (D.secs.length : Int) ≤ i
  · rw [if_pos hr]
    exact (write_range g i D S _ w h hr).mono fun e w' ⟨he, hw⟩ => by subst he; subst hw; exact diskTo_same _ h
  · rw [if_neg hr]
    obtain ⟨j, rfl⟩ := Int.eq_ofNat_of_zero_le (show 0 ≤ i by omega)
    by_cases hm : m ≠ 128
    · rw [if_pos hm]
      exact (write_arg g j D S a m cap w h (by omega) hm).mono fun e w' ⟨he, hw⟩ => by subst he; subst hw; exact diskTo_same _ h
    · rw [if_neg hm]
      obtain rfl : m = 128 := by omega
      by_cases hc : D.can = true
      · rw [if_pos hc]
        exact write_yes g j D S a cap l w h (by omega) hc hf hl hS
      · rw [if_neg hc]
        exact write_off g j D S a cap w h (by omega) (by simpa using hc)

theorem rwrite_all (g : Nat) (i : Int) (D : Dk) (S : Nat → Prop) (m : Nat) (l : List UInt8) (w : World) (h : RefAt w S g D) (hl : l.length = m) (hm : m ≤ 128) (hf : D.waits.length < 1073741824) :
    Calls Try.prog 27 #[.pointer (some ⟨g, 0, none⟩), .int .i64 i, .string ⟨l.toArray⟩] w (RefTo (.int .i64 (wrOf D i m l).1) S g (wrOf D i m l).2 w) := by
  unfold wrOf
  by_cases hr : i < 0 ∨ (D.secs.length : Int) ≤ i
  · rw [if_pos hr]
    exact (rwrite_range g i D S _ w h hr).mono fun e w' ⟨he, hw⟩ => by subst he; subst hw; exact refTo_same _ h
  · rw [if_neg hr]
    obtain ⟨j, rfl⟩ := Int.eq_ofNat_of_zero_le (show 0 ≤ i by omega)
    by_cases hm : m ≠ 128
    · rw [if_pos hm]
      exact (rwrite_arg g j D S _ w h (by omega) (by rw [size_mk, hl]; exact hm) (by rw [size_mk, hl]; omega)).mono fun e w' ⟨he, hw⟩ => by subst he; subst hw; exact refTo_same _ h
    · rw [if_neg hm]
      obtain rfl : m = 128 := by omega
      by_cases hc : D.can = true
      · rw [if_pos hc]
        exact rwrite_yes g j D S l w h (by omega) hl hc hf
      · rw [if_neg hc]
        exact rwrite_off g j D S l w h (by omega) hl (by simpa using hc)

theorem flush_all (g : Nat) (D : Dk) (S : Nat → Prop) (w : World) (h : DiskAt w S g D) :
    Calls Try.prog 28 #[.pointer (some ⟨g, 0, none⟩)] w (DiskTo (.int .i64 (flOf D).1) S g (flOf D).2 w) := by
  unfold flOf
  by_cases hc : D.can = true
  · rw [if_pos hc]; exact flush_yes g D S w h hc
  · rw [if_neg hc]; exact flush_no g D S w h (by simpa using hc)
theorem rflush_all (g : Nat) (D : Dk) (S : Nat → Prop) (w : World) (h : RefAt w S g D) :
    Calls Try.prog 29 #[.pointer (some ⟨g, 0, none⟩)] w (RefTo (.int .i64 (flOf D).1) S g (flOf D).2 w) := by
  unfold flOf
  by_cases hc : D.can = true
  · rw [if_pos hc]; exact rflush_yes g D S w h hc
  · rw [if_neg hc]; exact rflush_no g D S w h (by simpa using hc)

def ReadTo (D : Dk) (i : Int) (w : World) (e : Ending) (w' : World) : Prop :=
  ∃ a m cap, e = .returned (.tuple #[.slice a m cap, .int .i64 (rdOf D i).1]) ∧ BytesAt w' a m cap (rdOf D i).2 ∧ Below w.heap.size w w'
theorem read_all (g : Nat) (i : Int) (D : Dk) (S : Nat → Prop) (w : World) (h : DiskAt w S g D) :
    Calls Try.prog 32 #[.pointer (some ⟨g, 0, none⟩), .int .i64 i] w (ReadTo D i w) := by
  unfold ReadTo rdOf
  by_cases hr : i < 0 ∨ (D.secs.length : Int) ≤ i
  · simp only [if_pos hr]
    exact (read_range g i D S w h hr).mono fun e w' ⟨he, hw⟩ => by subst he; subst hw; exact ⟨none, 0, 0, rfl, BytesAt.nil _, Below.refl _ _⟩
  · simp only [if_neg hr]
    obtain ⟨j, rfl⟩ := Int.eq_ofNat_of_zero_le (show 0 ≤ i by omega)
    by_cases hp : D.power = true
    · simp only [if_pos hp]
      exact (read_yes g j D S w h (by omega) hp).mono fun e w' ⟨a, cap, he, hr, hb, _⟩ => ⟨a, 128, cap, he, hr, hb⟩
    · simp only [if_neg hp]
      exact (read_off g j D S w h (by omega) (by simpa using hp)).mono fun e w' ⟨he, hw⟩ => by subst he; subst hw; exact ⟨none, 0, 0, rfl, BytesAt.nil _, Below.refl _ _⟩
theorem rread_all (g : Nat) (i : Int) (D : Dk) (S : Nat → Prop) (w : World) (h : RefAt w S g D) :
    Calls Try.prog 53 #[.pointer (some ⟨g, 0, none⟩), .int .i64 i] w fun e w' => e = .returned (.tuple #[.string ⟨(rdOf D i).2.toArray⟩, .int .i64 (rdOf D i).1]) ∧ w = w' := by
  unfold rdOf
  by_cases hr : i < 0 ∨ (D.secs.length : Int) ≤ i
  · simp only [if_pos hr]
    exact rread_range g i D S w h hr
  · simp only [if_neg hr]
    obtain ⟨j, rfl⟩ := Int.eq_ofNat_of_zero_le (show 0 ≤ i by omega)
    by_cases hp : D.power = true
    · simp only [if_pos hp]
      exact rread_yes g j D S w h (by omega) hp
    · simp only [if_neg hp]
      exact rread_off g j D S w h (by omega) (by simpa using hp)

/-- 128 octets in a block of its own, that may be written -/
def Row8 (w : World) (b : Nat) : Prop := ∃ cur : Array Value, cur.size = 128 ∧ w.heap[b]? = some (.cells cur 5 (0, 0))
theorem Row8.only {w w' : World} {b : Nat} {S : Nat → Prop} (h : Row8 w b) (ho : Only S w w') (hS : ¬ S b) (hlt : b < w.heap.size) : Row8 w' b := by
  obtain ⟨cur, h1, h2⟩ := h
  exact ⟨cur, h1, (ho.block b hlt hS).trans h2⟩
theorem Row8.below {w w' : World} {b : Nat} (h : Row8 w b) (hb : Below w.heap.size w w') (hlt : b < w.heap.size) : Row8 w' b := by
  obtain ⟨cur, h1, h2⟩ := h
  exact ⟨cur, h1, (hb.block b hlt).trans h2⟩
theorem Row8.cell {w : World} {b : Nat} (h : Row8 w b) (k : Nat) (hk : k < 128) : ∃ v, w.cell? ⟨b, k, none⟩ = some v := by
  obtain ⟨cur, h1, h2⟩ := h
  rw [cell_of_row w b k _ _ _ h2]
  exact ⟨_, Array.getElem?_eq_getElem (by omega)⟩
theorem Row8.frozen {w : World} {b : Nat} (h : Row8 w b) (k : Nat) : w.frozen? ⟨b, k, none⟩ = false := by
  obtain ⟨cur, h1, h2⟩ := h
  exact frozen_of_row w b k _ _ h2
theorem Row8.set {w : World} {b : Nat} (h : Row8 w b) (k : Nat) (v : Value) : Row8 (w.setCell ⟨b, k, none⟩ v) b := by
  obtain ⟨cur, h1, h2⟩ := h
  exact ⟨_, by rw [Array.size_setIfInBounds]; exact h1, heap_setCell_same _ _ _ _ _ _ h2⟩

def AllTo (c : UInt8) (w : World) (e : Ending) (w' : World) : Prop :=
  ∃ b, e = .returned (.slice (some ⟨b, 0, none⟩) 128 128) ∧ BytesAt w' (some ⟨b, 0, none⟩) 128 128 (sec c) ∧ Below w.heap.size w w' ∧ w.heap.size ≤ b ∧ b < w'.heap.size ∧ Row8 w' b

set_option maxHeartbeats 1000000 in
theorem all_own (c : UInt8) (w : World) : Calls Try.prog 26 #[.int .u8 c.toNat] w (AllTo c w) := by
  obtain ⟨i0, hi, hz0, hz1, hz2⟩ := info_parts infoU8
  have hmk : ∀ u, (Instr.makeSlice 24 (.int .i64 128) (.int .i64 128)).run Try.prog u = .ok (.slice (some ⟨u.heap.size, 0, none⟩) 128 128) (u.alloc (.cells (madeCells #[.int .u8 0] 128) 5)) := fun u => by
    have := run_make u 24 5 i0 _ Try.underlying24 hi hz0 .i64 .i64 128 128 (by omega) (by omega) (by rw [hz2]; omega) (by omega)
    rw [hz1] at this
    simpa [Value.cells] using this
  have hl : (madeCells #[.int .u8 0] 128).toList = vals ((sec c).take 0) ++ List.replicate (128 - 0) (.int .u8 0) := by
    rw [toList_madeCells_one]; rfl
  have HL := Lib.hid hl
  have HS := Lib.hid (size_madeCells #[.int .u8 0] 128)
  clear hl hi hz0 hz1 hz2
  generalize madeCells #[.int .u8 0] 128 = C at *
  go_enter Try.func26, Try.ntmps26
  go_wp2
  have hr0 : (w.alloc (.cells C 5)).ownsRow w.heap.size 5 1 (.slice (some ⟨w.heap.size, 0, none⟩) 128 128) 128 (vals ((sec c).take 0) ++ List.replicate (128 - 0) (.int .u8 0)) := by
    have := World.ownsRow_lit (base := w.heap.size) (e := 5) (size := 1) w C 128 (Nat.le_refl _) (by unfold maxLen; omega) (by rw [HS.out])
    rwa [HL.out] at this
  have HR0 := Lib.hid hr0
  clear hr0
  go_loopw [4] (fun i wr => ∃ k : Nat, k ≤ 128 ∧ i = .int .i64 k ∧ wr.ownsRow w.heap.size 5 1 (.slice (some ⟨w.heap.size, 0, none⟩) 128 128) 128 (vals ((sec c).take k) ++ List.replicate (128 - k) (.int .u8 0)) ∧ Below w.heap.size w wr) (fun i _ => 128 - (intOf i).toNat)
  case atStart => exact ⟨0, by omega, rfl, HR0.out, (Below.refl _ _).alloc (Nat.le_refl _) _⟩
  case round =>
    obtain ⟨k, hk, rfl, hr, hb⟩ := hrel
    have HR := Lib.hid hr
    have HB := Lib.hid hb
    clear hr hb
    by_cases hlt : k < 128
    · have hc : wr.cell? ⟨w.heap.size, k, none⟩ = some (.int .u8 0) := by
        rw [World.ownsRow.cellAt HR.out k (by omega), fill_at _ _ _ _ (sec_length c) hlt]
      have hf := World.ownsRow.frozenAt HR.out k
      have hki : (k : Int) < 128 := by omega
      go_wp2
      go_roundw
      case rel =>
        have hst := World.ownsRow.stored HR.out k (.int .u8 c.toNat)
        refine ⟨k + 1, by omega, by go_num, ?_, HB.out.setCell (Nat.le_refl _) _⟩
        have h1 := hst.1
        rwa [fill_set (sec c) k 128 _ _ (sec_length c) hlt (by rw [sec_getD c k hlt])] at h1
      case measure => simp [intOf]; omega
    · obtain rfl : k = 128 := by omega
      go_wp2
      go_ret
      have hr := HR.out
      rw [Nat.sub_self, List.replicate_zero, List.append_nil, List.take_of_length_le (by rw [sec_length]; omega)] at hr
      refine ⟨_, rfl, BytesAt.owned hr, HB.out, Nat.le_refl _, (hr.lt _ rfl).2, ?_⟩
      rcases hr.2 with ⟨h', _⟩ | ⟨g, cap', cur, h', hb, hg, hnc, hcm, hcs, htake⟩
      · simp at h'
      · simp only [Value.slice.injEq, true_and, Option.some.injEq, Addr.mk.injEq, and_true] at h'
        obtain ⟨rfl, rfl⟩ := h'
        exact ⟨cur, by omega, hg⟩


structure Two (w0 w : World) (S T : Nat → Prop) (g r : Nat) (D E : Dk) : Prop where
  run : Run w0 w S g D
  ref : RefAt w T r E
  newT : ∀ k, T k → w0.heap.size ≤ k
  apart : ∀ k, S k → ¬ T k
section
variable {w0 w w' : World} {S T S' T' : Nat → Prop} {g r B : Nat} {D E D' E' : Dk}



theorem Two.quiet (h : Two w0 w S T g r D E) (hb : Below w.heap.size w w') : Two w0 w' S T g r D E := ⟨h.run.quiet hb, h.ref.below hb, h.newT, h.apart⟩






end

end Go.Proofs.Ytinfgfgmijjhjaa
