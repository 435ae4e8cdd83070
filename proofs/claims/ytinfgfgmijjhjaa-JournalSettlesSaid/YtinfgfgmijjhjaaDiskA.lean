/-
  Contracts of package disk: spend, Budget, New, Waits.
-/
import Derived.Test.YtinfgfgmijjhjaaDiskRep
namespace Go.Proofs.Ytinfgfgmijjhjaa
open Go.RowKit
set_option linter.unusedVariables false
set_option linter.unusedSimpArgs false

theorem DiskIs.setDisk {w : World} {S : Nat → Prop} {g : Nat} {D D' : Dk} {vs vw : Value} (h : DiskIs w S g D vs vw) (i : Nat) (u : Value) (hok : D'.Ok) (hs : D'.secs = D.secs) (hw : D'.waits = D.waits)
    (hc : (diskC vs vw D).setIfInBounds i u = diskC vs vw D') : DiskIs (w.setCell ⟨g, i, none⟩ u) S g D' vs vw := by
  refine ⟨hok, fun k hk => by simpa [World.setCell] using h.lt k hk, h.self, ?_, ?_, ?_, h.inS, h.inW⟩
  · rw [heap_setCell_same _ _ _ _ _ _ h.blk, hc]
  · rw [hs]; exact h.secs.keep fun k hk => heap_setCell_other _ _ _ _ (h.secs.ne_of h.blk (by decide) k hk)
  · rw [hw]; exact h.waits.keep fun k hk => heap_setCell_other _ _ _ _ (h.waits.ne_of h.blk (by decide) k hk)
theorem DiskAt.setDisk {w : World} {S : Nat → Prop} {g : Nat} {D D' : Dk} (h : DiskAt w S g D) (i : Nat) (u : Value) (hok : D'.Ok) (hs : D'.secs = D.secs) (hw : D'.waits = D.waits)
    (hc : ∀ vs vw, (diskC vs vw D).setIfInBounds i u = diskC vs vw D') : DiskAt (w.setCell ⟨g, i, none⟩ u) S g D' := by
  obtain ⟨vs, vw, h⟩ := h
  exact ⟨vs, vw, h.setDisk i u hok hs hw (hc vs vw)⟩
theorem DiskAt.setPower {w : World} {S : Nat → Prop} {g : Nat} {D : Dk} (h : DiskAt w S g D) (b : Bool) : DiskAt (w.setCell ⟨g, 2, none⟩ (.bool b)) S g { D with power := b } :=
  h.setDisk 2 _ ⟨h.ok.sec, h.ok.wait, h.ok.low, h.ok.high, h.ok.one, h.ok.many, h.ok.few⟩ rfl rfl fun _ _ => rfl
theorem DiskAt.setBudget {w : World} {S : Nat → Prop} {g : Nat} {D : Dk} (h : DiskAt w S g D) (b : Int) (h1 : -1 ≤ b) (h2 : b ≤ 9223372036854775807) : DiskAt (w.setCell ⟨g, 3, none⟩ (.int .i64 b)) S g { D with budget := b } :=
  h.setDisk 3 _ (h.ok.setBudget b h1 h2) rfl rfl fun _ _ => rfl

theorem budget_no (g : Nat) (n : Int) (w : World) (hn : n < -1) :
    Calls Try.prog 18 #[.pointer (some ⟨g, 0, none⟩), .int .i64 n] w fun e w' => e = .returned (.int .i64 1) ∧ w = w' := by
  go_enter Try.func18, Try.ntmps18
  go_wp2
  go_ret
  exact ⟨rfl, rfl⟩

theorem budget_yes (g : Nat) (n : Int) (D : Dk) (S : Nat → Prop) (w : World) (h : DiskAt w S g D) (hn : -1 ≤ n) (hm : n ≤ 9223372036854775807) :
    Calls Try.prog 18 #[.pointer (some ⟨g, 0, none⟩), .int .i64 n] w (DiskTo (.int .i64 0) S g { D with budget := n } w) := by
  have HD := Lib.hid h
  obtain ⟨vs, vw, h1, h2, h3, h4, h5⟩ := h.ex
  obtain ⟨c0, c1, c2, c3, hf⟩ := DiskAt.cells (S := S) h1
  have f3 := hf 3
  clear h1 h2 h3 h4 h5 h hf
  go_enter Try.func18, Try.ntmps18
  go_wp2
  go_ret
  exact ⟨rfl, S, HD.out.setBudget n hn hm, Only.setCell _ _ _ HD.out.self, fun k hk => .inl hk⟩

theorem spend_no (g : Nat) (D : Dk) (S : Nat → Prop) (w : World) (h : DiskAt w S g D) (hc : D.can = false) :
    Calls Try.prog 59 #[.pointer (some ⟨g, 0, none⟩)] w (DiskTo (.int .i64 10) S g D.off w) := by
  have HD := Lib.hid h
  obtain ⟨vs, vw, h1, h2, h3, h4, h5⟩ := h.ex
  obtain ⟨c0, c1, c2, c3, hf⟩ := DiskAt.cells (S := S) h1
  have f2 := hf 2
  by_cases hb : D.budget = 0
  · rw [hb] at c3
    have HB := Lib.hid hb
    clear h1 h2 h3 h4 h5 h hf hc hb
    go_enter Try.func59, Try.ntmps59
    go_wp2
    go_ret
    exact ⟨rfl, S, HD.out.setPower false, Only.setCell _ _ _ HD.out.self, fun k hk => .inl hk⟩
  · have hp : D.power = false := by simp [Dk.can] at hc; rcases Bool.eq_false_or_eq_true D.power with h | h; exact absurd (hc h) hb; exact h
    have hb' : (D.budget == 0) = false := by simpa using hb
    rw [hp] at c2
    have HP := Lib.hid hp
    clear h1 h2 h3 h4 h5 h hf hc hb hp
    go_enter Try.func59, Try.ntmps59
    go_wp2
    go_ret
    have : D.off = D := by unfold Dk.off; cases D; simp only [Dk.mk.injEq, true_and, and_true]; exact HP.out.symm
    exact ⟨rfl, S, by rw [this]; exact HD.out, Only.refl _ _, fun k hk => .inl hk⟩

theorem spend_yes (g : Nat) (D : Dk) (S : Nat → Prop) (w : World) (h : DiskAt w S g D) (hc : D.can = true) :
    Calls Try.prog 59 #[.pointer (some ⟨g, 0, none⟩)] w (fun e w' => e = .returned (.int .i64 0) ∧ DiskAt w' S g D.paid ∧ Only S w w' ∧ w'.heap.size = w.heap.size) := by
  have HD := Lib.hid h
  obtain ⟨vs, vw, h1, h2, h3, h4, h5⟩ := h.ex
  obtain ⟨c0, c1, c2, c3, hf⟩ := DiskAt.cells (S := S) h1
  have f3 := hf 3
  simp only [Dk.can, Bool.and_eq_true, Bool.not_eq_true'] at hc
  obtain ⟨hp, hb⟩ := hc
  rw [hp] at c2
  have hlo := h.ok.low
  have hhi := h.ok.high
  by_cases hm : D.budget = -1
  · rw [hm] at c3
    have HM := Lib.hid hm
    clear h1 h2 h3 h4 h5 h hf hb hm hp hlo hhi
    go_enter Try.func59, Try.ntmps59
    go_wp2
    go_ret
    have : D.paid = D := by unfold Dk.paid; rw [if_pos HM.out]; cases D; simp only [Dk.mk.injEq, true_and, and_true]; exact HM.out.symm
    exact ⟨rfl, by rw [this]; exact HD.out, Only.refl _ _, rfl⟩
  · have hb' : (D.budget == -1) = false := by simpa using hm
    have hbn : (D.budget != -1) = true := by simpa using hm
    have HM := Lib.hid hm
    have h0 : D.budget ≠ 0 := by simpa using hb
    have hb1 : 1 ≤ D.budget := by omega
    clear h1 h2 h3 h4 h5 h hf hm hp h0
    go_enter Try.func59, Try.ntmps59
    go_wp2
    go_ret
    have : D.paid = { D with budget := D.budget - 1 } := by unfold Dk.paid; rw [if_neg HM.out]
    exact ⟨rfl, by rw [this]; exact HD.out.setBudget _ (by omega) (by omega), Only.setCell _ _ _ HD.out.self, by simp [World.setCell]⟩

/-! ### New -/
theorem infoSec : (Try.prog.info? 106).map (fun i => (i.zero, i.size, i.bytes)) = some (some (.agg (Array.replicate 128 (.int .u8 0))), 128, 128) := by kernel_rfl

theorem vals_zero : vals (List.replicate 128 0) = List.replicate 128 (.int .u8 0) := by simp [vals]

theorem new_no (n : Int) (w : World) (hn : n < 1 ∨ 2048 < n) :
    Calls Try.prog 12 #[.int .i64 n] w fun e w' => e = .returned (.tuple #[.pointer none, .int .i64 1]) ∧ w = w' := by
  rcases hn with hn | hn
  · go_enter Try.func12, Try.ntmps12
    go_wp2
    go_ret2
    exact ⟨rfl, rfl⟩
  · have h1 : ¬ n < 1 := by omega
    go_enter Try.func12, Try.ntmps12
    go_wp2
    go_ret2
    exact ⟨rfl, rfl⟩

def FreshDisk (P : Value → Value) (D : Dk) (w : World) (e : Ending) (w' : World) : Prop :=
  ∃ g S, e = .returned (P (.pointer (some ⟨g, 0, none⟩))) ∧ DiskAt w' S g D ∧ Below w.heap.size w w' ∧ ∀ k, S k → w.heap.size ≤ k

theorem madeCells_const (m k j : Nat) (z : Value) (hm : 0 < m) (hj : j < k) : (madeCells (Array.replicate m z) k).toList[j]? = some z := by
  have h := Nat.mod_lt j hm
  simp [madeCells, hj, h]

theorem new_yes (n : Nat) (w : World) (h1 : 1 ≤ n) (h2 : n ≤ 2048) :
    Calls Try.prog 12 #[.int .i64 n] w (FreshDisk (fun v => .tuple #[v, .int .i64 0]) (Dk.new n) w) := by
  have hn1 : ¬ (n : Int) < 1 := by omega
  have hn2 : ¬ (2048 : Int) < n := by omega
  obtain ⟨i0, hi, hz0, hz1, hz2⟩ := info_parts infoSec
  have hmk : ∀ u, (Instr.makeSlice 80 (.int .i64 (n : Int)) (.int .i64 (n : Int))).run Try.prog u = .ok (.slice (some ⟨u.heap.size, 0, none⟩) n n) (u.alloc (.cells (madeCells (Array.replicate 128 (.int .u8 0)) (n * 128)) 106)) := fun u => by
    have := run_make u 80 106 i0 _ Try.underlying80 hi hz0 .i64 .i64 (n : Int) (n : Int) (by omega) (by omega) (by rw [hz2]; omega) (by omega)
    rw [hz1] at this
    simpa [Value.cells] using this
  have hmade : (madeCells (Array.replicate 128 (.int .u8 0)) (n * 128)).toList = (Dk.new n).secs.flatMap vals := by
    have h1 : ∀ x ∈ (Dk.new n).secs, (vals x).length = 128 := fun x hx => by
      simp only [Dk.new, List.mem_replicate] at hx; rw [hx.2, vals_length]; simp
    apply List.ext_getElem?
    intro j
    by_cases hj : j < n * 128
    · obtain ⟨q, r, hq, hr, rfl⟩ : ∃ q r, q < n ∧ r < 128 ∧ j = q * 128 + r := ⟨j / 128, j % 128, by omega, by omega, by omega⟩
      rw [flatMap_at (size := 128) _ h1 q r (List.replicate 128 0) (by simp only [Dk.new]; rw [List.getElem?_replicate, if_pos hq]) hr, vals_zero, madeCells_const _ _ _ _ (by omega) hj, List.getElem?_replicate, if_pos hr]
    · rw [List.getElem?_eq_none (by simp [size_madeCells]; omega), List.getElem?_eq_none (by rw [flatMap_len _ h1]; simp [Dk.new]; omega)]
  have hsz := size_madeCells (Array.replicate 128 (.int .u8 0)) (n * 128)
  have HM := Lib.hid hmade
  have HS := Lib.hid hsz
  clear hmade hsz hi hz0 hz1 hz2
  generalize madeCells (Array.replicate 128 (.int .u8 0)) (n * 128) = C at *
  go_enter Try.func12, Try.ntmps12
  go_wp2
  go_ret2
  have hall : ∀ x ∈ (Dk.new n).secs, x = List.replicate 128 0 := fun x hx => by
    simp only [Dk.new, List.mem_replicate] at hx; exact hx.2
  refine ⟨w.heap.size + 1, (fun k => k = w.heap.size ∨ k = w.heap.size + 1), rfl, ⟨.slice (some ⟨w.heap.size, 0, none⟩) n n, .slice none 0 0, Dk.ok_new n h1 h2, ?_, .inr rfl, ?_, ?_, Recs.nil _ _ _ _, ?_, ?_⟩, ?_, ?_⟩
  · rintro k (rfl | rfl) <;> (simp only [World.size_alloc]; omega)
  · exact heap_alloc2_new w _ _
  · refine ⟨fun x hx => ?_, fun x hx => ?_, ?_⟩
    · rw [hall x hx, vals_length]; simp
    · exact mem_vals_oneCell x
    · refine ⟨?_, .inr ⟨w.heap.size, n, C, ?_, Nat.zero_le _, heap_alloc2_old w _ _, ?_, ?_, HS.out, ?_⟩⟩
      · rw [← HM.out]; simp [HS.out, Dk.new]
      · simp [Dk.new]
      · simp [Dk.new]
      · unfold maxLen; omega
      · rw [← HM.out, List.take_of_length_le]; simp [HS.out, Dk.new]
  · intro k hk; simp [Value.ownBlock] at hk; exact .inl hk.symm
  · intro k hk; simp [Value.ownBlock] at hk
  · exact ((Below.refl _ _).alloc (Nat.le_refl _) _).alloc (by simp) _
  · rintro k (rfl | rfl) <;> omega

end Go.Proofs.Ytinfgfgmijjhjaa
