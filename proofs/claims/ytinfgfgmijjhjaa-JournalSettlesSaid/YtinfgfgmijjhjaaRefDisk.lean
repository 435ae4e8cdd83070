/-
  The document's answer for layer 3, in memory: the same disk, its sectors texts.
-/
import Derived.Test.YtinfgfgmijjhjaaStrs
import Derived.Test.YtinfgfgmijjhjaaCame
namespace Go.Proofs.Ytinfgfgmijjhjaa
open Go.RowKit
set_option linter.unusedVariables false
set_option linter.unusedSimpArgs false

def rwC (x : Nat × List UInt8) : List Value := [.int .i64 x.1, .string ⟨x.2.toArray⟩]
theorem rwC_one (x : Nat × List UInt8) : ∀ u ∈ rwC x, u.oneCell' = true := by
  intro u hu
  simp only [rwC, List.mem_cons, List.not_mem_nil, or_false] at hu
  rcases hu with rfl | rfl <;> rfl
theorem infoRW : (Try.prog.info? 104).map (fun i => (i.zero, i.size, i.bytes)) = some (some (.agg #[.int .i64 0, .string .empty]), 2, 24) := by kernel_rfl

def refC (vs vw : Value) (D : Dk) : Array Value := #[vs, vw, .int .i64 D.budget, .bool (!D.power)]

structure RefIs (w : World) (S : Nat → Prop) (g : Nat) (D : Dk) (vs vw : Value) : Prop where
  ok : D.Ok
  lt : ∀ k, S k → k < w.heap.size
  self : S g
  blk : w.heap[g]? = some (.cells (refC vs vw D) 51 (0, 0))
  secs : Recs strC w 9 1 vs D.secs
  waits : Recs rwC w 104 2 vw D.waits
  inS : ∀ k, vs.ownBlock = some k → S k
  inW : ∀ k, vw.ownBlock = some k → S k
def RefAt (w : World) (S : Nat → Prop) (g : Nat) (D : Dk) : Prop := ∃ vs vw, RefIs w S g D vs vw

theorem RefIs.keep {w w' : World} {S : Nat → Prop} {g : Nat} {D : Dk} {vs vw : Value} (h : RefIs w S g D vs vw) (hs : w.heap.size ≤ w'.heap.size) (hk : ∀ k, S k → w'.heap[k]? = w.heap[k]?) : RefIs w' S g D vs vw :=
  ⟨h.ok, fun k hS => Nat.lt_of_lt_of_le (h.lt k hS) hs, h.self, (hk g h.self).trans h.blk, h.secs.keep fun k hv => hk k (h.inS k hv), h.waits.keep fun k hv => hk k (h.inW k hv), h.inS, h.inW⟩
theorem RefIs.below {w w' : World} {S : Nat → Prop} {g : Nat} {D : Dk} {vs vw : Value} (h : RefIs w S g D vs vw) (hb : Below w.heap.size w w') : RefIs w' S g D vs vw :=
  h.keep hb.size fun k hS => hb.block k (h.lt k hS)
theorem RefAt.only {w w' : World} {S T : Nat → Prop} {g : Nat} {D : Dk} (h : RefAt w S g D) (ho : Only T w w') (hd : ∀ k, S k → ¬ T k) : RefAt w' S g D := by
  obtain ⟨vs, vw, h⟩ := h
  exact ⟨vs, vw, h.keep ho.size fun k hS => ho.block k (h.lt k hS) (hd k hS)⟩
theorem RefAt.below {w w' : World} {S : Nat → Prop} {g : Nat} {D : Dk} (h : RefAt w S g D) (hb : Below w.heap.size w w') : RefAt w' S g D := by
  obtain ⟨vs, vw, h⟩ := h
  exact ⟨vs, vw, h.below hb⟩
theorem RefAt.ok {w : World} {S : Nat → Prop} {g : Nat} {D : Dk} (h : RefAt w S g D) : D.Ok := by obtain ⟨_, _, h⟩ := h; exact h.ok
theorem RefAt.lt {w : World} {S : Nat → Prop} {g : Nat} {D : Dk} (h : RefAt w S g D) : ∀ k, S k → k < w.heap.size := by obtain ⟨_, _, h⟩ := h; exact h.lt
theorem RefAt.self {w : World} {S : Nat → Prop} {g : Nat} {D : Dk} (h : RefAt w S g D) : S g := by obtain ⟨_, _, h⟩ := h; exact h.self

def RefTo (v : Value) (S : Nat → Prop) (g : Nat) (D' : Dk) (w : World) (e : Ending) (w' : World) : Prop :=
  e = .returned v ∧ ∃ S', RefAt w' S' g D' ∧ Only S w w' ∧ ∀ k, S' k → S k ∨ w.heap.size ≤ k

theorem ref_cells {w : World} {g : Nat} {D : Dk} {vs vw : Value} (h : w.heap[g]? = some (.cells (refC vs vw D) 51 (0, 0))) :
    w.cell? ⟨g, 0, none⟩ = some vs ∧ w.cell? ⟨g, 1, none⟩ = some vw ∧ w.cell? ⟨g, 2, none⟩ = some (.int .i64 D.budget) ∧ w.cell? ⟨g, 3, none⟩ = some (.bool (!D.power)) ∧ ∀ i, w.frozen? ⟨g, i, none⟩ = false :=
  ⟨by rw [cell_of_row w g 0 _ _ _ h]; rfl, by rw [cell_of_row w g 1 _ _ _ h]; rfl, by rw [cell_of_row w g 2 _ _ _ h]; rfl, by rw [cell_of_row w g 3 _ _ _ h]; rfl, fun i => frozen_of_row w g i _ _ h⟩

theorem RefIs.setRef {w : World} {S : Nat → Prop} {g : Nat} {D D' : Dk} {vs vw : Value} (h : RefIs w S g D vs vw) (i : Nat) (u : Value) (hok : D'.Ok) (hs : D'.secs = D.secs) (hw : D'.waits = D.waits)
    (hc : (refC vs vw D).setIfInBounds i u = refC vs vw D') : RefIs (w.setCell ⟨g, i, none⟩ u) S g D' vs vw := by
  refine ⟨hok, fun k hk => by simpa [World.setCell] using h.lt k hk, h.self, ?_, ?_, ?_, h.inS, h.inW⟩
  · rw [heap_setCell_same _ _ _ _ _ _ h.blk, hc]
  · rw [hs]; exact h.secs.keep fun k hk => heap_setCell_other _ _ _ _ (h.secs.ne_of h.blk (by decide) k hk)
  · rw [hw]; exact h.waits.keep fun k hk => heap_setCell_other _ _ _ _ (h.waits.ne_of h.blk (by decide) k hk)
theorem RefIs.setBudget {w : World} {S : Nat → Prop} {g : Nat} {D : Dk} {vs vw : Value} (h : RefIs w S g D vs vw) (b : Int) (h1 : -1 ≤ b) (h2 : b ≤ 9223372036854775807) : RefIs (w.setCell ⟨g, 2, none⟩ (.int .i64 b)) S g { D with budget := b } vs vw :=
  h.setRef 2 _ (h.ok.setBudget b h1 h2) rfl rfl rfl
theorem RefIs.setOff {w : World} {S : Nat → Prop} {g : Nat} {D : Dk} {vs vw : Value} (h : RefIs w S g D vs vw) (b : Bool) : RefIs (w.setCell ⟨g, 3, none⟩ (.bool (!b))) S g { D with power := b } vs vw :=
  h.setRef 3 _ ⟨h.ok.sec, h.ok.wait, h.ok.low, h.ok.high, h.ok.one, h.ok.many, h.ok.few⟩ rfl rfl rfl
theorem RefIs.noWaits {w : World} {S : Nat → Prop} {g : Nat} {D : Dk} {vs vw : Value} (h : RefIs w S g D vs vw) (hok : ({ D with waits := [] } : Dk).Ok) : RefIs (w.setCell ⟨g, 1, none⟩ (.slice none 0 0)) S g { D with waits := [] } vs (.slice none 0 0) := by
  refine ⟨hok, fun k hk => by simpa [World.setCell] using h.lt k hk, h.self, ?_, ?_, Recs.nil _ _ _ _, h.inS, fun k hk => by simp [Value.ownBlock] at hk⟩
  · rw [heap_setCell_same _ _ _ _ _ _ h.blk]; rfl
  · exact h.secs.keep fun k hk => heap_setCell_other _ _ _ _ (h.secs.ne_of h.blk (by decide) k hk)
theorem RefIs.putSec {w : World} {S : Nat → Prop} {g gs n caps : Nat} {D : Dk} {vw : Value} (h : RefIs w S g D (.slice (some ⟨gs, 0, none⟩) n caps) vw) (i : Nat) (l : List UInt8) (hi : i < D.secs.length) (hl : l.length = 128) :
    RefIs (w.setCell ⟨gs, i, none⟩ (.string ⟨l.toArray⟩)) S g { D with secs := D.secs.set i l } (.slice (some ⟨gs, 0, none⟩) n caps) vw ∧ Only S w (w.setCell ⟨gs, i, none⟩ (.string ⟨l.toArray⟩)) := by
  have hp := h.secs.stored i 0 hi (by omega) l (.string ⟨l.toArray⟩) (by simp [strC]) rfl
  rw [show i * 1 + 0 = i by omega] at hp
  have hgs : S gs := h.inS gs rfl
  have hne : g ≠ gs := fun e => h.secs.ne_of h.blk (by decide) gs rfl e.symm
  have hok : ({ D with secs := D.secs.set i l } : Dk).Ok := by
    refine ⟨fun s hs => ?_, fun x hx => ?_, h.ok.low, h.ok.high, by simpa using h.ok.one, by simpa using h.ok.many, h.ok.few⟩
    · rcases List.mem_or_eq_of_mem_set hs with hs | rfl
      · exact h.ok.sec s hs
      · exact hl
    · simpa using h.ok.wait x hx
  refine ⟨⟨hok, fun k hk => by simpa [World.setCell] using h.lt k hk, h.self, ?_, hp, ?_, h.inS, h.inW⟩, Only.setCell _ _ _ hgs⟩
  · rw [heap_setCell_other _ _ _ _ (by simpa using hne)]; exact h.blk
  · exact h.waits.keep fun k hk => heap_setCell_other _ _ _ _ (fun e => by
      simp only at e; subst e
      exact h.waits.ne_own h.secs (by decide) k hk rfl)
theorem RefIs.moreWaits {w w' : World} {S : Nat → Prop} {g : Nat} {D : Dk} {vs vw v' : Value} (h : RefIs w S g D vs vw) (x : Nat × List UInt8) (hok : ({ D with waits := D.waits ++ [x] } : Dk).Ok) (hr : Recs rwC w' 104 2 v' (D.waits ++ [x])) (hg : w.grownBy w' vw.ownBlock) (hv : v'.ownBlock = vw.ownBlock ∨ v'.ownBlock = some w.heap.size) :
    RefIs (w'.setCell ⟨g, 1, none⟩ v') (fun k => S k ∨ (w.heap.size ≤ k ∧ k < w'.heap.size)) g { D with waits := D.waits ++ [x] } vs v' ∧ Only S w (w'.setCell ⟨g, 1, none⟩ v') := by
  have hne : some g ≠ vw.ownBlock := fun e => h.waits.ne_of h.blk (by decide) g e.symm rfl
  have hblk := (hg.block g (h.lt g h.self) hne).trans h.blk
  have hsecs : Recs strC w' 9 1 vs D.secs := h.secs.keep fun k hk => hg.block k (h.secs.lt k hk) (fun e => h.secs.ne_own h.waits (by decide) k hk e.symm)
  refine ⟨⟨hok, fun k hk => ?_, .inl h.self, ?_, ?_, ?_, fun k hk => .inl (h.inS k hk), fun k hk => ?_⟩, ?_⟩
  · rcases hk with hk | hk
    · have := h.lt k hk; have := hg.size; simp [World.setCell]; omega
    · simpa [World.setCell] using hk.2
  · rw [heap_setCell_same _ _ _ _ _ _ hblk]; rfl
  · exact hsecs.keep fun k hk => heap_setCell_other _ _ _ _ (hsecs.ne_of hblk (by decide) k hk)
  · exact hr.keep fun k hk => heap_setCell_other _ _ _ _ (hr.ne_of hblk (by decide) k hk)
  · rcases hv with hv | hv
    · exact .inl (h.inW k (by rw [← hv]; exact hk))
    · rw [hv] at hk
      injection hk with hk
      subst hk
      exact .inr ⟨Nat.le_refl _, hr.lt _ hv⟩
  · exact (Only.of_grown (S := S) hg (fun k hk => h.inW k hk)).trans (Only.setCell (S := S) _ _ _ h.self) (fun _ _ h => h)

/-! ### fails -/
theorem fails_yes (g : Nat) (D : Dk) (S : Nat → Prop) (w : World) (h : RefAt w S g D) (hc : D.can = false) :
    Calls Try.prog 60 #[.pointer (some ⟨g, 0, none⟩)] w (RefTo (.bool true) S g D.off w) := by
  obtain ⟨vs, vw, h⟩ := h
  have HD := Lib.hid h
  obtain ⟨c0, c1, c2, c3, hf⟩ := ref_cells h.blk
  have f3 := hf 3
  clear h hf
  cases hp : D.power with
  | false =>
    rw [hp] at c3
    clear hp hc
    go_enter Try.func60, Try.ntmps60
    go_wp2
    go_ret
    exact ⟨rfl, S, ⟨_, _, HD.out.setOff false⟩, Only.setCell _ _ _ HD.out.self, fun k hk => .inl hk⟩
  | true =>
    rw [hp] at c3
    have hb : D.budget = 0 := by simpa [Dk.can, hp] using hc
    rw [hb] at c2
    clear hp hc hb
    go_enter Try.func60, Try.ntmps60
    go_wp2
    go_ret
    exact ⟨rfl, S, ⟨_, _, HD.out.setOff false⟩, Only.setCell _ _ _ HD.out.self, fun k hk => .inl hk⟩

theorem fails_no (g : Nat) (D : Dk) (S : Nat → Prop) (w : World) (h : RefAt w S g D) (hc : D.can = true) :
    Calls Try.prog 60 #[.pointer (some ⟨g, 0, none⟩)] w fun e w' => e = .returned (.bool false) ∧ RefAt w' S g D.paid ∧ Only S w w' ∧ w'.heap.size = w.heap.size := by
  obtain ⟨vs, vw, h⟩ := h
  have HD := Lib.hid h
  obtain ⟨c0, c1, c2, c3, hf⟩ := ref_cells h.blk
  have f2 := hf 2
  simp only [Dk.can, Bool.and_eq_true, Bool.not_eq_true'] at hc
  obtain ⟨hp, hb⟩ := hc
  rw [hp] at c3
  have hlo := h.ok.low
  have hhi := h.ok.high
  have h0 : D.budget ≠ 0 := by simpa using hb
  clear h hf hp
  by_cases hm : D.budget = -1
  · rw [hm] at c2
    have HM := Lib.hid hm
    clear hb hm hlo hhi h0
    go_enter Try.func60, Try.ntmps60
    go_wp2
    go_ret
    have : D.paid = D := by unfold Dk.paid; rw [if_pos HM.out]; cases D; simp only [Dk.mk.injEq, true_and, and_true]; exact HM.out.symm
    exact ⟨rfl, by rw [this]; exact ⟨_, _, HD.out⟩, Only.refl _ _, rfl⟩
  · have HM := Lib.hid hm
    have hb1 : 1 ≤ D.budget := by omega
    have hb2 : 0 < D.budget := by omega
    clear hm h0
    go_enter Try.func60, Try.ntmps60
    go_wp2
    go_ret
    have : D.paid = { D with budget := D.budget - 1 } := by unfold Dk.paid; rw [if_neg HM.out]
    exact ⟨rfl, by rw [this]; exact ⟨_, _, HD.out.setBudget _ (by omega) (by omega)⟩, Only.setCell _ _ _ HD.out.self, by simp [World.setCell]⟩

/-! ### On -/
theorem ron_any (g : Nat) (D : Dk) (S : Nat → Prop) (w : World) (h : RefAt w S g D) :
    Calls Try.prog 22 #[.pointer (some ⟨g, 0, none⟩)] w (RefTo (.tuple #[]) S g D.on w) := by
  obtain ⟨vs, vw, h⟩ := h
  have HD := Lib.hid h
  obtain ⟨c0, c1, c2, c3, hf⟩ := ref_cells h.blk
  obtain ⟨av, capv, rfl, _, _⟩ := h.waits.form
  have f1 := hf 1
  have f2 := hf 2
  have f3 := hf 3
  clear h hf
  go_enter Try.func22, Try.ntmps22
  go_wp2
  go_end0
  have h1 := HD.out.noWaits (show ({ D with waits := [] } : Dk).Ok from ⟨HD.out.ok.sec, by simp, HD.out.ok.low, HD.out.ok.high, HD.out.ok.one, HD.out.ok.many, by simp⟩)
  have h2 := h1.setBudget (-1) (by omega) (by omega)
  have h3 := h2.setOff true
  have e : ({ secs := D.secs, waits := [], power := true, budget := -1 } : Dk) = D.on := by
    unfold Dk.on Dk.settle
    rw [Dk.laid_false]
  rw [← e]
  refine ⟨rfl, S, ⟨_, _, h3⟩, ?_, fun k hk => .inl hk⟩
  exact (Only.setCell (S := S) _ _ _ HD.out.self).trans ((Only.setCell (S := S) _ _ _ HD.out.self).trans (Only.setCell (S := S) _ _ _ HD.out.self) (fun _ _ h => h)) (fun _ _ h => h)

/-! ### Write -/
theorem rwrite_range (g : Nat) (i : Int) (D : Dk) (S : Nat → Prop) (s : ByteArray) (w : World) (h : RefAt w S g D) (hi : i < 0 ∨ (D.secs.length : Int) ≤ i) :
    Calls Try.prog 27 #[.pointer (some ⟨g, 0, none⟩), .int .i64 i, .string s] w fun e w' => e = .returned (.int .i64 4) ∧ w = w' := by
  obtain ⟨vs, vw, h⟩ := h
  obtain ⟨c0, c1, c2, c3, hf⟩ := ref_cells h.blk
  obtain ⟨av, capv, rfl, _, _⟩ := h.secs.form
  clear h hf c1 c2 c3
  by_cases h0 : i < 0
  · go_enter Try.func27, Try.ntmps27
    go_wp2
    go_ret
    exact ⟨rfl, rfl⟩
  · have h1 : (D.secs.length : Int) ≤ i := by omega
    have h2 : ¬ i < (D.secs.length : Int) := by omega
    go_enter Try.func27, Try.ntmps27
    go_wp2
    go_ret
    exact ⟨rfl, rfl⟩

theorem rwrite_arg (g : Nat) (i : Nat) (D : Dk) (S : Nat → Prop) (s : ByteArray) (w : World) (h : RefAt w S g D) (hi : i < D.secs.length) (hs : s.size ≠ 128) (hm : s.size ≤ 9223372036854775807) :
    Calls Try.prog 27 #[.pointer (some ⟨g, 0, none⟩), .int .i64 i, .string s] w fun e w' => e = .returned (.int .i64 1) ∧ w = w' := by
  obtain ⟨vs, vw, h⟩ := h
  obtain ⟨c0, c1, c2, c3, hf⟩ := ref_cells h.blk
  obtain ⟨av, capv, rfl, _, _⟩ := h.secs.form
  have h1 : ((s.size : Int) == 128) = false := by simp; omega
  have h2 : ((s.size : Int) != 128) = true := by simp; omega
  have h3 : (i : Int) < (D.secs.length : Int) := by omega
  have h4 : ¬ (D.secs.length : Int) ≤ (i : Int) := by omega
  have h5 : ¬ (i : Int) < 0 := by omega
  clear h hf c1 c2 c3 hs
  go_enter Try.func27, Try.ntmps27
  go_wp2
  go_ret
  exact ⟨rfl, rfl⟩

theorem size_mk (l : List UInt8) : (⟨l.toArray⟩ : ByteArray).size = l.length := rfl

theorem rwrite_off (g : Nat) (i : Nat) (D : Dk) (S : Nat → Prop) (l : List UInt8) (w : World) (h : RefAt w S g D) (hi : i < D.secs.length) (hl : l.length = 128) (hc : D.can = false) :
    Calls Try.prog 27 #[.pointer (some ⟨g, 0, none⟩), .int .i64 i, .string ⟨l.toArray⟩] w (RefTo (.int .i64 10) S g D.off w) := by
  have CF := Lib.hid (fails_yes g D S w h hc)
  obtain ⟨vs, vw, h⟩ := h
  obtain ⟨c0, c1, c2, c3, hf⟩ := ref_cells h.blk
  obtain ⟨av, capv, rfl, _, _⟩ := h.secs.form
  obtain ⟨s, hs⟩ : ∃ s : ByteArray, s = ⟨l.toArray⟩ := ⟨_, rfl⟩
  have h1 : s.size = 128 := by rw [hs]; exact hl
  rw [← hs]
  have h3 : (i : Int) < (D.secs.length : Int) := by omega
  have h4 : ¬ (D.secs.length : Int) ≤ (i : Int) := by omega
  have h5 : ¬ (i : Int) < 0 := by omega
  clear h hf c1 c2 c3 hs hc
  go_enter Try.func27, Try.ntmps27
  go_wp2_with (go_at_call 60; refine (CF.out).mono ?_; rintro e w1 ⟨rfl, hd⟩)
  go_ret
  exact ⟨rfl, hd⟩

theorem rwrite_yes (g : Nat) (i : Nat) (D : Dk) (S : Nat → Prop) (l : List UInt8) (w : World) (h : RefAt w S g D) (hi : i < D.secs.length) (hl : l.length = 128) (hc : D.can = true) (hfew : D.waits.length < 1073741824) :
    Calls Try.prog 27 #[.pointer (some ⟨g, 0, none⟩), .int .i64 i, .string ⟨l.toArray⟩] w (RefTo (.int .i64 0) S g (D.put i l) w) := by
  have CF := Lib.hid (fails_no g D S w h hc)
  have HOK := Lib.hid (h.ok.put hc i l hi hl hfew)
  obtain ⟨vs, vw, h⟩ := h
  obtain ⟨c0, c1, c2, c3, hf⟩ := ref_cells h.blk
  obtain ⟨av, capv, rfl, _, _⟩ := h.secs.form
  obtain ⟨s, hs⟩ : ∃ s : ByteArray, s = ⟨l.toArray⟩ := ⟨_, rfl⟩
  have h1 : s.size = 128 := by rw [hs]; exact hl
  rw [← hs]
  have HS := Lib.hid hs
  have h3 : (i : Int) < (D.secs.length : Int) := by omega
  have h4 : ¬ (D.secs.length : Int) ≤ (i : Int) := by omega
  have h5 : ¬ (i : Int) < 0 := by omega
  clear h hf c1 c2 c3 hs hc
  go_enter Try.func27, Try.ntmps27
  go_upto_region 7 with (go_at_call 60; refine (CF.out).mono ?_; rintro e w1 ⟨rfl, hd, ho, hsz⟩)
  obtain ⟨vs1, vw1, hd⟩ := hd
  obtain ⟨d0, d1, d2, d3, hf1⟩ := ref_cells hd.blk
  have f1 := hf1 1
  obtain ⟨aw, capw, rfl, _, _⟩ := hd.waits.form
  obtain ⟨i0, hi0, hz0, hz1, hz2⟩ := info_parts infoRW
  have HD := Lib.hid hd
  have HO := Lib.hid ho
  have HSZ := Lib.hid hsz
  have Hi0 := Lib.hid hi0
  have Hz0 := Lib.hid hz0
  have Hz1 := Lib.hid hz1
  have Hz2 := Lib.hid hz2
  have HF1 := Lib.hid f1
  have hbel : Below w1.heap.size w1 (w1.alloc (.cells #[.int .i64 (i : Int), .string s] 104)) := (Below.refl _ _).alloc (Nat.le_refl _) _
  have hda := hd.below hbel
  have HDA := Lib.hid hda
  have HN : ∀ j u, ([(i, l)].flatMap rwC)[j]? = some u → (w1.alloc (.cells #[.int .i64 (i : Int), .string s] 104)).cell? ((⟨w1.heap.size, 0, none⟩ : Addr).add j) = some u :=
    one_rec (f := rwC) (x := (i, l)) (t := 104) (fr := (0, 0)) (by rw [heap_alloc_new]; simp [rwC, HS.out])
  have HN' := Lib.hid HN
  have hfew' : D.paid.waits.length < 1073741824 := hfew
  clear hd ho hsz hf1 f1 d0 d2 d3 hda hbel hi0 hz0 hz1 hz2 HN c0
  go_wp2_with (at_builtin; refine wpList_append_recs (f := rwC) rfl _ _ 49 rfl 104 i0 _ 2 24 Try.underlying49 Hi0.out Hz0.out Hz1.out Hz2.out rfl (by omega) _ D.paid.waits rfl HDA.out.waits ⟨w1.heap.size, 0, none⟩ 1 1 [(i, l)] rfl rfl (fun _ _ => rfl) (fun y _ => rwC_one y) HN'.out (by unfold maxLen; omega) (by omega) ?_; intro v' w2 hr' hg' hv'; obtain ⟨a', cap', hv0, _, _⟩ := hr'.form; rw [List.length_append, List.length_singleton] at hv0; subst hv0; have hm := HDA.out.moreWaits (i, l) HOK.out hr' hg' hv'; have hne : some g ≠ (Value.slice aw D.paid.waits.length capw).ownBlock := fun e => HDA.out.waits.ne_of HDA.out.blk (by decide) g e.symm rfl; have hblk := (hg'.block g (HDA.out.lt g HDA.out.self) hne).trans HDA.out.blk; obtain ⟨e0, e1, e2, e3, ef⟩ := ref_cells hblk; have ef1 := ef 1; have HM := Lib.hid hm; clear hm hr' hg' hv' hne hblk e0 e2 e3 ef)
  go_ret
  refine ⟨rfl, _, ⟨_, _, HM.out.1⟩, ?_, ?_⟩
  · exact HO.out.trans ((Only.of_below (S := S) ((Below.refl _ _).alloc (Nat.le_refl _) _)).trans HM.out.2 (fun _ _ h => h)) (fun _ _ h => h)
  · rintro k (hk | ⟨hk, _⟩)
    · exact .inl hk
    · refine .inr ?_
      simp only [World.size_alloc] at hk
      have := HSZ.out
      omega

/-! ### Read -/
theorem rread_range (g : Nat) (i : Int) (D : Dk) (S : Nat → Prop) (w : World) (h : RefAt w S g D) (hi : i < 0 ∨ (D.secs.length : Int) ≤ i) :
    Calls Try.prog 53 #[.pointer (some ⟨g, 0, none⟩), .int .i64 i] w fun e w' => e = .returned (.tuple #[.string ⟨#[]⟩, .int .i64 4]) ∧ w = w' := by
  obtain ⟨vs, vw, h⟩ := h
  obtain ⟨c0, c1, c2, c3, hf⟩ := ref_cells h.blk
  obtain ⟨av, capv, rfl, _, _⟩ := h.secs.form
  clear h hf c1 c2 c3
  by_cases h0 : i < 0
  · go_enter Try.func53, Try.ntmps53
    go_wp2
    go_ret2
    exact ⟨rfl, rfl⟩
  · have h1 : (D.secs.length : Int) ≤ i := by omega
    have h2 : ¬ i < (D.secs.length : Int) := by omega
    go_enter Try.func53, Try.ntmps53
    go_wp2
    go_ret2
    exact ⟨rfl, rfl⟩
theorem rread_off (g : Nat) (i : Nat) (D : Dk) (S : Nat → Prop) (w : World) (h : RefAt w S g D) (hi : i < D.secs.length) (hp : D.power = false) :
    Calls Try.prog 53 #[.pointer (some ⟨g, 0, none⟩), .int .i64 i] w fun e w' => e = .returned (.tuple #[.string ⟨#[]⟩, .int .i64 10]) ∧ w = w' := by
  obtain ⟨vs, vw, h⟩ := h
  obtain ⟨c0, c1, c2, c3, hf⟩ := ref_cells h.blk
  obtain ⟨av, capv, rfl, _, _⟩ := h.secs.form
  rw [hp] at c3
  have h3 : (i : Int) < (D.secs.length : Int) := by omega
  have h4 : ¬ (D.secs.length : Int) ≤ (i : Int) := by omega
  have h5 : ¬ (i : Int) < 0 := by omega
  clear h hf c1 c2 hp
  go_enter Try.func53, Try.ntmps53
  go_wp2
  go_ret2
  exact ⟨rfl, rfl⟩

theorem over_take (ws : List (Nat × List UInt8)) (k i : Nat) (s : List UInt8) (hk : k < ws.length) : Dk.over (ws.take (k + 1)) i s = if ws[k].1 = i then ws[k].2 else Dk.over (ws.take k) i s := by
  rw [List.take_succ_eq_append_getElem hk, Dk.over_snoc]

theorem rread_yes (g : Nat) (i : Nat) (D : Dk) (S : Nat → Prop) (w : World) (h : RefAt w S g D) (hi : i < D.secs.length) (hp : D.power = true) :
    Calls Try.prog 53 #[.pointer (some ⟨g, 0, none⟩), .int .i64 i] w fun e w' => e = .returned (.tuple #[.string ⟨(D.content i).toArray⟩, .int .i64 0]) ∧ w = w' := by
  obtain ⟨vs, vw, h⟩ := h
  have HD := Lib.hid h
  obtain ⟨c0, c1, c2, c3, hf⟩ := ref_cells h.blk
  obtain ⟨gs, capv, rfl, _, _, _⟩ := h.secs.form' (by omega)
  obtain ⟨aw, capw, rfl, _, _⟩ := h.waits.form
  have cs : w.cell? ⟨gs, i, none⟩ = some (.string ⟨(D.secs.getD i []).toArray⟩) := by
    have := h.secs.cellAt i 0 (D.secs.getD i []) (by rw [List.getD, List.getElem?_eq_getElem hi]; rfl) (by omega)
    rw [show i * 1 + 0 = i by omega] at this
    exact this
  have hm : D.waits.length ≤ 1073741824 := h.ok.few
  rw [hp] at c3
  have h3 : (i : Int) < (D.secs.length : Int) := by omega
  have h4 : ¬ (D.secs.length : Int) ≤ (i : Int) := by omega
  have h5 : ¬ (i : Int) < 0 := by omega
  have HC := Lib.hid (show Dk.over D.waits i (D.secs.getD i []) = D.content i from rfl)
  clear h hf hp
  generalize D.secs.getD i [] = s0 at *
  go_enter Try.func53, Try.ntmps53
  go_wp2
  go_loop [6, 7] (fun s6 s7 => ∃ k : Nat, k ≤ D.waits.length ∧ s7 = .int .i64 k ∧ s6 = .string ⟨(Dk.over (D.waits.take k) i s0).toArray⟩) (fun _ s7 => D.waits.length - (intOf s7).toNat)
  case atStart => exact ⟨0, Nat.zero_le _, rfl, rfl⟩
  case round =>
    obtain ⟨k, hk, rfl, rfl⟩ := hrel
    by_cases hlt : k < D.waits.length
    · obtain ⟨gw, capw', hv, _, _, _⟩ := HD.out.waits.form' (by omega)
      simp only [Value.slice.injEq, true_and] at hv
      obtain ⟨rfl, rfl⟩ := hv
      have hx : D.waits[k]? = some D.waits[k] := List.getElem?_eq_getElem hlt
      have w0 : w.cell? ⟨gw, k * 2, none⟩ = some (.int .i64 (D.waits[k].1 : Int)) := HD.out.waits.cellAt k 0 _ hx (by omega)
      have w1 : w.cell? ⟨gw, k * 2 + 1, none⟩ = some (.string ⟨D.waits[k].2.toArray⟩) := HD.out.waits.cellAt k 1 _ hx (by omega)
      have hot := over_take D.waits k i s0 hlt
      have hlti : (k : Int) < (D.waits.length : Int) := by omega
      generalize D.waits[k] = x at *
      obtain ⟨xa, xs⟩ := x
      dsimp only at w0 w1 hot
      by_cases hxi : xa = i
      · rw [if_pos hxi] at hot
        have hb : ((xa : Int) == (i : Int)) = true := by rw [hxi]; simp
        have HT := Lib.hid hot
        clear hot hx hxi
        go_wp2
        go_round
        case rel => exact ⟨k + 1, by omega, by go_num, by rw [HT.out]⟩
        case measure => simp [intOf]; omega
      · rw [if_neg hxi] at hot
        have hb : ((xa : Int) == (i : Int)) = false := by rw [beq_eq_false_iff_ne]; omega
        have HT := Lib.hid hot
        clear hot hx hxi
        go_wp2
        go_round
        case rel => exact ⟨k + 1, by omega, by go_num, by rw [HT.out]⟩
        case measure => simp [intOf]; omega
    · obtain rfl : k = D.waits.length := by omega
      go_wp2
      go_ret2
      rw [← HC.out]
      exact ⟨rfl, rfl⟩

end Go.Proofs.Ytinfgfgmijjhjaa
