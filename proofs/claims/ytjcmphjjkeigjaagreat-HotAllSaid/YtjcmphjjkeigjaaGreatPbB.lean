/-
  A piece of the proof, laid together by program: DiskC Head DiskD DiskF Awake03 Two CrcMath JnMath.
-/
import Derived.Test.YtjcmphjjkeigjaaGreatPbA
import Derived.Deep.RegionLaw
import Derived.Deep.RegionHeld3
import Derived.RangeFuncNested
import Derived.RangeFuncBound
import Derived.RangeFuncCalls
import Derived.RangeFuncLeaves
import Derived.Shelf.Abstract
import Derived.Shelf.RegionOpen
import Derived.OwnWalkIn
import Derived.TacticsInMore
import Derived.LoopNIn
import Derived.LoopIn
import Derived.Deep.WholeRow

namespace Go.Proofs.YtjcmphjjkeigjaaGreat
open Go.RowKit
set_option linter.unusedVariables false
set_option linter.unusedSimpArgs false

theorem enter34 (args : Array Value) (u : World) : (callFunc 77 args).run Tryz.prog u = .ok (.enter 77 args) u := by
  simp [callFunc, Tryz.func77, Tryz.f77, go_sem]
theorem enter35 (args : Array Value) (u : World) : (callFunc 70 args).run Tryz.prog u = .ok (.enter 70 args) u := by
  simp [callFunc, Tryz.func70, Tryz.f70, go_sem]
theorem enter36 (args : Array Value) (u : World) : (callFunc 71 args).run Tryz.prog u = .ok (.enter 71 args) u := by
  simp [callFunc, Tryz.func71, Tryz.f71, go_sem]

theorem flush1_any (k : Nat) (w : World) : Calls Tryz.prog 77 #[.int .i64 k] w fun e w' => e = .returned (.bool true) ∧ w = w' := by
  go_enter Tryz.func77, Tryz.ntmps77
  go_wp2
  go_ret
  exact ⟨rfl, rfl⟩
theorem on1_any (k : Nat) (w : World) : Calls Tryz.prog 71 #[.int .i64 k] w fun e w' => e = .returned (.bool false) ∧ w = w' := by
  go_enter Tryz.func71, Tryz.ntmps71
  go_wp2
  go_ret
  exact ⟨rfl, rfl⟩
theorem cut1_any (k : Nat) (B : Nat) (a : Option Addr) (n cap : Nat) (L : List Bool) (w : World) (hk : k ≤ 1073741824) (hB : w.cell? ⟨B, 0, none⟩ = some (.slice a n cap)) (h : BoolsAt w a n cap L) :
    Calls Tryz.prog 70 #[.int .i64 k, .pointer (some ⟨B, 0, none⟩)] w fun e w' => e = .returned (.bool (Dk.keeps L k)) ∧ w = w' := by
  have hm : n ≤ 9223372036854775807 := by have := h.2.1; have := h.2.2.1; unfold maxLen at *; omega
  by_cases hlt : k < n
  · obtain ⟨b, off, rfl, _, hc⟩ := h.cell (by omega)
    have hck := hc k hlt
    have hi : (k : Int) < (n : Int) := by omega
    have HK := Lib.hid (show L.getD k false = Dk.keeps L k from rfl)
    generalize L.getD k false = x at *
    clear hc h
    go_enter Tryz.func70, Tryz.ntmps70
    go_wp2
    go_ret
    exact ⟨by rw [← HK.out]; rfl, rfl⟩
  · have hi : (n : Int) ≤ (k : Int) := by omega
    have hkk : Dk.keeps L k = false := by unfold Dk.keeps; rw [List.getD, List.getElem?_eq_none (by have := h.1; omega)]; rfl
    rw [hkk]
    clear h hkk
    go_enter Tryz.func70, Tryz.ntmps70
    go_wp2
    go_ret
    exact ⟨rfl, rfl⟩

theorem flush_no (g : Nat) (D : Dk) (S : Nat → Prop) (w : World) (h : DiskAt w S g D) (hc : D.can = false) :
    Calls Tryz.prog 28 #[.pointer (some ⟨g, 0, none⟩)] w (DiskTo (.int .i64 10) S g D.off w) := by
  have CS := Lib.hid (spend_no g D S w h hc)
  clear h hc
  go_enter Tryz.func28, Tryz.ntmps28
  go_wp2_with (go_at_call 75; refine (CS.out).mono ?_; rintro e w1 ⟨rfl, hd⟩)
  go_ret
  exact ⟨rfl, hd⟩

theorem flush_yes (g : Nat) (D : Dk) (S : Nat → Prop) (w : World) (h : DiskAt w S g D) (hc : D.can = true) :
    Calls Tryz.prog 28 #[.pointer (some ⟨g, 0, none⟩)] w (DiskTo (.int .i64 0) S g D.flushed w) := by
  have CS := Lib.hid (spend_yes g D S w h hc)
  clear h hc
  go_enter Tryz.func28, Tryz.ntmps28
  go_upto_region 4 with (go_at_call 75; refine (CS.out).mono ?_; rintro e w1 ⟨rfl, hd, ho, hs⟩)
  have CT := Lib.hid (settle_any 77 #[] (fun _ => true) g D.paid S w1 hd enter34 (fun k u hk _ => flush1_any k u))
  have HO := Lib.hid ho
  have HS := Lib.hid hs
  clear hd ho hs
  go_wp2_with (go_at_call 69; refine (CT.out).mono ?_; rintro e w2 ⟨rfl, S2, hd2, ho2, hs2⟩)
  go_ret
  exact ⟨rfl, S2, hd2, HO.out.trans ho2 (fun _ _ h => h), fun k hk => by rw [← HS.out]; exact hs2 k hk⟩

theorem on_any (g : Nat) (D : Dk) (S : Nat → Prop) (w : World) (h : DiskAt w S g D) :
    Calls Tryz.prog 23 #[.pointer (some ⟨g, 0, none⟩)] w (DiskTo (.tuple #[]) S g D.on w) := by
  have CT := Lib.hid (settle_any 71 #[] (fun _ => false) g D S w h enter36 (fun k u hk _ => on1_any k u))
  clear h
  go_enter Tryz.func23, Tryz.ntmps23
  go_upto_region 1 with (go_at_call 69; refine (CT.out).mono ?_; rintro e w2 ⟨rfl, S2, hd2, ho2, hs2⟩)
  have HD := Lib.hid hd2
  have HO := Lib.hid ho2
  obtain ⟨vs, vw, hd⟩ := hd2
  obtain ⟨c0, c1, c2, c3, hf⟩ := DiskAt.cells (S := S) hd.blk
  have f2 := hf 2
  have f3 := hf 3
  clear hd hf ho2
  go_wp2
  go_end0
  refine ⟨rfl, S2, (HD.out.setPower true).setBudget (-1) (by omega) (by omega), ?_, hs2⟩
  exact HO.out.trans ((Only.setCell (S := S2) _ _ _ HD.out.self).trans (Only.setCell (S := S2) _ _ _ HD.out.self) (fun _ _ h => h)) (fun i hi h => (hs2 i h).resolve_right (by omega))

theorem cut_any (g : Nat) (D : Dk) (S : Nat → Prop) (a : Option Addr) (n cap : Nat) (L : List Bool) (w : World) (h : DiskAt w S g D) (hL : BoolsAt w a n cap L) (hS : ∀ p, a = some p → 0 < n → ¬ S p.block) :
    Calls Tryz.prog 21 #[.pointer (some ⟨g, 0, none⟩), .slice a n cap] w (DiskTo (.tuple #[]) S g (D.cut L) w) := by
  have hb : Below w.heap.size w (w.alloc (.cells #[.slice a n cap] 38)) := (Below.refl _ _).alloc (Nat.le_refl _) _
  have CT := Lib.hid (settle_any 70 #[.pointer (some ⟨w.heap.size, 0, none⟩)] (Dk.keeps L) g D S (w.alloc (.cells #[.slice a n cap] 38)) (h.below hb) enter35 (fun k u hk ho =>
    cut1_any k w.heap.size a n cap L u (Nat.le_trans (Nat.le_of_lt hk) h.ok.few) (by
      rw [World.cell?_of_block (w := w.alloc (.cells #[.slice a n cap] 38)) (ho.block w.heap.size (by simp) (fun hs => by have := h.lt _ hs; omega))]
      rw [cell_of_row _ _ _ _ _ _ (heap_alloc_new w _)]; rfl)
      (CameAt.only (CameAt.below hL (by omega) hb) (by omega) ho hS)))
  have HB := Lib.hid hb
  clear h hL hS hb
  go_enter Tryz.func21, Tryz.ntmps21
  go_upto_region 2 with (go_at_call 69; refine (CT.out).mono ?_; rintro e w2 ⟨rfl, S2, hd2, ho2, hs2⟩)
  have HD := Lib.hid hd2
  have HO := Lib.hid ho2
  obtain ⟨vs, vw, hd⟩ := hd2
  obtain ⟨c0, c1, c2, c3, hf⟩ := DiskAt.cells (S := S) hd.blk
  have f2 := hf 2
  clear hd hf ho2
  go_wp2
  go_end0
  have hs3 : ∀ k, S2 k → S k ∨ w.heap.size ≤ k := fun k hk => (hs2 k hk).imp_right (fun h => by simp at h; omega)
  refine ⟨rfl, S2, HD.out.setPower false, ?_, hs3⟩
  exact (Only.of_below HB.out).trans (HO.out.trans (Only.setCell (S := S2) _ _ _ HD.out.self) (fun i hi h => (hs2 i h).resolve_right (by omega))) (fun i hi h => h)

/-! ### Write -/
theorem write_range (g : Nat) (i : Int) (D : Dk) (S : Nat → Prop) (v : Value) (w : World) (h : DiskAt w S g D) (hi : i < 0 ∨ (D.secs.length : Int) ≤ i) :
    Calls Tryz.prog 26 #[.pointer (some ⟨g, 0, none⟩), .int .i64 i, v] w fun e w' => e = .returned (.int .i64 4) ∧ w = w' := by
  have CT := Lib.hid (there_no g i D S w h hi)
  clear h hi
  go_enter Tryz.func26, Tryz.ntmps26
  go_wp2_with (go_at_call 72; refine (CT.out).mono ?_; rintro e w1 ⟨rfl, rfl⟩)
  go_ret
  exact ⟨rfl, rfl⟩

theorem write_arg (g : Nat) (i : Nat) (D : Dk) (S : Nat → Prop) (a : Option Addr) (n cap : Nat) (w : World) (h : DiskAt w S g D) (hi : i < D.secs.length) (hn : n ≠ 128) :
    Calls Tryz.prog 26 #[.pointer (some ⟨g, 0, none⟩), .int .i64 i, .slice a n cap] w fun e w' => e = .returned (.int .i64 1) ∧ w = w' := by
  have CT := Lib.hid (there_yes g i D S w h hi)
  have h1 : ((n : Int) == 128) = false := by simp; omega
  have h2 : ((n : Int) != 128) = true := by simp; omega
  clear h hi hn
  go_enter Tryz.func26, Tryz.ntmps26
  go_wp2_with (go_at_call 72; refine (CT.out).mono ?_; rintro e w1 ⟨rfl, rfl⟩)
  go_ret
  exact ⟨rfl, rfl⟩

theorem write_off (g : Nat) (i : Nat) (D : Dk) (S : Nat → Prop) (a : Option Addr) (cap : Nat) (w : World) (h : DiskAt w S g D) (hi : i < D.secs.length) (hc : D.can = false) :
    Calls Tryz.prog 26 #[.pointer (some ⟨g, 0, none⟩), .int .i64 i, .slice a 128 cap] w (DiskTo (.int .i64 10) S g D.off w) := by
  have CT := Lib.hid (there_yes g i D S w h hi)
  have CS := Lib.hid (spend_no g D S w h hc)
  clear h hi hc
  go_enter Tryz.func26, Tryz.ntmps26
  go_wp2_with (first
    | (go_at_call 72; refine (CT.out).mono ?_; rintro e w1 ⟨rfl, rfl⟩)
    | (go_at_call 75; refine (CS.out).mono ?_; rintro e w1 ⟨rfl, hd⟩))
  go_ret
  exact ⟨rfl, hd⟩

theorem run_arrayAtS (x : Addr) (c : Nat) (w : World) : (Instr.arrayAt 138 (.slice (some x) 128 c)).run Tryz.prog w = .ok (.pointer (some x)) w := by
  simp [Instr.arrayAt, run_underlying Tryz.underlying138]

theorem built_wait (i : Int) (l : List UInt8) (hl : l.length = 128) (w : World) :
    (Instr.build 141 #[(0, .int .i64 i), (1, .agg (vals l).toArray)]).run Tryz.prog w = .ok (.agg (Value.int .i64 i :: vals l).toArray) w := by
  obtain ⟨i0, hi, hz0, hz1, hz2⟩ := info_parts infoWait
  have := run_build_side (P := Tryz.prog) w 141 #[(0, .int .i64 i), (1, .agg (vals l).toArray)] _ [(0, 1), (1, 128)] i0 _ hi hz0 Tryz.underlying141 (by kernel_rfl) ⟨rfl, by simp [Value.cells, vals_length, hl], trivial⟩ (by simp [Value.cells, vals_length, hl])
  simpa [Value.cells] using this

theorem builtS_wait (x : Nat × List UInt8) (hl : x.2.length = 128) (w : World) :
    (Instr.buildSlice 85 1 #[(0, .agg (waitC x).toArray)]).run Tryz.prog w = .ok (.slice (some ⟨w.heap.size, 0, none⟩) 1 1) (w.alloc (.cells (waitC x).toArray 141)) := by
  obtain ⟨i0, hi, hz0, hz1, hz2⟩ := info_parts infoWait
  exact run_buildSlice_one w _ _ _ i0 _ 129 Tryz.underlying85 hi hz0 hz1 (by simp [waitC_length x hl]) (by omega) (by omega)

end Go.Proofs.YtjcmphjjkeigjaaGreat

namespace Go.Proofs.YtjcmphjjkeigjaaGreat
open Go.RowKit
set_option linter.unusedVariables false
set_option linter.unusedSimpArgs false

section
variable {P : Program} {ops : Array Oper} {Q : Exit → Act → World → Prop} {md : Region.Mode} {S : World → Prop}

theorem letsOut_of {Q : Exit → Act → World → Prop} (h : LetsOut (NoPanic Q)) : LetsOut Q := by
  obtain ⟨a, w, h⟩ := h
  exact ⟨a, w, h⟩

theorem wp_calm {o : Oper} {a : Act} {w : World} {K : Act → World → Prop} (hh : o.wp P a w K (NoPanic Q)) : o.wp P a w K Q := by
  unfold Oper.wp at *
  generalize (execOp a.eval o).run P w = r at *
  cases r with
  | ok n w' =>
    cases n <;> simp only [Oper.upon] at hh ⊢ <;>
      first
        | exact hh
        | exact Calls.mono hh (fun e w'' he => by cases e <;> first | exact he | exact (he : False).elim | exact letsOut_of he)
  | halt x w' => cases x <;> simp only [Oper.upon] at hh ⊢ <;> first | exact hh | exact (hh : False).elim

theorem wpOp_calm {i : Nat} {a : Act} {w : World} {K : Act → World → Prop} (hh : wpOp P ops (NoPanic Q) i K a w) : wpOp P ops Q i K a w := by
  unfold wpOp at *
  split
  · rename_i h; simpa [h] using hh
  · rename_i o h
    simp only [h] at hh
    split
    · rename_i hw
      simp only [hw, if_true] at hh
      exact hh.imp wp_calm fun ⟨h1, h2⟩ => ⟨h1, letsOut_of h2⟩
    · rename_i hw
      simpa [hw] using hh

/-- so many steps of the head, whichever comes up; then L -/
def wpHd (P : Program) (md : Region.Mode) (ops : Array Oper) (Q : Exit → Act → World → Prop) (S : World → Prop) (n : Nat) (L : Array Bool → Act → World → Prop) : Nat → Array Bool → Act → World → Prop
  | 0, listed, a, w => L listed a w
  | f + 1, listed, a, w => Region.ready md ops listed ≠ [] ∧ ∀ i ∈ Region.ready md ops listed, i < n ∧ wpOp P ops (NoPanic Q) i (fun a' w' => S w' ∧ wpHd P md ops Q S n L f (listed.setIfInBounds i true) a' w') a w

theorem wpAny_of_hd {n g : Nat} {L : Array Bool → Act → World → Prop} (hL : ∀ listed a w, L listed a w → wpAny P md ops Q g listed a w) :
    ∀ (f : Nat) (listed : Array Bool) (a : Act) (w : World), wpHd P md ops Q S n L f listed a w → wpAny P md ops Q (f + g) listed a w
  | 0, listed, a, w, h => by rw [Nat.zero_add]; exact hL _ _ _ h
  | f + 1, listed, a, w, h => by
    rw [show f + 1 + g = (f + g) + 1 by omega]
    exact ⟨fun h0 => absurd h0 h.1, fun i hi => wpOp_mono (fun a' w' h' => wpAny_of_hd hL f _ a' w' h'.2) (wpOp_calm (h.2 i hi).2)⟩

theorem wpHd_first {n i : Nat} {oi : Oper} {v : Value} {L : Array Bool → Act → World → Prop} (hi : ops[i]? = some oi) (hsel : ∀ (j : Nat) (o : Oper) cs b, ops[j]? = some o → o.op ≠ .select cs b)
    (hin : i < n) (hT : ∀ t, n ≤ t → t < ops.size → Region.waitsFor md ops t i = true) (hdone : ∀ listed a w, L listed a w → ∀ j ∈ Region.ready md ops listed, n ≤ j) :
    ∀ (f : Nat) (listed : Array Bool) (a : Act) (w : World),
      (∀ j oj, ops[j]? = some oj → j ≠ i → listed.getD j true = false → (∀ e ∈ oj.after, Region.binds md e = true → e.on ≠ i) → oi.apart ops oj = true) →
      i ∈ Region.ready md ops listed → YieldsIf P ops S oi v a → S w →
      wpHd P md ops Q S n L f (listed.setIfInBounds i true) (a.put oi.dst v) w → wpHd P md ops Q S n L (f + 1) listed a w := by
  have early : ∀ (listed : Array Bool), i ∈ Region.ready md ops listed → ∀ j ∈ Region.ready md ops listed, j < n := fun listed hr j hj => by
    rcases Nat.lt_or_ge j n with h | h
    · exact h
    · obtain ⟨_, oj, hoj, hall⟩ := mem_ready.1 hj
      obtain ⟨oj', hoj', e, he, hb, hon⟩ := Region.waitsFor_spec (hT j h (Array.getElem?_eq_some_iff.1 hoj).1)
      have : oj' = oj := Option.some.inj (hoj'.symm.trans hoj)
      subst this
      have h1 := hall e he hb
      rw [hon, getD_both (mem_ready.1 hr).1] at h1
      cases h1
  intro f
  induction f with
  | zero =>
    intro listed a w _ hr hy hS H
    refine ⟨fun h => (by rw [h] at hr; cases hr), fun j hj => ⟨early listed hr j hj, ?_⟩⟩
    by_cases hji : j = i
    · subst hji; exact hy.wpOp hi hS ⟨hS, H⟩
    · have := hdone _ _ _ H j (ready_mono hj hji)
      have := early listed hr j hj
      omega
  | succ f ih =>
    intro listed a w hfree hr hy hS H
    refine ⟨fun h => (by rw [h] at hr; cases hr), fun j hj => ⟨early listed hr j hj, ?_⟩⟩
    by_cases hji : j = i
    · subst hji; exact hy.wpOp hi hS ⟨hS, H⟩
    · have h1 := (H.2 j (ready_mono hj hji)).2
      obtain ⟨hjun, oj, hoj, hall⟩ := mem_ready.1 hj
      have hnot : ∀ e ∈ oj.after, Region.binds md e = true → e.on ≠ i := fun e he hb heq => by
        have h1 := hall e he hb
        rw [heq, getD_both (mem_ready.1 hr).1] at h1
        cases h1
      have h2 := wpOp_putIf (Q := NoPanic Q) hoj (hfree j oj hoj hji hjun hnot) (fun cs b => hsel i oi cs b hi) (fun cs b => hsel j oj cs b hoj) (fun _ _ _ h => h) hy h1
      have hfree' : ∀ k ok, ops[k]? = some ok → k ≠ i → (listed.setIfInBounds j true).getD k true = false →
          (∀ e ∈ ok.after, Region.binds md e = true → e.on ≠ i) → oi.apart ops ok = true := fun k ok hk hki hun hno => by
        refine hfree k ok hk hki ?_ hno
        by_cases hjk : j = k
        · subst hjk; exact hjun
        · rw [getD_set_ne true hjk] at hun; exact hun
      refine wpOp_mono (fun a' w' h3 => ⟨h3.2.1, ih (listed.setIfInBounds j true) a' w' hfree' (ready_mono hr (Ne.symm hji)) h3.1 h3.2.1 ?_⟩) h2
      rw [Array.setIfInBounds_comm _ _ hji]
      exact h3.2.2

/-- the operations of these numbers -/
def pickO (l : List Oper) (order : List Nat) : List (Nat × Oper) := order.filterMap fun i => (l[i]?).map fun o => (i, o)

/-- the head in an order of our choice: reads yield under S; a mover (its number in M) is carried out, and S is shown anew -/
def wpSeqH (P : Program) (ops : Array Oper) (Q : Exit → Act → World → Prop) (S : World → Prop) (M : List Nat) (L : Act → World → Prop) : List (Nat × Oper) → Act → World → Prop
  | [], a, w => L a w
  | (k, o) :: rest, a, w =>
    if M.contains k then
      if Region.wanted o (yielded ops a.tmps) = true then o.wp P a w (fun a' w' => S w' ∧ wpSeqH P ops Q S M L rest a' w') (NoPanic Q) else S w ∧ wpSeqH P ops Q S M L rest (a.put o.dst undef) w
    else ∃ v, YieldsIf P ops S o v a ∧ wpSeqH P ops Q S M L rest (a.put o.dst v) w

def lexM (md : Region.Mode) (ops : Array Oper) (M : List Nat) (g n : Nat) : List Nat → Array Bool → Bool
  | [], listed => Region.seqB md ops g n listed
  | k :: r, listed => decide (k < n) && (if M.contains k then decide (Region.ready md ops listed = [k]) else (Region.ready md ops listed).contains k && Region.free md ops listed k) && lexM md ops M g n r (listed.setIfInBounds k true)

def headB (md : Region.Mode) (ops : Array Oper) (n : Nat) (order M : List Nat) : Bool :=
  Region.noSelect ops && decide (n ≤ ops.size) && decide (order.length = n) && ((List.range ops.size).all fun t => decide (t < n) || (List.range n).all fun i => Region.waitsFor md ops t i) && lexM md ops M (ops.size - n) n order (Array.replicate ops.size false)

theorem wpHd_lex {n g : Nat} {M : List Nat} {l0 : List Oper} {Lq : Act → World → Prop} (hops : ops = l0.toArray) (hsz : n ≤ ops.size) (hsel : Region.noSelect ops = true) (hT : ∀ i, i < n → ∀ t, n ≤ t → t < ops.size → Region.waitsFor md ops t i = true) :
    ∀ (order : List Nat) (listed : Array Bool) (a : Act) (w : World), S w →
    lexM md ops M g n order listed = true → wpSeqH P ops Q S M Lq (pickO l0 order) a w →
    wpHd P md ops Q S n (fun listed' a' w' => Region.seqB md ops g n listed' = true ∧ Lq a' w') order.length listed a w
  | [], listed, a, w, hS, hB, h => ⟨by simpa [lexM] using hB, h⟩
  | k :: l, listed, a, w, hS, hB, h => by
    simp only [lexM, Bool.and_eq_true, decide_eq_true_eq] at hB
    obtain ⟨⟨hkn, hB1⟩, hB2⟩ := hB
    obtain ⟨o, h0⟩ : ∃ o, ops[k]? = some o := ⟨ops[k]'(by omega), Array.getElem?_eq_getElem _⟩
    have h0l : l0[k]? = some o := by rw [hops] at h0; simpa using h0
    rw [show pickO l0 (k :: l) = (k, o) :: pickO l0 l by simp [pickO, h0l]] at h
    unfold wpSeqH at h
    by_cases hm : M.contains k = true
    · rw [if_pos hm] at hB1 h
      have hr : Region.ready md ops listed = [k] := by simpa using hB1
      refine ⟨by rw [hr]; simp, fun i hi => ?_⟩
      rw [hr] at hi
      have hik : i = k := by simpa using hi
      subst hik
      refine ⟨hkn, ?_⟩
      unfold wpOp
      simp only [h0]
      split at h
      · rename_i hw
        rw [if_pos hw]
        exact .inl (Oper.wp_mono (fun a' w' h' => ⟨h'.1, wpHd_lex hops hsz hsel hT l _ a' w' h'.1 hB2 h'.2⟩) h)
      · rename_i hw
        rw [if_neg hw]
        exact ⟨h.1, wpHd_lex hops hsz hsel hT l _ _ w hS hB2 h.2⟩
    · rw [if_neg hm] at hB1 h
      simp only [Bool.and_eq_true] at hB1
      obtain ⟨v, hy, hK⟩ := h
      exact wpHd_first h0 (Region.noSelect_spec hsel) hkn (hT k hkn) (fun listed' a' w' hL => seqB_ready hL.1) l.length listed a w (Region.free_spec h0 hB1.2) (by simpa using hB1.1) hy hS
        (wpHd_lex hops hsz hsel hT l _ _ w hS hB2 hK)

/-- THE LAW -/
theorem region_head {id : Nat} {a : Act} {w : World} {l : List Oper} (n : Nat) (order M : List Nat) (S : World → Prop) (hm : P.follows .mixedOrders = true) (hB : headB .any l.toArray n order M = true) (hS : S w.drew)
    (h : wpSeqH P l.toArray Q S M (fun a' w' => wpList P l.toArray Q (l.drop n) a' w') (pickO l order) a w.drew) : (Code.region id l.toArray true).wp P Q a w := by
  simp only [headB, Bool.and_eq_true, decide_eq_true_eq, List.all_eq_true, List.mem_range, Bool.or_eq_true] at hB
  obtain ⟨⟨⟨⟨hB1, hB2⟩, hlen⟩, hB3⟩, hB4⟩ := hB
  have hn : n ≤ l.length := by simpa using hB2
  have hg : l.toArray.size = n + (l.toArray.size - n) := by simp; omega
  have key : wpAny P .any l.toArray Q (n + (l.toArray.size - n)) (Array.replicate l.toArray.size false) a w.drew := by
    refine wpAny_of_hd (n := n) (S := S) (L := fun listed' a' w' => Region.seqB .any l.toArray (l.toArray.size - n) n listed' = true ∧ wpList P l.toArray Q (l.drop n) a' w') ?_ n _ a _ ?_
    · intro listed a' w' ⟨h1, h2⟩
      have hd : (l.drop n).length = l.toArray.size - n := by simp
      rw [← hd] at h1 ⊢
      exact wpAny_of_seq (l.drop n) n listed a' w' (fun j => by simp [List.getElem?_drop]) h1 h2
    · have := wpHd_lex (P := P) (Q := Q) (S := S) (n := n) (g := l.toArray.size - n) (M := M) (Lq := fun a' w' => wpList P l.toArray Q (l.drop n) a' w') (md := .any) (ops := l.toArray) (l0 := l) rfl hB2 hB1
        (fun i hi t ht1 ht2 => ((hB3 t ht2).resolve_left (by omega)) i hi) order (Array.replicate l.toArray.size false) a w.drew hS hB4 h
      rw [hlen] at this
      exact this
  rw [← hg] at key
  exact wp_region_any hm key

theorem seqH_nil {M : List Nat} {L : Act → World → Prop} {a : Act} {w : World} (h : L a w) : wpSeqH P ops Q S M L [] a w := h
/-- a read: it yields under S -/
theorem seqH_read {M : List Nat} {L : Act → World → Prop} {k : Nat} {o : Oper} {rest : List (Nat × Oper)} {a : Act} {w : World} (v : Value) (hm : M.contains k = false) (hg : o.guard = none)
    (hv : ∀ u, S u → (execOp a.eval o).run P u = .ok (.value v) u) (h : wpSeqH P ops Q S M L rest (a.put o.dst v) w) : wpSeqH P ops Q S M L ((k, o) :: rest) a w := by
  unfold wpSeqH
  rw [if_neg (by rw [hm]; simp)]
  exact ⟨v, .inl ⟨by simp [Region.wanted, hg], hv⟩, h⟩
/-- a mover -/
theorem seqH_move {M : List Nat} {L : Act → World → Prop} {k : Nat} {o : Oper} {rest : List (Nat × Oper)} {a : Act} {w : World} (hm : M.contains k = true) (hg : o.guard = none)
    (h : ∀ K : Act → World → Prop, (∀ a' w', S w' → wpSeqH P ops Q S M L rest a' w' → K a' w') → o.wp P a w K (NoPanic Q)) : wpSeqH P ops Q S M L ((k, o) :: rest) a w := by
  unfold wpSeqH
  rw [if_pos hm, if_pos (by simp [Region.wanted, hg])]
  exact h _ fun a' w' h1 h2 => ⟨h1, h2⟩
/-- a read behind a guard that is met -/
theorem seqH_readG {M : List Nat} {L : Act → World → Prop} {k : Nat} {o : Oper} {rest : List (Nat × Oper)} {a : Act} {w : World} (v : Value) (hm : M.contains k = false) (hw : Region.wanted o (yielded ops a.tmps) = true)
    (hv : ∀ u, S u → (execOp a.eval o).run P u = .ok (.value v) u) (h : wpSeqH P ops Q S M L rest (a.put o.dst v) w) : wpSeqH P ops Q S M L ((k, o) :: rest) a w := by
  unfold wpSeqH
  rw [if_neg (by rw [hm]; simp)]
  exact ⟨v, .inl ⟨hw, hv⟩, h⟩
/-- an operation whose guard is not met -/
theorem seqH_skip {M : List Nat} {L : Act → World → Prop} {k : Nat} {o : Oper} {rest : List (Nat × Oper)} {a : Act} {w : World} (hm : M.contains k = false) (hw : Region.wanted o (yielded ops a.tmps) = false)
    (h : wpSeqH P ops Q S M L rest (a.put o.dst undef) w) : wpSeqH P ops Q S M L ((k, o) :: rest) a w := by
  unfold wpSeqH
  rw [if_neg (by rw [hm]; simp)]
  exact ⟨undef, .inr ⟨hw, rfl⟩, h⟩
/-- a mover behind a guard that is met -/
theorem seqH_moveG {M : List Nat} {L : Act → World → Prop} {k : Nat} {o : Oper} {rest : List (Nat × Oper)} {a : Act} {w : World} (hm : M.contains k = true) (hw : Region.wanted o (yielded ops a.tmps) = true)
    (h : ∀ K : Act → World → Prop, (∀ a' w', S w' → wpSeqH P ops Q S M L rest a' w' → K a' w') → o.wp P a w K (NoPanic Q)) : wpSeqH P ops Q S M L ((k, o) :: rest) a w := by
  unfold wpSeqH
  rw [if_pos hm, if_pos hw]
  exact h _ fun a' w' h1 h2 => ⟨h1, h2⟩
/-- a mover whose guard is not met -/
theorem seqH_moveSkip {M : List Nat} {L : Act → World → Prop} {k : Nat} {o : Oper} {rest : List (Nat × Oper)} {a : Act} {w : World} (hm : M.contains k = true) (hw : Region.wanted o (yielded ops a.tmps) = false) (hS : S w)
    (h : wpSeqH P ops Q S M L rest (a.put o.dst undef) w) : wpSeqH P ops Q S M L ((k, o) :: rest) a w := by
  unfold wpSeqH
  rw [if_pos hm, if_neg (by rw [hw]; simp)]
  exact ⟨hS, h⟩
/-- the whole of an array or a struct, read -/
theorem seqH_load_mid {M : List Nat} {L : Act → World → Prop} {k : Nat} {o : Oper} {rest : List (Nat × Oper)} {a : Act} {w : World} (hm : M.contains k = false) (hg : o.guard = none) (ty : TypeId) (x : Operand) (ho : o.op = .load ty x)
    (b off : Nat) (hx : a.eval x = .pointer (some ⟨b, off, none⟩)) (cs : List Value) (d : TypeDesc) (hc : ∀ u, S u → u.rangeAt b off cs)
    (hu : P.underlying ty = some d) (hd : d.isRow = true) (hi : (P.info? ty).map (·.size) = some cs.length)
    (h : wpSeqH P ops Q S M L rest (a.put o.dst (.agg cs.toArray)) w) : wpSeqH P ops Q S M L ((k, o) :: rest) a w := by
  refine seqH_read _ hm hg (fun u hS => ?_) h
  unfold execOp
  simp only [ho, hx, Instr.loadAt, Instr.sureAddr, Sem.run_bind, Sem.run_pure, Result.andThen_ok, run_loadVar_mid u b off ty cs d (hc u hS) hu hd hi]
/-- a struct or an array is built -/
theorem seqH_build {M : List Nat} {L : Act → World → Prop} {k : Nat} {o : Oper} {rest : List (Nat × Oper)} {a : Act} {w : World} (hm : M.contains k = false) (hg : o.guard = none) (t : TypeId) (parts : Array (Nat × Operand)) (ho : o.op = .build t parts)
    (vs : Array (Nat × Value)) (hp : (parts.map fun (i, x) => (i, a.eval x)) = vs) (v : Value) (hv : ∀ u, (Instr.build t vs).run P u = .ok v u)
    (h : wpSeqH P ops Q S M L rest (a.put o.dst v) w) : wpSeqH P ops Q S M L ((k, o) :: rest) a w := by
  refine seqH_read v hm hg (fun u hS => ?_) h
  unfold execOp
  simp only [ho, Sem.run_bind, hp, hv u, Result.andThen_ok]
  rfl
theorem wp_buildSliceV {o : Oper} {a : Act} {w : World} {K : Act → World → Prop} (t : TypeId) (len : Nat) (parts : Array (Nat × Operand)) (ho : o.op = .buildSlice t len parts)
    (vs : Array (Nat × Value)) (hp : (parts.map fun (i, x) => (i, a.eval x)) = vs) (v : Value) (w' : World) (hv : (Instr.buildSlice t len vs).run P w = .ok v w') (h : K (a.put o.dst v) w') : o.wp P a w K Q := by
  unfold Oper.wp execOp
  simp only [ho, Sem.run_bind, hp, hv, Result.andThen_ok]
  exact h
theorem wpList_buildSliceV {rest : List Oper} {o : Oper} {a : Act} {w : World} (hg : o.guard = none) (t : TypeId) (len : Nat) (parts : Array (Nat × Operand)) (ho : o.op = .buildSlice t len parts)
    (vs : Array (Nat × Value)) (hp : (parts.map fun (i, x) => (i, a.eval x)) = vs) (v : Value) (w' : World) (hv : (Instr.buildSlice t len vs).run P w = .ok v w') (h : wpList P ops Q rest (a.put o.dst v) w') : wpList P ops Q (o :: rest) a w :=
  wpList_plain hg fun _ hK => wp_buildSliceV t len parts ho vs hp v w' hv (hK _ _ h)
end

end Go.Proofs.YtjcmphjjkeigjaaGreat

namespace Go.Proofs.YtjcmphjjkeigjaaGreat
open Go.RowKit
set_option linter.unusedVariables false
set_option linter.unusedSimpArgs false

theorem DiskIs.moreWaits {w w' : World} {S : Nat → Prop} {g : Nat} {D : Dk} {vs vw v' : Value} (h : DiskIs w S g D vs vw) (x : Nat × List UInt8) (hok : ({ D with waits := D.waits ++ [x] } : Dk).Ok) (hr : Recs waitC w' 141 129 v' (D.waits ++ [x])) (hg : w.grownBy w' vw.ownBlock) (hv : v'.ownBlock = vw.ownBlock ∨ v'.ownBlock = some w.heap.size) :
    DiskIs (w'.setCell ⟨g, 1, none⟩ v') (fun k => S k ∨ (w.heap.size ≤ k ∧ k < w'.heap.size)) g { D with waits := D.waits ++ [x] } vs v' ∧ Only S w (w'.setCell ⟨g, 1, none⟩ v') := by
  have hne : some g ≠ vw.ownBlock := fun e => h.waits.ne_of h.blk (by decide) g e.symm rfl
  have hblk := (hg.block g (h.lt g h.self) hne).trans h.blk
  have hsecs : Recs vals w' 138 128 vs D.secs := h.secs.keep fun k hk => hg.block k (h.secs.lt k hk) (fun e => h.secs.ne_own h.waits (by decide) k hk e.symm)
  refine ⟨⟨hok, fun k hk => ?_, .inl h.self, ?_, ?_, ?_, fun k hk => .inl (h.inS k hk), fun k hk => ?_⟩, ?_⟩
  · rcases hk with hk | hk
    · have := h.lt k hk; have := hg.size; simp [World.setCell]; omega
    · simpa [World.setCell] using hk.2
  · rw [heap_setCell_same _ _ _ _ _ _ hblk]; rfl
  · exact hsecs.keep fun k hk => heap_setCell_other _ _ _ _ (hsecs.ne_of hblk (by decide) k hk)
  · exact hr.keep fun k hk => heap_setCell_other _ _ _ _ (hr.ne_of hblk (by decide) k hk)
  · rcases hv with hv | hv
    · exact .inl (h.inW k (by rw [← hv]; exact hk))
    · rw [hv] at hk
      injection hk with hk
      subst hk
      exact .inr ⟨Nat.le_refl _, hr.lt _ hv⟩
  · exact (Only.of_grown (S := S) hg (fun k hk => h.inW k hk)).trans (Only.setCell (S := S) _ _ _ h.self) (fun _ _ h => h)

set_option maxHeartbeats 1000000 in
set_option maxRecDepth 100000 in
theorem write_yes (g : Nat) (i : Nat) (D : Dk) (S : Nat → Prop) (a : Option Addr) (cap : Nat) (l : List UInt8) (w : World) (h : DiskAt w S g D) (hi : i < D.secs.length) (hc : D.can = true) (hf : D.waits.length < 1073741824)
    (hl : BytesAt w a 128 cap l) (hS : ∀ p, a = some p → ¬ S p.block) :
    Calls Tryz.prog 26 #[.pointer (some ⟨g, 0, none⟩), .int .i64 i, .slice a 128 cap] w (DiskTo (.int .i64 0) S g (D.put i l) w) := by
  have CT := Lib.hid (there_yes g i D S w h hi)
  have CS := Lib.hid (spend_yes g D S w h hc)
  have HLT := Lib.hid h.lt
  have HBY := Lib.hid hl
  have HS := Lib.hid hS
  have HOK := Lib.hid (h.ok.put hc i l hi hl.1 hf)
  have hll := hl.1
  have HLL := Lib.hid hll
  obtain ⟨b, off, rfl, _⟩ := hl.at (by omega)
  clear h hi hc hl hS hll
  go_enter Tryz.func26, Tryz.ntmps26
  go_upto_region 8 with (first
    | (go_at_call 72; refine (CT.out).mono ?_; rintro e w1 ⟨rfl, rfl⟩)
    | (go_at_call 75; refine (CS.out).mono ?_; rintro e w1 ⟨rfl, hd, ho, hs⟩))
  obtain ⟨vs, vw, hd⟩ := hd
  obtain ⟨c0, c1, c2, c3, hfz⟩ := DiskAt.cells (S := S) hd.blk
  have f1 := hfz 1
  obtain ⟨av, capv, rfl, hvl, hvm⟩ := hd.waits.form
  have hby := HBY.out.only ho HS.out
  obtain ⟨b', off', he, hcell⟩ := hby.at (by omega)
  simp only [Option.some.injEq, Addr.mk.injEq, and_true] at he
  obtain ⟨rfl, rfl⟩ := he
  have hrange : w1.drew.rangeAt b off (vals l) := fun j u hu => by
    have hj : j < 128 := by have := (List.getElem?_eq_some_iff.1 hu).1; rw [vals_length, HLL.out] at this; exact this
    have := hcell j hj
    rw [vals_at l j (by rw [HLL.out]; exact hj)] at hu
    rw [← hu]; exact this
  have harr := run_arrayAtS ⟨b, off, none⟩ cap
  have hbuild := built_wait i l HLL.out
  have hslice := builtS_wait (i, l) HLL.out
  unfold waitC at hslice
  dsimp only at hslice
  have HD := Lib.hid hd
  have HO := Lib.hid ho
  have HSZ := Lib.hid hs
  have HR := Lib.hid hrange
  have hd' : DiskIs w1.drew S g D.paid vs (.slice av D.paid.waits.length capv) := hd.below ((Below.refl _ _).drew)
  have HDD := Lib.hid hd'
  have hgl : g < w1.drew.heap.size := hd'.lt g hd'.self
  have HGL := Lib.hid hgl
  have HF1 := Lib.hid f1
  obtain ⟨i0, hi0, hz0, hz1, hz2⟩ := info_parts infoWait
  clear hd ho hs hfz c0 c2 c3 hcell hby hvl hvm hd' hgl f1
  refine region_head 12 [0, 1, 2, 3, 4, 5, 6, 7, 8, 9, 10, 11] [10, 11] (fun u => u.rangeAt b off (vals l) ∧ u.cell? ⟨g, 1, none⟩ = some (.slice av D.paid.waits.length capv)) (by kernel_rfl) (by kernel_rfl) ⟨hrange, c1⟩ ?_
  clear hrange c1
  simp only [pickO, List.filterMap_cons, List.filterMap_nil, List.getElem?_cons_zero, List.getElem?_cons_succ, Option.map_some, List.drop_succ_cons, List.drop_zero]
  iterate 8
    refine seqH_read _ rfl rfl (by rintro u ⟨hu1, hu2⟩; clear hu1; go_simp; with_reducible rfl) ?_
    simp only [Act.put, List.setIfInBounds_toArray, List.set_cons_zero, List.set_cons_succ]
  refine seqH_load_mid rfl rfl 138 _ rfl b off rfl (vals l) _ (fun u hu => hu.1) Tryz.underlying138 rfl (by rw [vals_length, HLL.out]; exact sizeSec) ?_
  simp only [Act.put, List.setIfInBounds_toArray, List.set_cons_zero, List.set_cons_succ]
  refine seqH_build rfl rfl 141 _ rfl _ (by simp [go_sem]) _ hbuild ?_
  simp only [Act.put, List.setIfInBounds_toArray, List.set_cons_zero, List.set_cons_succ]
  refine seqH_move rfl rfl (fun K hK => ?_)
  refine wp_buildSliceV 85 1 _ rfl _ (by simp [go_sem]) _ _ (hslice _) ?_
  refine hK _ _ ⟨World.rangeAt_alloc HR.out _, ?_⟩ ?_
  · rw [World.cell?_alloc_lt _ _ _ (by exact HGL.out)]; exact (DiskAt.cells (S := S) HDD.out.blk).2.1
  clear hK K
  simp only [Act.put, List.setIfInBounds_toArray, List.set_cons_zero, List.set_cons_succ]
  have hda : DiskIs (w1.drew.alloc (.cells (waitC (i, l)).toArray 141)) S g D.paid vs (.slice av D.paid.waits.length capv) := HDD.out.below ((Below.refl _ _).alloc (Nat.le_refl _) _)
  have hfew : D.paid.waits.length < 1073741824 := hf
  refine seqH_move rfl rfl (fun K hK => ?_)
  refine wp_append_recs _ _ 85 rfl 141 i0 _ 129 136 Tryz.underlying85 hi0 hz0 hz1 hz2 (by simp [Value.cells]) (by omega) _ _ rfl hda.waits ⟨w1.drew.heap.size, 0, none⟩ 1 1 [(i, l)] rfl rfl (by
      intro y hy; simp only [List.mem_singleton] at hy; subst hy; exact waitC_length _ HLL.out) (fun y hy => waitC_one y) (one_rec (heap_alloc_new w1.drew _)) (by unfold maxLen; omega) (by omega) ?_
  intro v' w' hr' hg' hv'
  obtain ⟨av', capv', hv0, _, _⟩ := hr'.form
  rw [List.length_append, List.length_singleton] at hv0
  subst hv0
  have hm := hda.moreWaits (i, l) HOK.out hr' hg' hv'
  have hgr : some b ≠ (Value.slice av D.paid.waits.length capv).ownBlock := fun e => HS.out ⟨b, off, none⟩ rfl (HD.out.inW b e.symm)
  have hgr2 : some g ≠ (Value.slice av D.paid.waits.length capv).ownBlock := fun e => hda.waits.ne_of hda.blk (by decide) g e.symm rfl
  have hblk := (hg'.block g (hda.lt g hda.self) hgr2).trans hda.blk
  have hrg : w'.rangeAt b off (vals l) := fun j u hu => hg'.cell (World.rangeAt_alloc HR.out _ j u hu) hgr
  obtain ⟨d0, d1, d2, d3, df⟩ := DiskAt.cells (S := S) hblk
  have df1 := df 1
  refine hK _ _ ⟨hrg, d1⟩ ?_
  have HM := Lib.hid hm
  clear hK K hblk hrg d0 d2 d3 df hgr hgr2 hr' hg' hv' hda hm
  simp only [Act.put, List.setIfInBounds_toArray, List.set_cons_zero, List.set_cons_succ]
  refine seqH_nil ?_
  go_wp2
  go_ret
  refine ⟨rfl, _, ⟨_, _, HM.out.1⟩, ?_, ?_⟩
  · exact HO.out.trans ((Only.of_below (S := S) (((Below.refl _ _).drew).alloc (Nat.le_refl _) _)).trans HM.out.2 (fun _ _ h => h)) (fun _ _ h => h)
  · rintro k (hk | ⟨hk, _⟩)
    · exact .inl hk
    · refine .inr ?_
      simp only [World.size_alloc] at hk
      have := HSZ.out
      have e : w1.drew.heap.size = w1.heap.size := rfl
      omega

/-! ### Waits -/
end Go.Proofs.YtjcmphjjkeigjaaGreat

namespace Go.Proofs.YtjcmphjjkeigjaaGreat
open Go.RowKit Go.Shelf
set_option linter.unusedVariables false
set_option linter.unusedSimpArgs false
attribute [local go_sem] Oper.semAt_some

theorem wpListIn_load_mid {F : Fence} {n : Nat} {P : Program} {ops : Array Oper} {rest : List Oper} {o : Oper} {a : Act} {w : World} {Q : Exit → Act → World → Prop} (hgd : o.guard = none) (ty : TypeId) (x : Operand) (ho : o.op = .load ty x)
    (b off : Nat) (hx : a.eval x = .pointer (some ⟨b, off, none⟩)) (cs : List Value) (d : TypeDesc) (hc : w.rangeAt b off cs)
    (hu : P.underlying ty = some d) (hd : d.isRow = true) (hi : (P.info? ty).map (·.size) = some cs.length)
    (h : wpListIn F n P ops Q rest (a.put o.dst (.agg cs.toArray)) w) : wpListIn F n P ops Q (o :: rest) a w := by
  refine wpListIn_plain hgd fun K hK => ?_
  unfold Oper.wpIn
  refine ⟨by simp [Oper.about, ho], ?_⟩
  rw [Oper.semAt_plain F _ _ (by rw [ho]; intro c hc'; cases hc')]
  simp only [execOp, ho, hx, Instr.loadAt, Instr.sureAddr, Sem.run_bind, Sem.run_pure, Result.andThen_ok, run_loadVar_mid w b off ty cs d hc hu hd hi]
  exact hK _ _ h
theorem wpListIn_store_row {F : Fence} {n : Nat} {P : Program} {ops : Array Oper} {rest : List Oper} {o : Oper} {a : Act} {w : World} {Q : Exit → Act → World → Prop} (hgd : o.guard = none) (ty : TypeId) (x y : Operand) (ho : o.op = .store ty x y)
    (g : Nat) (cells : Array Value) (hx : a.eval x = .pointer (some ⟨g, 0, none⟩)) (hy : a.eval y = .agg cells)
    (t : TypeId) (old : Array Value) (hg : w.heap[g]? = some (.cells old t (0, 0))) (hi : (P.info? ty).map (·.size) = some cells.size)
    (hold : old.size = cells.size) (h1 : cells.all (·.oneCell') = true)
    (h : wpListIn F n P ops Q rest (a.put o.dst undef) (w.setRow g cells)) : wpListIn F n P ops Q (o :: rest) a w := by
  refine wpListIn_plain hgd fun K hK => ?_
  unfold Oper.wpIn
  refine ⟨by simp [Oper.about, ho], ?_⟩
  rw [Oper.semAt_plain F _ _ (by rw [ho]; intro c hc'; cases hc')]
  simp only [execOp, ho, hx, hy, Instr.storeAt, Instr.sureAddr, Sem.run_bind, Sem.run_pure, Result.andThen_ok, run_storeVar_row w g t ty old cells hg hi hold h1]
  exact hK _ _ h

set_option maxRecDepth 100000 in
set_option maxHeartbeats 2000000 in
/-- slices.Backward's closure: from the last to the first, for every loop body that keeps what lay below n₀ -/
theorem back1_in (F : Fence) (n : Nat) (hF : F.fn 157) (hro : F.round = none) (hn : 1 ≤ n) (l Bs n₀ : Nat) (v : Value) (T : List (Nat × List UInt8)) (hm : T.length ≤ 1073741824)
    (J Jx : List (Fin T.length) → World → Prop)
    (hY : ∀ pre (x : Fin T.length) W, J pre W → pre.length < T.length → YieldAt F (n - 1) Tryz.prog l #[.int .i64 (x.1 : Int), .agg (waitC (T[x.1]'x.2)).toArray] W fun e W' =>
      (e = .returned (.bool true) ∧ J (pre ++ [x]) W' ∧ Below n₀ W W') ∨ (e = .returned (.bool false) ∧ Jx (pre ++ [x]) W'))
    (W : World) (hBs : W.cell? ⟨Bs, 0, none⟩ = some v) (hBl : Bs < n₀) (hv : ∀ k, v.ownBlock = some k → k < n₀) (hR : Recs waitC W 141 129 v T) (h0 : J [] W) :
    CallsIn F n Tryz.prog 157 #[.func (.yield l) #[] #[], .pointer (some ⟨Bs, 0, none⟩)] W fun e W' => (∃ v, e = .returned v) ∧
      ((∃ ys, (∀ j, j ∈ ys) ∧ J ys W') ∨ (∃ pre, (∃ ini k, pre = ini ++ [k] ∧ ∀ j, k < j → j ∈ ini) ∧ Jx pre W')) := by
  obtain ⟨av, capv, rfl, hvl, hvm⟩ := hR.form
  have HR := Lib.hid hR
  have HV := Lib.hid hv
  have HY := Lib.hid hY
  clear hR hv hY hvl hvm
  refine callsIn_of_wp Tryz.func157 rfl hF ?_ hro
  simp only [Tryz.ntmps157, List.size_toArray, List.length_cons, List.length_nil, Nat.reduceAdd, Nat.reduceSub, Array.replicate_succ, Array.replicate_zero, List.push_toArray, List.append_toArray, List.nil_append, List.cons_append]
  gi_wp2
  gi_loopw [3] (fun i wr => ∃ (k : Nat) (pre : List (Fin T.length)), k ≤ T.length ∧ i = .int .i64 ((k : Int) - 1) ∧ (∀ j : Fin T.length, k ≤ j.1 → j ∈ pre) ∧ pre.length = T.length - k ∧ J pre wr ∧ Below n₀ W wr)
    (fun i _ => (intOf i + 1).toNat)
  case atStart => exact ⟨T.length, [], Nat.le_refl _, rfl, fun j hj => absurd j.2 (by omega), by simp, h0, Below.refl _ _⟩
  case round =>
    obtain ⟨k, pre, hk, rfl, hpre, hlen, hJ, hb⟩ := hrel
    have HP := Lib.hid hpre
    have HL := Lib.hid hlen
    have HB := Lib.hid hb
    have hcell : wr.cell? ⟨Bs, 0, none⟩ = some (.slice av T.length capv) := (hb.cell (p := ⟨Bs, 0, none⟩) hBl).trans hBs
    have hr : Recs waitC wr 141 129 (.slice av T.length capv) T := HR.out.keep fun k hk => hb.block k (HV.out k hk)
    have HRR := Lib.hid hr
    clear hpre hlen hb hr
    by_cases h1 : 1 ≤ k
    · obtain ⟨q, rfl⟩ : ∃ q, k = q + 1 := ⟨k - 1, by omega⟩
      have hq : q < T.length := by omega
      obtain ⟨gw, capw, hv, _, _, hgw⟩ := HRR.out.form' (by omega)
      simp only [Value.slice.injEq, true_and] at hv
      obtain ⟨rfl, rfl⟩ := hv
      have hr := HRR.out.rangeAt q T[q] (List.getElem?_eq_getElem hq)
      have HRA := Lib.hid hr
      have HSL := Lib.hid (show (Tryz.prog.info? 141).map (·.size) = some (waitC T[q]).length by rw [HRR.out.1 _ (List.getElem_mem hq)]; exact sizeWait)
      have e1 : ((q + 1 : Nat) : Int) - 1 = (q : Int) := by omega
      rw [e1] at *
      have hq0 : (0 : Int) ≤ (q : Int) := by omega
      have hq1 : (q : Int) < (T.length : Int) := by omega
      have hyy : YieldAt F (n - 1) Tryz.prog l #[.int .i64 (q : Int), .agg (waitC T[q]).toArray] wr (fun e W' =>
        (e = .returned (.bool true) ∧ J (pre ++ [⟨q, hq⟩]) W' ∧ Below n₀ wr W') ∨ (e = .returned (.bool false) ∧ Jx (pre ++ [⟨q, hq⟩]) W')) := HY.out pre ⟨q, hq⟩ wr hJ (by rw [HL.out]; omega)
      obtain ⟨fn, tmps, assign, body, hy, hRn⟩ := hyy
      clear hr e1
      gi_wp2_with (refine wpListIn_load_mid rfl 141 _ rfl gw (q * 129) rfl (waitC T[q]) _ HRA.out Tryz.underlying141 rfl HSL.out ?_)
      refine hRn.mono ?_
      rintro e W3 (⟨rfl, hJ3, hk3⟩ | ⟨rfl, hJx3⟩)
      · gi_wp2
        go_roundw
        case rel => exact ⟨q, pre ++ [⟨q, hq⟩], by omega, by simp, fun j hj => by
            by_cases hjq : j.1 = q
            · exact List.mem_append.2 (.inr (by simp; exact Fin.ext hjq))
            · exact List.mem_append.2 (.inl (HP.out j (by omega))), by simp [HL.out]; omega, hJ3, HB.out.trans hk3⟩
        case measure => simp [intOf]
      · gi_wp2
        refine bodyPost_ret (results_none rfl _ _ _) rfl ?_
        exact ⟨⟨_, rfl⟩, .inr ⟨_, ⟨pre, ⟨q, hq⟩, rfl, fun j hj => HP.out j (by have : q < j.1 := hj; omega)⟩, hJx3⟩⟩
    · obtain rfl : k = 0 := by omega
      gi_wp2
      go_end0
      exact ⟨⟨_, rfl⟩, .inl ⟨pre, fun j => HP.out j (Nat.zero_le _), hJ⟩⟩

theorem backward_in (F : Fence) (n : Nat) (hF : F.fn 116) (hro : F.round = none) (a : Option Addr) (len cap : Nat) (w : World) :
    CallsIn F n Tryz.prog 116 #[.slice a len cap] w fun e w' => e = .returned (.func (.func 157) #[] #[.pointer (some ⟨w.heap.size, 0, none⟩)]) ∧ w' = w.alloc (.cells #[.slice a len cap] 85) := by
  refine callsIn_of_wp Tryz.func116 rfl hF ?_ hro
  simp only [Tryz.ntmps116, List.size_toArray, List.length_cons, List.length_nil, Nat.reduceAdd, Nat.reduceSub, Array.replicate_succ, Array.replicate_zero, List.push_toArray, List.append_toArray, List.nil_append, List.cons_append]
  gi_wp2
  go_ret
  exact ⟨rfl, rfl⟩

theorem back_stops (F : Fence) (n : Nat) (hF : F.fn 157) (hro : F.round = none) (hn : 1 ≤ n) (Bs n₀ : Nat) (v : Value) (T : List (Nat × List UInt8)) (hm : T.length ≤ 1073741824)
    (w : World) (hBs : w.cell? ⟨Bs, 0, none⟩ = some v) (hBl : Bs < n₀) (hn₀ : n₀ ≤ w.heap.size) (hv : ∀ k, v.ownBlock = some k → k < n₀) (hR : Recs waitC w 141 129 v T) :
    SeqStopsK F n Tryz.prog 157 #[.pointer (some ⟨Bs, 0, none⟩)] (fun x : Fin T.length => #[.int .i64 (x.1 : Int), .agg (waitC (T[x.1]'x.2)).toArray]) (Below n₀)
      (fun ys => ∀ j, j ∈ ys) (fun pre => ∃ ini k, pre = ini ++ [k] ∧ ∀ j, k < j → j ∈ ini) T.length w := fun l J Jx W hW _ _ hY h0 =>
  back1_in F n hF hro hn l Bs n₀ v T hm J Jx hY W ((hW.cell (p := ⟨Bs, 0, none⟩) (by show Bs < _; omega)).trans hBs) hBl hv (hR.keep fun k hk => hW.block k (by have := hv k hk; omega)) h0

/-- a block of cells, kept by whatever turns no cells -/
theorem rowed_own {β : Type} (B : Nat) (t : TypeId) (f : β → Array Value) : Own (fun s W => W.heap[B]? = some (.cells (f s) t (0, 0))) := fun s X Y row hs hg hrow => by
  refine (hg.block B (Array.getElem?_eq_some_iff.1 hs).1 (fun e' => ?_)).trans hs
  obtain ⟨o, ho, hc⟩ := hrow B e'.symm
  rw [show X.heap[B]? = _ from hs] at ho
  cases ho
  cases hc

theorem keepsFrom_setRow {B g : Nat} {W : World} {old cs : Array Value} {t : TypeId} {fr : Nat × Nat} (h : W.heap[g]? = some (.cells old t fr)) : KeepsFrom B W (W.setRow g cs) :=
  ⟨by simp, fun k o _ h0 hc => by
    by_cases e : k = g
    · subst e; rw [h] at h0; cases h0; cases hc
    · exact (heap_setRow_other W g k cs e).trans h0⟩
theorem keepsFrom_of_below {B : Nat} {W W' : World} (h : Below W.heap.size W W') : KeepsFrom B W W' :=
  ⟨h.size, fun k o _ h0 _ => (h.block k (Array.getElem?_eq_some_iff.1 h0).1).trans h0⟩

set_option maxRecDepth 100000 in
set_option maxHeartbeats 2000000 in
theorem content_any (g : Nat) (i : Nat) (D : Dk) (S : Nat → Prop) (w : World) (h : DiskAt w S g D) (hi : i < D.secs.length) :
    Calls Tryz.prog 74 #[.pointer (some ⟨g, 0, none⟩), .int .i64 i] w fun e w' => e = .returned (.agg (vals (D.content i)).toArray) ∧ Below w.heap.size w w' := by
  obtain ⟨vs, vw, h⟩ := h
  have HD := Lib.hid h
  obtain ⟨c0, c1, c2, c3, hf⟩ := DiskAt.cells (S := S) h.blk
  obtain ⟨aw, capw, rfl, _, _⟩ := h.waits.form
  have hgl := h.lt g h.self
  obtain ⟨Z, hZ, hz⟩ := zeroWait
  obtain ⟨Y, hYs, hzs⟩ := zeroSec
  have HZ := Lib.hid hZ
  have HY := Lib.hid hYs
  clear h hf c2 c3 hZ hYs
  refine (callsIn_wide (n := 3)).1 ?_
  refine callsIn_of_wp_marks Tryz.func74 rfl trivial ?_ rfl
  simp only [Tryz.ntmps74, List.size_toArray, List.length_cons, List.length_nil, Nat.reduceAdd, Nat.reduceSub, Array.replicate_succ, Array.replicate_zero, List.push_toArray, List.append_toArray, List.nil_append, List.cons_append]
  gi_wp2_with (refine ⟨trivial, ?_⟩; gi_at_call 116; refine (backward_in _ _ trivial rfl _ _ _ _).mono ?_; rintro e w' ⟨rfl, rfl⟩)
  have HBX := Lib.hid (show ((w.alloc (.cells #[.int .i64 (i : Int)] 3)).alloc (.cells Y 138)).heap[w.heap.size]? = some (.cells #[.int .i64 (i : Int)] 3 (0, 0)) from heap_alloc2_old w _ _)
  have hb0 : Below w.heap.size w (((w.alloc (.cells #[.int .i64 (i : Int)] 3)).alloc (.cells Y 138)).alloc (.cells #[.slice aw D.waits.length capw] 85)) := (((Below.refl _ w).alloc (Nat.le_refl _) _).alloc (by simp) _).alloc (by simp; omega) _
  have hbox : (((w.alloc (.cells #[.int .i64 (i : Int)] 3)).alloc (.cells Y 138)).alloc (.cells #[.slice aw D.waits.length capw] 85)).heap[w.heap.size]? = some (.cells #[.int .i64 (i : Int)] 3 (0, 0)) := by
    rw [Below.heap_alloc _ _ _ (by simp; omega)]; exact heap_alloc2_old w _ _
  have hres : (((w.alloc (.cells #[.int .i64 (i : Int)] 3)).alloc (.cells Y 138)).alloc (.cells #[.slice aw D.waits.length capw] 85)).heap[w.heap.size + 1]? = some (.cells Y 138 (0, 0)) := by
    rw [Below.heap_alloc _ _ _ (by simp)]; exact heap_alloc2_new w _ _
  have hslb : (((w.alloc (.cells #[.int .i64 (i : Int)] 3)).alloc (.cells Y 138)).alloc (.cells #[.slice aw D.waits.length capw] 85)).heap[w.heap.size + 1 + 1]? = some (.cells #[.slice aw D.waits.length capw] 85 (0, 0)) := by
    have := heap_alloc_new ((w.alloc (.cells #[.int .i64 (i : Int)] 3)).alloc (.cells Y 138)) (.cells #[.slice aw D.waits.length capw] 85)
    simpa using this
  have hsl : (((w.alloc (.cells #[.int .i64 (i : Int)] 3)).alloc (.cells Y 138)).alloc (.cells #[.slice aw D.waits.length capw] 85)).cell? ⟨w.heap.size + 1 + 1, 0, none⟩ = some (.slice aw D.waits.length capw) := by
    have := cell_of_row _ _ 0 _ _ _ (heap_alloc_new ((w.alloc (.cells #[.int .i64 (i : Int)] 3)).alloc (.cells Y 138)) (.cells #[.slice aw D.waits.length capw] 85))
    simpa using this
  have hsz : (((w.alloc (.cells #[.int .i64 (i : Int)] 3)).alloc (.cells Y 138)).alloc (.cells #[.slice aw D.waits.length capw] 85)).heap.size = w.heap.size + 3 := by simp
  have hd0 := HD.out.below hb0
  generalize ((w.alloc (.cells #[.int .i64 (i : Int)] 3)).alloc (.cells Y 138)).alloc (.cells #[.slice aw D.waits.length capw] 85) = w0 at *
  refine wpIn_rangeFunc_ownH (encs := fun x : Fin D.waits.length => #[.int .i64 (x.1 : Int), .agg (waitC (D.waits[x.1]'x.2)).toArray]) rfl (by omega) (gf := 157) (lb := #[.pointer (some ⟨w.heap.size + 1 + 1, 0, none⟩)]) rfl trivial (enters_of Tryz.func157 (by kernel_rfl) rfl)
    (back_stops _ _ trivial rfl (by omega) (w.heap.size + 1 + 1) (w.heap.size + 3) _ D.waits hd0.ok.few w0 hsl (by omega) (by omega) (fun k hk => by have := HD.out.lt k (HD.out.inW k hk); omega) hd0.waits) belowK_t (belowK_b (by omega)) (Below.refl _ _) (fun _ => rfl)
    (fun (pre : List (Fin D.waits.length)) W => ((∀ x ∈ pre, (D.waits[x.1]'x.2).1 ≠ i) ∧ W.heap[w.heap.size]? = some (.cells #[.int .i64 (i : Int)] 3 (0, 0)) ∧ W.heap[w.heap.size + 1]? = some (.cells Y 138 (0, 0)) ∧ W.heap[w.heap.size + 1 + 1]? = some (.cells #[.slice aw D.waits.length capw] 85 (0, 0))) ∧ Below w.heap.size w W)
    (fun c (pre : List (Fin D.waits.length)) W => (c = .ret ∧ ∃ (ini : List (Fin D.waits.length)) (last : Fin D.waits.length), pre = ini ++ [last] ∧ (∀ x ∈ ini, (D.waits[x.1]'x.2).1 ≠ i) ∧ (D.waits[last.1]'last.2).1 = i ∧ W.heap[w.heap.size + 1]? = some (.cells (vals (D.waits[last.1]'last.2).2).toArray 138 (0, 0))) ∧ Below w.heap.size w W)
    (OwnFrom.and (Own.from (fun s A B row hs hg hr => ⟨hs.1, rowed_own (β := Unit) w.heap.size 3 (fun _ => #[.int .i64 (i : Int)]) () A B row hs.2.1 hg hr, rowed_own (β := Unit) (w.heap.size + 1) 138 (fun _ => Y) () A B row hs.2.2.1 hg hr, rowed_own (β := Unit) (w.heap.size + 1 + 1) 85 (fun _ => #[.slice aw D.waits.length capw]) () A B row hs.2.2.2 hg hr⟩) _) (ownFrom_below (Nat.le_refl _) (by omega)))
    (fun c => OwnFrom.and (Own.from (fun s A B row hs hg hr => by obtain ⟨hc, ini, last, e1, e2, e3, e4⟩ := hs; exact ⟨hc, ini, last, e1, e2, e3, rowed_own (β := Unit) (w.heap.size + 1) 138 (fun _ => (vals (D.waits[last.1]'last.2).2).toArray) () A B row e4 hg hr⟩) _) (ownFrom_below (Nat.le_refl _) (by omega)))
    ⟨⟨by simp, hbox, hres, hslb⟩, hb0⟩
    (fun (x : Fin D.waits.length) a' W => ∃ Bx, w.heap.size + 3 ≤ Bx ∧ W.heap[Bx]? = some (.cells (waitC (D.waits[x.1]'x.2)).toArray 141 (0, 0)) ∧ a' = { tmps := #[.pointer (some ⟨g, 0, none⟩), .int .i64 (i : Int), undef, .pointer (some ⟨w.heap.size, 0, none⟩), .pointer (some ⟨w.heap.size + 1, 0, none⟩), undef, .pointer (some ⟨Bx, 0, none⟩), .pointer (some ⟨g, 0, none⟩), .pointer (some ⟨g, 0, none⟩), .pointer (some ⟨g, 1, none⟩), .slice aw D.waits.length capw, .func (.func 157) #[] #[.pointer (some ⟨w.heap.size + 1 + 1, 0, none⟩)], .int .i64 (x.1 : Int), .agg (waitC (D.waits[x.1]'x.2)).toArray, undef, undef, undef, undef, undef, undef, undef, undef, undef, undef, undef, undef, undef], defers := [] })
    (fun (x : Fin D.waits.length) a' => Own.from (fun s A B row hs hg hr => by obtain ⟨Bx, h1, h2, h3⟩ := hs; exact ⟨Bx, h1, rowed_own (β := Unit) Bx 141 (fun _ => (waitC (D.waits[x.1]'x.2)).toArray) () A B row h2 hg hr, h3⟩) _) ?assign ?body ?done ?stop
  case assign =>
    rintro l pre x W K ⟨⟨hp, hbx, hrs, hsb⟩, hB⟩ hK
    have hlen := waitC_length (D.waits[x.1]'x.2) (HD.out.ok.wait _ (List.getElem_mem x.2)).2
    have HW := Lib.hid (show W.heap.size ≥ w.heap.size + 3 by have := (Array.getElem?_eq_some_iff.1 hsb).1; omega)
    have HZW := Lib.hid (show Z.size = (waitC (D.waits[x.1]'x.2)).toArray.size by rw [List.size_toArray]; exact HZ.out.trans hlen.symm)
    have HSW := Lib.hid (show (Tryz.prog.info? 141).map (·.size) = some (waitC (D.waits[x.1]'x.2)).toArray.size by rw [List.size_toArray, hlen]; exact sizeWait)
    have HP := Lib.hid hp
    have HBX := Lib.hid hbx
    have HRS := Lib.hid hrs
    have HSB := Lib.hid hsb
    clear hlen hp hbx hrs hsb
    gi_wp2_with (refine wpListIn_store_row rfl 141 _ _ rfl W.heap.size (waitC (D.waits[x.1]'x.2)).toArray rfl rfl 141 Z (heap_alloc_new W _) HSW.out HZW.out (all_oneCell_toArray (waitC_one _)) ?_)
    have hbel : Below W.heap.size W ((W.alloc (.cells Z 141)).setRow W.heap.size (waitC (D.waits[x.1]'x.2)).toArray) := below_setRow ((Below.refl _ _).alloc (Nat.le_refl _) _) (Nat.le_refl _) _
    exact hK _ _ (keepsFrom_of_below hbel) (hbel.mono HW.out) ⟨⟨HP.out, (hbel.block _ (Array.getElem?_eq_some_iff.1 HBX.out).1).trans HBX.out, (hbel.block _ (Array.getElem?_eq_some_iff.1 HRS.out).1).trans HRS.out, (hbel.block _ (Array.getElem?_eq_some_iff.1 HSB.out).1).trans HSB.out⟩, hB.trans (hbel.mono (by have := HW.out; omega))⟩
      ⟨W.heap.size, HW.out, heap_setRow_same _ _ _ _ _ (heap_alloc_new W _), rfl⟩
  case body =>
    rintro l pre x a' W hl ⟨r, hr⟩ ⟨⟨hp, hbx, hrs, hsb⟩, hB⟩ ⟨Bx, hBx, hwx, rfl⟩ hlt
    obtain ⟨cb0, rb1⟩ := box_wait hwx
    have ci : W.cell? ⟨w.heap.size, 0, none⟩ = some (.int .i64 (i : Int)) := by rw [cell_of_row _ _ _ _ _ _ hbx]; rfl
    have hwt := HD.out.ok.wait _ (List.getElem_mem x.2)
    have HSL := Lib.hid (show (Tryz.prog.info? 138).map (·.size) = some (vals (D.waits[x.1]'x.2).2).length by rw [vals_length, hwt.2]; exact sizeSec)
    have HSA := Lib.hid (show (Tryz.prog.info? 138).map (·.size) = some (vals (D.waits[x.1]'x.2).2).toArray.size by rw [List.size_toArray]; exact HSL.out)
    have hsv : (vals (D.waits[x.1]'x.2).2).toArray.size = 128 := by rw [List.size_toArray, vals_length]; exact hwt.2
    have HYS := Lib.hid (HY.out.trans hsv.symm)
    have HP := Lib.hid hp
    have HBX := Lib.hid hbx
    have HRS := Lib.hid hrs
    have HSB := Lib.hid hsb
    have HRB := Lib.hid rb1
    have HB := Lib.hid hB
    clear hp hbx hrs hsb rb1 hwx hwt hB hsv
    by_cases hx : (D.waits[x.1]'x.2).1 = i
    · have HX := Lib.hid hx
      have hxb : (((D.waits[x.1]'x.2).1 : Int) == (i : Int)) = true := by rw [hx]; simp
      clear hx
      gi_wp2_with (first
        | (refine wpListIn_load_mid rfl 138 _ rfl Bx 1 rfl (vals (D.waits[x.1]'x.2).2) _ HRB.out Tryz.underlying138 rfl HSL.out ?_)
        | (refine wpListIn_store_row rfl 138 _ _ rfl (w.heap.size + 1) (vals (D.waits[x.1]'x.2).2).toArray rfl rfl 138 Y HRS.out HSA.out HYS.out (vals_one _) ?_))
      exact ⟨keepsFrom_setRow HRS.out, ⟨rfl, pre, x, rfl, HP.out, HX.out, heap_setRow_same _ _ _ _ _ HRS.out⟩, below_setRow HB.out (by omega) _⟩
    · have HX := Lib.hid hx
      have hxb : (((D.waits[x.1]'x.2).1 : Int) == (i : Int)) = false := by rw [beq_eq_false_iff_ne]; omega
      clear hx
      gi_wp2
      exact ⟨KeepsFrom.refl _ _, Below.refl _ _, ⟨fun y hy => (List.mem_append.1 hy).elim (HP.out y) (fun e => by simp at e; subst e; exact HX.out), HBX.out, HRS.out, HSB.out⟩, HB.out⟩
  case done =>
    rintro D' ys W hD hall ⟨⟨hne, hbx, hrs, hsb⟩, hB⟩ hK
    have hcon : D.content i = D.secs.getD i [] := Dk.over_none _ _ _ fun x hx => by
      obtain ⟨j, hj, rfl⟩ := List.mem_iff_getElem.1 hx
      exact hne ⟨j, hj⟩ (hall _)
    have hd := HD.out.below hB
    obtain ⟨d0, _⟩ := DiskAt.cells (S := S) hd.blk
    obtain ⟨gs, caps, hvs, _, _, _⟩ := hd.secs.form' (by omega)
    subst hvs
    have hx : D.secs[i]? = some (D.secs.getD i []) := by rw [List.getD, List.getElem?_eq_getElem hi]; rfl
    have hrg := hd.secs.rangeAt i _ hx
    have hll := HD.out.ok.getD i hi
    have ci : W.cell? ⟨w.heap.size, 0, none⟩ = some (.int .i64 (i : Int)) := by rw [cell_of_row _ _ _ _ _ _ hbx]; rfl
    generalize D.secs.getD i [] = sl at *
    have HCON := Lib.hid hcon
    have hsv : (vals sl).toArray.size = 128 := by rw [List.size_toArray, vals_length]; exact hll
    have HSA := Lib.hid (show (Tryz.prog.info? 138).map (·.size) = some (vals sl).toArray.size by rw [hsv]; exact sizeSec)
    have HSL := Lib.hid (show (Tryz.prog.info? 138).map (·.size) = some (vals sl).length by rw [vals_length, hll]; exact sizeSec)
    have HYS := Lib.hid (HY.out.trans hsv.symm)
    have HRS := Lib.hid hrs
    have HB' := Lib.hid hB
    have HK := Lib.hid hK
    have HRG := Lib.hid hrg
    have hii : (i : Int) < (D.secs.length : Int) := by omega
    clear hne hbx hsb hB hall hcon hd hx hll hrg hsv hrs hK hsl hd0 hslb hres hbox HBX
    gi_wp2
    refine wpIn_wide.2 ?_
    refine region_head 7 [0, 1, 2, 3, 4, 5, 6] [] (fun u => u.cell? ⟨g, 0, none⟩ = some (.slice (some ⟨gs, 0, none⟩) D.secs.length caps) ∧ u.cell? ⟨w.heap.size, 0, none⟩ = some (.int .i64 (i : Int)) ∧ u.rangeAt gs (i * 128) (vals sl)) (by kernel_rfl) (by kernel_rfl) ⟨d0, ci, HRG.out⟩ ?_
    simp only [pickO, List.filterMap_cons, List.filterMap_nil, List.getElem?_cons_zero, List.getElem?_cons_succ, Option.map_some, List.drop_succ_cons, List.drop_zero]
    clear d0 ci
    iterate 6
      refine seqH_read _ rfl rfl (by rintro u ⟨hu1, hu2, hu3⟩; clear hu3; go_simp; with_reducible rfl) ?_
      try simp only [Act.put, List.setIfInBounds_toArray, List.set_cons_zero, List.set_cons_succ]
    refine seqH_load_mid rfl rfl 138 _ rfl gs (i * 128) rfl (vals sl) _ (fun u hu => hu.2.2) Tryz.underlying138 rfl HSL.out ?_
    try simp only [Act.put, List.setIfInBounds_toArray, List.set_cons_zero, List.set_cons_succ]
    refine seqH_nil ?_
    go_wp2_with (refine wpList_store_row rfl 138 _ _ rfl (w.heap.size + 1) (vals sl).toArray rfl rfl 138 Y (by exact HRS.out) HSA.out HYS.out (vals_one _) ?_)
    have hK2 : (W.drew.setRow (w.heap.size + 1) (vals sl).toArray).heap[D']? = some (.deferred (some [])) := (heap_setRow_other _ _ _ _ (by omega)).trans HK.out
    have hrs2 : (W.drew.setRow (w.heap.size + 1) (vals sl).toArray).heap[w.heap.size + 1]? = some (.cells (vals sl).toArray 138 (0, 0)) := heap_setRow_same _ _ _ Y _ HRS.out
    have HB2 := Lib.hid (below_setRow (HB'.out.drew) (Nat.le_succ w.heap.size) (vals sl).toArray)
    generalize W.drew.setRow (w.heap.size + 1) (vals sl).toArray = W2 at *
    have HK2 := Lib.hid hK2
    have HRS2 := Lib.hid hrs2
    clear hK2 hrs2
    gi_wp2
    refine ⟨by simp, .inl ⟨_, _, rfl, run_takeDeferred HK2.out, ?_⟩⟩
    have hblk : (W2.putObj D' (.deferred none)).heap[w.heap.size + 1]? = some (.cells (vals sl).toArray 138 (0, 0)) :=
      ((grownBy_putObj' W2 D' (.deferred none)).block _ (Array.getElem?_eq_some_iff.1 HRS2.out).1 (by simp; omega)).trans HRS2.out
    refine ⟨.agg (vals sl).toArray, results_cell_row rfl _ _ (w.heap.size + 1) 138 _ (0, 0) _ rfl hblk Tryz.underlying138 rfl HSA.out, by rw [HCON.out], ?_⟩
    exact HB2.out.trans (belowK_b (w := w) (Nat.le_refl _) W2 D' _ _ (by omega) HK2.out rfl rfl)
  case stop =>
    rintro D' c pre W hD ⟨ini, k, rfl, hall⟩ ⟨⟨rfl, ini', last, he, hne, hlast, hrs⟩, hB⟩ hK
    obtain ⟨rfl, e5⟩ := List.append_inj' he rfl
    obtain rfl : k = last := by simpa using e5
    have hcon : D.content i = (D.waits[k.1]'k.2).2 := by
      unfold Dk.content
      have hsplit : D.waits = D.waits.take k.1 ++ (D.waits[k.1]'k.2) :: D.waits.drop (k.1 + 1) := by
        rw [← List.drop_eq_getElem_cons k.2, List.take_append_drop]
      conv => lhs; rw [hsplit]
      refine Dk.over_hit _ _ _ _ _ hlast fun y hy => ?_
      obtain ⟨j, hj, rfl⟩ := List.mem_iff_getElem.1 hy
      rw [List.getElem_drop]
      have hj2 : k.1 + 1 + j < D.waits.length := by simp at hj; omega
      exact hne ⟨k.1 + 1 + j, hj2⟩ (hall _ (by show k.1 < _; simp; omega))
    have hwt := HD.out.ok.wait _ (List.getElem_mem k.2)
    gi_wp2
    refine ⟨by simp, .inl ⟨_, _, rfl, run_takeDeferred hK, ?_⟩⟩
    have hblk : (W.putObj D' (.deferred none)).heap[w.heap.size + 1]? = some (.cells (vals (D.waits[k.1]'k.2).2).toArray 138 (0, 0)) :=
      ((grownBy_putObj' W D' (.deferred none)).block _ (Array.getElem?_eq_some_iff.1 hrs).1 (by simp; omega)).trans hrs
    refine ⟨.agg (vals (D.waits[k.1]'k.2).2).toArray, results_cell_row rfl _ _ (w.heap.size + 1) 138 _ (0, 0) _ rfl hblk Tryz.underlying138 rfl (by rw [List.size_toArray, vals_length, hwt.2]; exact sizeSec), rfl, ?_⟩
    exact hB.trans (belowK_b (w := w) (Nat.le_refl _) W D' _ _ (by omega) hK rfl rfl)

/-! ### Read -/
theorem read_range (g : Nat) (i : Int) (D : Dk) (S : Nat → Prop) (w : World) (h : DiskAt w S g D) (hi : i < 0 ∨ (D.secs.length : Int) ≤ i) :
    Calls Tryz.prog 25 #[.pointer (some ⟨g, 0, none⟩), .int .i64 i] w fun e w' => e = .returned (.tuple #[.slice none 0 0, .int .i64 4]) ∧ w = w' := by
  have CT := Lib.hid (there_no g i D S w h hi)
  clear h hi
  go_enter Tryz.func25, Tryz.ntmps25
  go_wp2_with (go_at_call 72; refine (CT.out).mono ?_; rintro e w1 ⟨rfl, rfl⟩)
  go_ret2
  exact ⟨rfl, rfl⟩

theorem read_off (g : Nat) (i : Nat) (D : Dk) (S : Nat → Prop) (w : World) (h : DiskAt w S g D) (hi : i < D.secs.length) (hp : D.power = false) :
    Calls Tryz.prog 25 #[.pointer (some ⟨g, 0, none⟩), .int .i64 i] w fun e w' => e = .returned (.tuple #[.slice none 0 0, .int .i64 10]) ∧ w = w' := by
  have CT := Lib.hid (there_yes g i D S w h hi)
  obtain ⟨vs, vw, h⟩ := h
  obtain ⟨_, _, c2, _, _⟩ := DiskAt.cells (S := S) h.blk
  rw [hp] at c2
  clear h hi hp
  go_enter Tryz.func25, Tryz.ntmps25
  go_wp2_with (go_at_call 72; refine (CT.out).mono ?_; rintro e w1 ⟨rfl, rfl⟩)
  go_ret2
  exact ⟨rfl, rfl⟩

theorem read_yes (g : Nat) (i : Nat) (D : Dk) (S : Nat → Prop) (w : World) (h : DiskAt w S g D) (hi : i < D.secs.length) (hp : D.power = true) :
    Calls Tryz.prog 25 #[.pointer (some ⟨g, 0, none⟩), .int .i64 i] w (ReadN (fun v => .tuple #[v, .int .i64 0]) 128 (D.content i) w) := by
  have CT := Lib.hid (there_yes g i D S w h hi)
  have CC := Lib.hid (content_any g i D S w h hi)
  have HL := Lib.hid (h.ok.content i hi)
  obtain ⟨vs, vw, h⟩ := h
  obtain ⟨_, _, c2, _, _⟩ := DiskAt.cells (S := S) h.blk
  rw [hp] at c2
  clear h hi hp
  go_enter Tryz.func25, Tryz.ntmps25
  go_wp2_with (first
    | (go_at_call 72; refine (CT.out).mono ?_; rintro e w1 ⟨rfl, rfl⟩)
    | (go_at_call 74; refine (CC.out).mono ?_; rintro e w2 ⟨rfl, hb2⟩)
    | (go_at_call 73; refine (octets_any (D.content i) _ HL.out).mono ?_; rintro e w3 ⟨a3, c3, rfl, hr3, hb3, hn3⟩))
  go_ret2
  exact ⟨a3, c3, rfl, hr3, hb2.trans (hb3.mono hb2.size), fun x hx => ⟨Nat.le_trans hb2.size (hn3 x hx).1, (hn3 x hx).2⟩⟩

end Go.Proofs.YtjcmphjjkeigjaaGreat

namespace Go.Proofs.YtjcmphjjkeigjaaGreat
open Go.RowKit
set_option linter.unusedVariables false
set_option linter.unusedSimpArgs false

def sec (c : UInt8) : List UInt8 := List.replicate 128 c
theorem sec_length (c : UInt8) : (sec c).length = 128 := by simp [sec]

theorem sec_getD (c : UInt8) (k : Nat) (h : k < 128) : (sec c).getD k 0 = c := by
  unfold sec
  rw [List.getD, List.getElem?_replicate, if_pos h]; rfl

/-- a disk of the call's own, since the world w0 -/
structure Run (w0 w : World) (S : Nat → Prop) (g : Nat) (D : Dk) : Prop where
  disk : DiskAt w S g D
  below : Below w0.heap.size w0 w
  new : ∀ k, S k → w0.heap.size ≤ k
theorem Run.to {w0 w w' : World} {S S' : Nat → Prop} {g : Nat} {D D' : Dk} (h : Run w0 w S g D) (hd : DiskAt w' S' g D') (ho : Only S w w') (hs : ∀ k, S' k → S k ∨ w.heap.size ≤ k) : Run w0 w' S' g D' :=
  ⟨hd, h.below.trans (ho.below h.below.size fun i hi hS => by have := h.new i hS; omega), fun k hk => (hs k hk).elim (h.new k) fun hk => Nat.le_trans h.below.size hk⟩
theorem Run.quiet {w0 w w' : World} {S : Nat → Prop} {g : Nat} {D : Dk} (h : Run w0 w S g D) (hb : Below w.heap.size w w') : Run w0 w' S g D :=
  ⟨h.disk.below hb, h.below.trans (hb.mono h.below.size), h.new⟩
theorem Run.drew {w0 w : World} {S : Nat → Prop} {g : Nat} {D : Dk} (h : Run w0 w S g D) : Run w0 w.drew S g D := h.quiet ((Below.refl _ _).drew)

end Go.Proofs.YtjcmphjjkeigjaaGreat

namespace Go.Proofs.YtjcmphjjkeigjaaGreat
open Go.RowKit
set_option linter.unusedVariables false
set_option linter.unusedSimpArgs false

/-- what waits and what there is -/
def Fit (n k : Nat) (D : Dk) : Prop := D.secs.length = n ∧ D.waits.length ≤ k
theorem Fit.le {n k k' : Nat} {D : Dk} (h : Fit n k D) (hk : k ≤ k') : Fit n k' D := ⟨h.1, Nat.le_trans h.2 hk⟩
theorem Fit.off {n k : Nat} {D : Dk} (h : Fit n k D) : Fit n k D.off := h
theorem Fit.put {n k : Nat} {D : Dk} (h : Fit n k D) (i : Nat) (s : List UInt8) : Fit n (k + 1) (D.put i s) := ⟨h.1, by have := h.2; show (D.waits ++ [(i, s)]).length ≤ k + 1; simp; omega⟩
theorem Fit.settle {n k : Nat} {D : Dk} (h : Fit n k D) (K : Nat → Bool) : Fit n k (D.settle K) := ⟨(Dk.laid_length K D.waits D.secs).trans h.1, Nat.zero_le _⟩

def wrOf (D : Dk) (i : Int) (m : Nat) (l : List UInt8) : Int × Dk :=
  if i < 0 ∨ (D.secs.length : Int) ≤ i then (4, D) else if m ≠ 128 then (1, D) else if D.can = true then (0, D.put i.toNat l) else (10, D.off)
theorem Fit.wr {n k : Nat} {D : Dk} (h : Fit n k D) (i : Int) (m : Nat) (l : List UInt8) : Fit n (k + 1) (wrOf D i m l).2 := by
  unfold wrOf
  split
  · exact h.le (by omega)
  · split
    · exact h.le (by omega)
    · split
      · exact h.put _ _
      · exact h.off.le (by omega)
def flOf (D : Dk) : Int × Dk := if D.can = true then (0, D.flushed) else (10, D.off)
theorem Fit.fl {n k : Nat} {D : Dk} (h : Fit n k D) : Fit n k (flOf D).2 := by
  unfold flOf
  split
  · exact Fit.settle (D := D.paid) h _
  · exact h.off
theorem diskTo_same {w : World} {S : Nat → Prop} {g : Nat} {D : Dk} (v : Value) (h : DiskAt w S g D) : DiskTo v S g D w (.returned v) w := ⟨rfl, S, h, Only.refl _ _, fun k hk => .inl hk⟩
theorem write_all (g : Nat) (i : Int) (D : Dk) (S : Nat → Prop) (a : Option Addr) (m cap : Nat) (l : List UInt8) (w : World) (h : DiskAt w S g D) (hl : BytesAt w a m cap l) (hf : D.waits.length < 1073741824) (hS : ∀ p, a = some p → ¬ S p.block) :
    Calls Tryz.prog 26 #[.pointer (some ⟨g, 0, none⟩), .int .i64 i, .slice a m cap] w (DiskTo (.int .i64 (wrOf D i m l).1) S g (wrOf D i m l).2 w) := by
  unfold wrOf
  by_cases hr : i < 0 ∨ (D.secs.length : Int) ≤ i
  · rw [if_pos hr]
    exact (write_range g i D S _ w h hr).mono fun e w' ⟨he, hw⟩ => by subst he; subst hw; exact diskTo_same _ h
  · rw [if_neg hr]
    obtain ⟨j, rfl⟩ := Int.eq_ofNat_of_zero_le (show 0 ≤ i by omega)
    by_cases hm : m ≠ 128
    · rw [if_pos hm]
      exact (write_arg g j D S a m cap w h (by omega) hm).mono fun e w' ⟨he, hw⟩ => by subst he; subst hw; exact diskTo_same _ h
    · rw [if_neg hm]
      obtain rfl : m = 128 := by omega
      by_cases hc : D.can = true
      · rw [if_pos hc]
        exact write_yes g j D S a cap l w h (by omega) hc hf hl hS
      · rw [if_neg hc]
        exact write_off g j D S a cap w h (by omega) (by simpa using hc)

theorem flush_all (g : Nat) (D : Dk) (S : Nat → Prop) (w : World) (h : DiskAt w S g D) :
    Calls Tryz.prog 28 #[.pointer (some ⟨g, 0, none⟩)] w (DiskTo (.int .i64 (flOf D).1) S g (flOf D).2 w) := by
  unfold flOf
  by_cases hc : D.can = true
  · rw [if_pos hc]; exact flush_yes g D S w h hc
  · rw [if_neg hc]; exact flush_no g D S w h (by simpa using hc)
/-- 128 octets in a block of its own, that may be written -/
def Row8 (w : World) (b : Nat) : Prop := ∃ cur : Array Value, cur.size = 128 ∧ w.heap[b]? = some (.cells cur 5 (0, 0))
theorem Row8.only {w w' : World} {b : Nat} {S : Nat → Prop} (h : Row8 w b) (ho : Only S w w') (hS : ¬ S b) (hlt : b < w.heap.size) : Row8 w' b := by
  obtain ⟨cur, h1, h2⟩ := h
  exact ⟨cur, h1, (ho.block b hlt hS).trans h2⟩
theorem Row8.below {w w' : World} {b : Nat} (h : Row8 w b) (hb : Below w.heap.size w w') (hlt : b < w.heap.size) : Row8 w' b := by
  obtain ⟨cur, h1, h2⟩ := h
  exact ⟨cur, h1, (hb.block b hlt).trans h2⟩
theorem Row8.cell {w : World} {b : Nat} (h : Row8 w b) (k : Nat) (hk : k < 128) : ∃ v, w.cell? ⟨b, k, none⟩ = some v := by
  obtain ⟨cur, h1, h2⟩ := h
  rw [cell_of_row w b k _ _ _ h2]
  exact ⟨_, Array.getElem?_eq_getElem (by omega)⟩
theorem Row8.frozen {w : World} {b : Nat} (h : Row8 w b) (k : Nat) : w.frozen? ⟨b, k, none⟩ = false := by
  obtain ⟨cur, h1, h2⟩ := h
  exact frozen_of_row w b k _ _ h2
theorem Row8.set {w : World} {b : Nat} (h : Row8 w b) (k : Nat) (v : Value) : Row8 (w.setCell ⟨b, k, none⟩ v) b := by
  obtain ⟨cur, h1, h2⟩ := h
  exact ⟨_, by rw [Array.size_setIfInBounds]; exact h1, heap_setCell_same _ _ _ _ _ _ h2⟩

def AllTo (c : UInt8) (w : World) (e : Ending) (w' : World) : Prop :=
  ∃ b, e = .returned (.slice (some ⟨b, 0, none⟩) 128 128) ∧ BytesAt w' (some ⟨b, 0, none⟩) 128 128 (sec c) ∧ Below w.heap.size w w' ∧ w.heap.size ≤ b ∧ b < w'.heap.size ∧ Row8 w' b

set_option maxHeartbeats 1000000 in
theorem all_own (c : UInt8) (w : World) : Calls Tryz.prog 39 #[.int .u8 c.toNat] w (AllTo c w) := by
  obtain ⟨i0, hi, hz0, hz1, hz2⟩ := info_parts infoU8
  have hmk : ∀ u, (Instr.makeSlice 49 (.int .i64 128) (.int .i64 128)).run Tryz.prog u = .ok (.slice (some ⟨u.heap.size, 0, none⟩) 128 128) (u.alloc (.cells (madeCells #[.int .u8 0] 128) 5)) := fun u => by
    have := run_make u 49 5 i0 _ Tryz.underlying49 hi hz0 .i64 .i64 128 128 (by omega) (by omega) (by rw [hz2]; omega) (by omega)
    rw [hz1] at this
    simpa [Value.cells] using this
  have hl : (madeCells #[.int .u8 0] 128).toList = vals ((sec c).take 0) ++ List.replicate (128 - 0) (.int .u8 0) := by
    rw [toList_madeCells_one]; rfl
  have HL := Lib.hid hl
  have HS := Lib.hid (size_madeCells #[.int .u8 0] 128)
  clear hl hi hz0 hz1 hz2
  generalize madeCells #[.int .u8 0] 128 = C at *
  go_enter Tryz.func39, Tryz.ntmps39
  go_wp2
  have hr0 : (w.alloc (.cells C 5)).ownsRow w.heap.size 5 1 (.slice (some ⟨w.heap.size, 0, none⟩) 128 128) 128 (vals ((sec c).take 0) ++ List.replicate (128 - 0) (.int .u8 0)) := by
    have := World.ownsRow_lit (base := w.heap.size) (e := 5) (size := 1) w C 128 (Nat.le_refl _) (by unfold maxLen; omega) (by rw [HS.out])
    rwa [HL.out] at this
  have HR0 := Lib.hid hr0
  clear hr0
  go_loopw [4] (fun i wr => ∃ k : Nat, k ≤ 128 ∧ i = .int .i64 k ∧ wr.ownsRow w.heap.size 5 1 (.slice (some ⟨w.heap.size, 0, none⟩) 128 128) 128 (vals ((sec c).take k) ++ List.replicate (128 - k) (.int .u8 0)) ∧ Below w.heap.size w wr) (fun i _ => 128 - (intOf i).toNat)
  case atStart => exact ⟨0, by omega, rfl, HR0.out, (Below.refl _ _).alloc (Nat.le_refl _) _⟩
  case round =>
    obtain ⟨k, hk, rfl, hr, hb⟩ := hrel
    have HR := Lib.hid hr
    have HB := Lib.hid hb
    clear hr hb
    by_cases hlt : k < 128
    · have hc : wr.cell? ⟨w.heap.size, k, none⟩ = some (.int .u8 0) := by
        rw [World.ownsRow.cellAt HR.out k (by omega), fill_at _ _ _ _ (sec_length c) hlt]
      have hf := World.ownsRow.frozenAt HR.out k
      have hki : (k : Int) < 128 := by omega
      go_wp2
      go_roundw
      case rel =>
        have hst := World.ownsRow.stored HR.out k (.int .u8 c.toNat)
        refine ⟨k + 1, by omega, by go_num, ?_, HB.out.setCell (Nat.le_refl _) _⟩
        have h1 := hst.1
        rwa [fill_set (sec c) k 128 _ _ (sec_length c) hlt (by rw [sec_getD c k hlt])] at h1
      case measure => simp [intOf]; omega
    · obtain rfl : k = 128 := by omega
      go_wp2
      go_ret
      have hr := HR.out
      rw [Nat.sub_self, List.replicate_zero, List.append_nil, List.take_of_length_le (by rw [sec_length]; omega)] at hr
      refine ⟨_, rfl, BytesAt.owned hr, HB.out, Nat.le_refl _, (hr.lt _ rfl).2, ?_⟩
      rcases hr.2 with ⟨h', _⟩ | ⟨g, cap', cur, h', hb, hg, hnc, hcm, hcs, htake⟩
      · simp at h'
      · simp only [Value.slice.injEq, true_and, Option.some.injEq, Addr.mk.injEq, and_true] at h'
        obtain ⟨rfl, rfl⟩ := h'
        exact ⟨cur, by omega, hg⟩

section
variable {w0 w w' : World} {S T S' T' : Nat → Prop} {g r B : Nat} {D E D' E' : Dk}

end

end Go.Proofs.YtjcmphjjkeigjaaGreat

namespace Go.Proofs.YtjcmphjjkeigjaaGreat

def poly : Nat := 3988292384

/-- one shift step of a word -/
def step (w : Nat) : Nat := if w % 2 = 1 then w / 2 ^^^ poly else w / 2

def steps : Nat → Nat → Nat
  | 0, w => w
  | n + 1, w => steps n (step w)

theorem step_xor (a b : Nat) : step (a ^^^ b) = step a ^^^ step b := by
  unfold step
  have hm := @Nat.xor_mod_two_eq_one a b
  rw [Nat.xor_div_two]
  by_cases ha : a % 2 = 1 <;> by_cases hb : b % 2 = 1
  · have h : ¬ (a ^^^ b) % 2 = 1 := by rw [hm]; simp [ha, hb]
    rw [if_neg h, if_pos ha, if_pos hb, Nat.xor_assoc, Nat.xor_comm poly, Nat.xor_assoc, Nat.xor_self, Nat.xor_zero]
  · have h : (a ^^^ b) % 2 = 1 := by rw [hm]; simp [ha, hb]
    rw [if_pos h, if_pos ha, if_neg hb, Nat.xor_assoc, Nat.xor_comm (b / 2), ← Nat.xor_assoc]
  · have h : (a ^^^ b) % 2 = 1 := by rw [hm]; simp [ha, hb]
    rw [if_pos h, if_neg ha, if_pos hb, Nat.xor_assoc]
  · have h : ¬ (a ^^^ b) % 2 = 1 := by rw [hm]; simp [ha, hb]
    rw [if_neg h, if_neg ha, if_neg hb]

theorem steps_xor : ∀ (n a b : Nat), steps n (a ^^^ b) = steps n a ^^^ steps n b
  | 0, _, _ => rfl
  | n + 1, a, b => by simp only [steps, step_xor, steps_xor n]

theorem steps_add : ∀ (m n w : Nat), steps (m + n) w = steps n (steps m w)
  | 0, n, w => by rw [Nat.zero_add]; rfl
  | m + 1, n, w => by rw [Nat.succ_add]; exact steps_add m n (step w)

theorem step_twice (h : Nat) : step (h * 2) = h := by
  unfold step; rw [if_neg (by omega)]; omega

theorem steps_pow : ∀ (n h : Nat), steps n (h * 2 ^ n) = h
  | 0, h => by simp [steps]
  | n + 1, h => by rw [steps, Nat.pow_succ, ← Nat.mul_assoc, step_twice, steps_pow n h]

theorem step_lt (w : Nat) (h : w < 4294967296) : step w < 4294967296 := by
  unfold step poly
  split
  · exact Nat.xor_lt_two_pow (n := 32) (by omega) (by omega)
  · omega

theorem steps_lt : ∀ (n w : Nat), w < 4294967296 → steps n w < 4294967296
  | 0, _, h => h
  | n + 1, w, h => steps_lt n _ (step_lt w h)

theorem step_ne (w : Nat) (h : w < 4294967296) (h0 : w ≠ 0) : step w ≠ 0 := by
  unfold step
  split
  · intro he
    have : w / 2 = poly := by
      have h1 : (w / 2 ^^^ poly) ^^^ poly = poly := by rw [he, Nat.zero_xor]
      rwa [Nat.xor_assoc, Nat.xor_self, Nat.xor_zero] at h1
    unfold poly at this
    omega
  · omega

theorem steps_ne : ∀ (n w : Nat), w < 4294967296 → w ≠ 0 → steps n w ≠ 0
  | 0, _, _, h => h
  | n + 1, w, h, h0 => steps_ne n _ (step_lt w h) (step_ne w h h0)

/-- a word behind octets -/
def goL (w : Nat) (l : List UInt8) : Nat := l.foldl (fun w b => steps 8 (w ^^^ b.toNat)) w

theorem goL_nil (w : Nat) : goL w [] = w := rfl
theorem goL_cons (w : Nat) (b : UInt8) (r : List UInt8) : goL w (b :: r) = goL (steps 8 (w ^^^ b.toNat)) r := rfl

theorem goL_append : ∀ (a b : List UInt8) (w : Nat), goL w (a ++ b) = goL (goL w a) b
  | [], _, w => by rw [goL_nil]; rfl
  | x :: a, b, w => by simp only [List.cons_append, goL_cons]; exact goL_append a b _

theorem goL_snoc (l : List UInt8) (x : UInt8) (w : Nat) : goL w (l ++ [x]) = steps 8 (goL w l ^^^ x.toNat) := by
  rw [goL_append, goL_cons, goL_nil]

theorem goL_lt : ∀ (l : List UInt8) (w : Nat), w < 4294967296 → goL w l < 4294967296
  | [], _, h => h
  | x :: l, w, h => by
    rw [goL_cons]
    exact goL_lt l _ (steps_lt 8 _ (Nat.xor_lt_two_pow (n := 32) (by omega) (by have := x.toNat_lt; omega)))

/-- numbers that share no bit -/
theorem add_eq_xor (b h n : Nat) (hb : b < 2 ^ n) : b + h * 2 ^ n = b ^^^ (h * 2 ^ n) := by
  apply Nat.eq_of_testBit_eq
  intro i
  rw [Nat.add_comm, Nat.mul_comm h, Nat.testBit_two_pow_mul_add h hb, Nat.testBit_xor]
  by_cases hi : i < n
  · rw [if_pos hi, Nat.testBit_two_pow_mul]
    simp [Nat.not_le.2 hi]
  · rw [if_neg hi, Nat.testBit_two_pow_mul, Nat.testBit_lt_two_pow (Nat.lt_of_lt_of_le hb (Nat.pow_le_pow_right (by omega) (by omega)))]
    simp [Nat.not_lt.1 hi]

/-- all octets at once: the word and the octets' number, as many steps as there are bits -/
theorem goL_le : ∀ (l : List UInt8) (w : Nat), goL w l = steps (8 * l.length) (w ^^^ le l)
  | [], w => by simp [goL_nil, le, steps]
  | b :: r, w => by
    have e : le (b :: r) = b.toNat ^^^ (le r * 2 ^ 8) := by
      rw [← add_eq_xor _ _ _ b.toNat_lt]; simp only [le]; omega
    rw [goL_cons, goL_le r, List.length_cons, show 8 * (r.length + 1) = 8 + 8 * r.length by omega, steps_add, e, ← Nat.xor_assoc, steps_xor 8 (w ^^^ b.toNat) (le r * 2 ^ 8), steps_pow]

/-- the table's way of an octet -/
theorem by_table (w o : Nat) (ho : o < 256) : (w / 256) ^^^ steps 8 (w % 256 ^^^ o) = steps 8 (w ^^^ o) := by
  have hx : w % 256 ^^^ o < 2 ^ 8 := Nat.xor_lt_two_pow (by omega) (by omega)
  have e : w ^^^ o = (w % 256 ^^^ o) ^^^ (w / 256 * 2 ^ 8) := by
    have : w = (w % 256) ^^^ (w / 256 * 2 ^ 8) := by rw [← add_eq_xor _ _ 8 (by omega)]; omega
    calc w ^^^ o = ((w % 256) ^^^ (w / 256 * 2 ^ 8)) ^^^ o := by rw [← this]
      _ = _ := by rw [Nat.xor_assoc, Nat.xor_comm _ o, Nat.xor_assoc]
  rw [e, steps_xor 8 (w % 256 ^^^ o) (w / 256 * 2 ^ 8), steps_pow, Nat.xor_comm]

/-- the table's entries are sums of its bits -/
theorem tab_add (bit rest : Nat) (j : Nat) (hb : bit = 2 ^ j) (hr : rest < bit) : steps 8 bit ^^^ steps 8 rest = steps 8 (bit + rest) := by
  subst hb
  have := add_eq_xor rest 1 j hr
  rw [Nat.one_mul] at this
  rw [← steps_xor, Nat.add_comm, this, Nat.xor_comm]

def ones : Nat := 4294967295

theorem not_eq_xor (w : Nat) (h : w < 4294967296) : ones - w = w ^^^ ones := by
  apply Nat.eq_of_testBit_eq
  intro i
  unfold ones
  rw [show 4294967295 - w = 2 ^ 32 - (w + 1) by omega, Nat.testBit_two_pow_sub_succ (by omega), Nat.testBit_xor, show (4294967295 : Nat) = 2 ^ 32 - 1 by rfl, Nat.testBit_two_pow_sub_one]
  by_cases hi : i < 32
  · simp [hi]
  · rw [Nat.testBit_lt_two_pow (Nat.lt_of_lt_of_le (show w < 2 ^ 32 by omega) (Nat.pow_le_pow_right (by omega) (by omega)))]
    simp [hi]

/-- P2.1 -/
def sumL (l : List UInt8) : Nat := ones - goL ones l
def moreL (s : Nat) (l : List UInt8) : Nat := ones - goL (ones - s) l

theorem ones_lt : ones < 4294967296 := by decide
theorem sumL_lt (l : List UInt8) : sumL l < 4294967296 := by unfold sumL ones; omega
theorem moreL_zero (l : List UInt8) : moreL 0 l = sumL l := rfl
theorem moreL_sum (a b : List UInt8) : moreL (sumL a) b = sumL (a ++ b) := by
  have := goL_lt a ones ones_lt
  unfold moreL sumL
  rw [goL_append, show ones - (ones - goL ones a) = goL ones a by unfold ones at *; omega]

/-- P2.2 -/
def sealL (l : List UInt8) : List UInt8 := l ++ leB 4 (sumL l)

theorem sealL_length (l : List UInt8) : (sealL l).length = l.length + 4 := by simp [sealL, leB_length]

/-- a run of 1 to 32 bits turned over, from bit k on: the seal is broken -/
theorem turned (s s' : List UInt8) (turn k : Nat) (h0 : turn ≠ 0) (ht : turn < 4294967296) (hl : s'.length = s.length) (hk : k ≤ 8 * s.length)
    (hs : goL ones s = steps 32 ones) (hle : le s' = le s ^^^ (turn * 2 ^ k)) : goL ones s' ≠ steps 32 ones := by
  rw [goL_le, hl, hle, ← Nat.xor_assoc, steps_xor, ← goL_le, hs]
  obtain ⟨m, hm⟩ : ∃ m, 8 * s.length = k + m := ⟨_, (Nat.add_sub_cancel' hk).symm⟩
  rw [hm, steps_add, steps_pow]
  intro h
  have := congrArg (steps 32 ones ^^^ ·) h
  simp only [← Nat.xor_assoc, Nat.xor_self, Nat.zero_xor] at this
  exact steps_ne m turn ht h0 this

end Go.Proofs.YtjcmphjjkeigjaaGreat

namespace Go.Proofs.YtjcmphjjkeigjaaGreat
set_option linter.unusedVariables false
set_option linter.unusedSimpArgs false

/-- a put: where, and its octets -/
abbrev Pt := Int × List UInt8

def wrsOf : Dk → List Pt → Int × Dk
  | D, [] => (0, D)
  | D, p :: L => if (wrOf D p.1 p.2.length p.2).1 = 0 then wrsOf (wrOf D p.1 p.2.length p.2).2 L else wrOf D p.1 p.2.length p.2

inductive Stp where
  | flush
  | write (L : List Pt)

def Stp.play : Stp → Dk → Int × Dk
  | .flush, D => flOf D
  | .write L, D => wrsOf D L
def Stp.cost : Stp → Nat
  | .flush => 0
  | .write L => L.length

def plays : List Stp → Dk → Int × Dk
  | [], D => (0, D)
  | s :: r, D => if (s.play D).1 = 0 then plays r (s.play D).2 else s.play D
def costs (r : List Stp) : Nat := (r.map Stp.cost).sum

theorem wrOf_len (D : Dk) (i : Int) (m : Nat) (l : List UInt8) : (wrOf D i m l).2.secs.length = D.secs.length := (Fit.wr (n := D.secs.length) (k := D.waits.length) ⟨rfl, Nat.le_refl _⟩ i m l).1
theorem wrOf_waits (D : Dk) (i : Int) (m : Nat) (l : List UInt8) : (wrOf D i m l).2.waits.length ≤ D.waits.length + 1 := (Fit.wr (n := D.secs.length) (k := D.waits.length) ⟨rfl, Nat.le_refl _⟩ i m l).2
theorem flOf_len (D : Dk) : (flOf D).2.secs.length = D.secs.length := (Fit.fl (n := D.secs.length) (k := D.waits.length) ⟨rfl, Nat.le_refl _⟩).1
theorem flOf_waits (D : Dk) : (flOf D).2.waits.length ≤ D.waits.length := (Fit.fl (n := D.secs.length) (k := D.waits.length) ⟨rfl, Nat.le_refl _⟩).2

theorem wrsOf_len : ∀ (L : List Pt) (D : Dk), (wrsOf D L).2.secs.length = D.secs.length
  | [], D => rfl
  | p :: L, D => by
    unfold wrsOf
    split
    · rw [wrsOf_len L, wrOf_len]
    · exact wrOf_len _ _ _ _
theorem wrsOf_waits : ∀ (L : List Pt) (D : Dk), (wrsOf D L).2.waits.length ≤ D.waits.length + L.length
  | [], D => by simp [wrsOf]
  | p :: L, D => by
    have h := wrOf_waits D p.1 p.2.length p.2
    unfold wrsOf
    split
    · have := wrsOf_waits L (wrOf D p.1 p.2.length p.2).2
      simp only [List.length_cons]; omega
    · simp only [List.length_cons]; omega
theorem play_len (s : Stp) (D : Dk) : (s.play D).2.secs.length = D.secs.length := by
  cases s with
  | flush => exact flOf_len D
  | write L => exact wrsOf_len L D
theorem play_waits (s : Stp) (D : Dk) : (s.play D).2.waits.length ≤ D.waits.length + s.cost := by
  cases s with
  | flush => exact flOf_waits D
  | write L => exact wrsOf_waits L D
theorem plays_len : ∀ (r : List Stp) (D : Dk), (plays r D).2.secs.length = D.secs.length
  | [], D => rfl
  | s :: r, D => by
    unfold plays
    split
    · rw [plays_len r, play_len]
    · exact play_len _ _
theorem costs_cons (s : Stp) (r : List Stp) : costs (s :: r) = s.cost + costs r := by simp [costs]
theorem plays_waits : ∀ (r : List Stp) (D : Dk), (plays r D).2.waits.length ≤ D.waits.length + costs r
  | [], D => by simp [plays]
  | s :: r, D => by
    have h := play_waits s D
    rw [costs_cons]
    unfold plays
    split
    · have := plays_waits r (s.play D).2; omega
    · omega

theorem plays_yes {s : Stp} {D : Dk} (r : List Stp) (h : (s.play D).1 = 0) : plays (s :: r) D = plays r (s.play D).2 := by simp [plays, h]
theorem plays_no {s : Stp} {D : Dk} (r : List Stp) (h : (s.play D).1 ≠ 0) : plays (s :: r) D = s.play D := by simp [plays, h]
/-! ### transactions that may be -/
def okAt (L : List Pt) (size : Int) (k : Nat) : Bool :=
  !((L.take k).any fun q => q.1 == (L.getD k (0, [])).1) && (decide (41 ≤ (L.getD k (0, [])).1) && (decide ((L.getD k (0, [])).1 < size) && decide ((L.getD k (0, [])).2.length = 128)))
def mayB (L : List Pt) (size : Int) : Bool := decide (1 ≤ L.length) && (decide (L.length ≤ 40) && (List.range L.length).all (okAt L size))

structure MayP (L : List Pt) (size : Int) : Prop where
  one : 1 ≤ L.length
  few : L.length ≤ 40
  ok : ∀ k, k < L.length → okAt L size k = true

theorem may_iff (L : List Pt) (size : Int) : mayB L size = true ↔ MayP L size := by
  unfold mayB
  simp only [Bool.and_eq_true, decide_eq_true_eq, List.all_eq_true, List.mem_range]
  exact ⟨fun ⟨h1, h2, h3⟩ => ⟨h1, h2, h3⟩, fun h => ⟨h.one, h.few, h.ok⟩⟩
theorem okAt_iff (L : List Pt) (size : Int) (k : Nat) (hk : k < L.length) : okAt L size k = true ↔ (∀ j, j < k → (L.getD j (0, [])).1 ≠ (L.getD k (0, [])).1) ∧ 41 ≤ (L.getD k (0, [])).1 ∧ (L.getD k (0, [])).1 < size ∧ (L.getD k (0, [])).2.length = 128 := by
  unfold okAt
  simp only [Bool.and_eq_true, Bool.not_eq_true', decide_eq_true_eq, List.any_eq_false, beq_iff_eq]
  refine and_congr_left fun _ => ⟨fun h j hj => ?_, fun h q hq => ?_⟩
  · have hjl : j < L.length := by omega
    have : L.getD j (0, []) ∈ L.take k := by
      rw [List.mem_iff_getElem?]
      exact ⟨j, by rw [List.getElem?_take_of_lt hj, List.getD, List.getElem?_eq_getElem hjl]; rfl⟩
    exact h _ this
  · obtain ⟨j, hj⟩ := List.mem_iff_getElem?.1 hq
    have hjk : j < k := by
      have := (List.getElem?_eq_some_iff.1 hj).1
      simp at this; omega
    rw [List.getElem?_take_of_lt hjk] at hj
    have := h j hjk
    rw [List.getD, hj] at this
    exact this
theorem MayP.at {L : List Pt} {size : Int} (h : MayP L size) (p : Pt) (hp : p ∈ L) : 41 ≤ p.1 ∧ p.1 < size ∧ p.2.length = 128 := by
  obtain ⟨k, hk⟩ := List.mem_iff_getElem?.1 hp
  have hl : k < L.length := (List.getElem?_eq_some_iff.1 hk).1
  have := ((okAt_iff L size k hl).1 (h.ok k hl)).2
  rw [List.getD, hk] at this
  exact this
theorem MayP.more {L : List Pt} {a b : Int} (h : MayP L a) (hab : a ≤ b) : MayP L b := by
  refine ⟨h.one, h.few, fun k hk => ?_⟩
  have := (okAt_iff L a k hk).1 (h.ok k hk)
  exact (okAt_iff L b k hk).2 ⟨this.1, this.2.1, by omega, this.2.2.2⟩
theorem MayP.ne {L : List Pt} {size : Int} (h : MayP L size) (j k : Nat) (hj : j < L.length) (hk : k < L.length) (hjk : j ≠ k) : (L.getD j (0, [])).1 ≠ (L.getD k (0, [])).1 := by
  rcases Nat.lt_or_gt_of_ne hjk with h1 | h1
  · exact ((okAt_iff L size k hk).1 (h.ok k hk)).1 j h1
  · exact fun e => ((okAt_iff L size j hj).1 (h.ok j hj)).1 k h1 e.symm

/-! ### heads -/
def bytesL (L : List Pt) : List UInt8 := L.flatMap (·.2)
def placesL (L : List Pt) : List UInt8 := L.flatMap fun p => leB 2 p.1.toNat
def markL : List UInt8 := [116, 110, 108, 106]
def hdRaw (L : List Pt) : List UInt8 := markL ++ (leB 2 L.length ++ (leB 4 (sumL (bytesL L)) ++ placesL L))
def hdL (L : List Pt) : List UInt8 := sealL (hdRaw L) ++ List.replicate (128 - (hdRaw L).length - 4) 0

theorem placesL_length (L : List Pt) : (placesL L).length = 2 * L.length := by
  induction L with
  | nil => rfl
  | cons p L ih => simp only [placesL, List.flatMap_cons, List.length_append, leB_length, List.length_cons] at *; omega
theorem hdRaw_length (L : List Pt) : (hdRaw L).length = 10 + 2 * L.length := by
  simp [hdRaw, markL, leB_length, placesL_length]; omega
theorem hdL_length (L : List Pt) (h : L.length ≤ 40) : (hdL L).length = 128 := by
  simp [hdL, sealL_length, hdRaw_length]; omega

def copiesL (L : List Pt) : List Pt := L.zipIdx.map fun x => (1 + (x.2 : Int), x.1.2)
theorem copiesL_length (L : List Pt) : (copiesL L).length = L.length := by simp [copiesL]

def formatR : List Stp := [.write [(0, sec 0)], .flush]
def homeR (L : List Pt) : List Stp := [.write L, .flush, .write [(0, sec 0)], .flush]
def commitR (L : List Pt) : List Stp := [.write (copiesL L), .flush, .write [(0, hdL L)], .flush, .write L, .flush, .write [(0, sec 0)], .flush]

def formatOf (D : Dk) : Int × Dk := if 41 < D.secs.length then plays formatR D else (1, D)
def commitOf (D : Dk) (L : List Pt) : Int × Dk := if mayB L D.secs.length then plays (commitR L) D else (1, D)

/-- the puts that the journal's sectors name -/
def namedL (R : List (List UInt8)) : List Pt :=
  if 40 < le (((R.getD 0 []).drop 4).take 2) then [] else (List.range (le (((R.getD 0 []).drop 4).take 2))).map fun k => ((le (((R.getD 0 []).drop (10 + 2 * k)).take 2) : Nat), R.getD (1 + k) [])
def begunL (R : List (List UInt8)) (size : Int) : List Pt := if mayB (namedL R) size && hdL (namedL R) == R.getD 0 [] then namedL R else []
def rowsL (D : Dk) : List (List UInt8) := (List.range 41).map D.content

def recR (L : List Pt) : List Stp := (if L = [] then [] else [.write L, .flush]) ++ formatR
def recoverOf (D : Dk) : Int × Int × Dk :=
  if ¬ 41 < D.secs.length then (0, 1, D)
  else if D.power = false then (0, 10, D)
  else if D.content 0 = sec 0 then (0, 0, D)
  else (if (plays (recR (begunL (rowsL D) D.secs.length)) D).1 = 0 then ((begunL (rowsL D) D.secs.length).length : Int) else 0, plays (recR (begunL (rowsL D) D.secs.length)) D)

theorem commitOf_len (D : Dk) (L : List Pt) : (commitOf D L).2.secs.length = D.secs.length := by
  unfold commitOf; split
  · exact plays_len _ _
  · rfl
theorem formatOf_len (D : Dk) : (formatOf D).2.secs.length = D.secs.length := by
  unfold formatOf; split
  · exact plays_len _ _
  · rfl
theorem recoverOf_len (D : Dk) : (recoverOf D).2.2.secs.length = D.secs.length := by
  unfold recoverOf
  split; · rfl
  split; · rfl
  split; · rfl
  exact plays_len _ _
theorem formatR_costs : costs formatR = 1 := by simp [costs, formatR, Stp.cost]
theorem commitR_costs (L : List Pt) (h : L.length ≤ 40) : costs (commitR L) ≤ 82 := by simp [costs, commitR, Stp.cost, copiesL_length]; omega
theorem recR_costs (L : List Pt) (h : L.length ≤ 40) : costs (recR L) ≤ 41 := by
  unfold recR; split <;> simp [costs, formatR, Stp.cost] <;> omega
theorem begunL_length (R : List (List UInt8)) (size : Int) : (begunL R size).length ≤ 40 := by
  unfold begunL
  split
  · rename_i h
    simp only [Bool.and_eq_true] at h
    exact ((may_iff _ _).1 h.1).few
  · simp
theorem begunL_may (R : List (List UInt8)) (size : Int) (h : begunL R size ≠ []) : mayB (begunL R size) size = true ∧ hdL (begunL R size) = R.getD 0 [] := by
  unfold begunL at h ⊢
  split at h
  · rename_i h1
    rw [if_pos h1]
    simpa using h1
  · exact absurd rfl h
theorem Fit.format {n k : Nat} {D : Dk} (h : Fit n k D) : Fit n (k + 82) (formatOf D).2 := by
  refine ⟨(formatOf_len D).trans h.1, ?_⟩
  have h2 := h.2
  unfold formatOf
  split
  · have := plays_waits formatR D
    have := formatR_costs
    omega
  · show D.waits.length ≤ _; omega
end Go.Proofs.YtjcmphjjkeigjaaGreat
