/-
  A region that draws its order: a head in whatever order (reads, and what makes memory), then a tail that waits for all of it.
  Reads yield under a condition S on the world that every step of the head keeps: so the order of the text serves for all.
-/
import Derived.Test.YtonfppbijofapaaRecs
import Derived.Deep.RegionHeld3
namespace Go.Proofs.Ytonfppbijofapaa
open Go.RowKit
set_option linter.unusedVariables false
set_option linter.unusedSimpArgs false

section
variable {P : Program} {ops : Array Oper} {Q : Exit → Act → World → Prop} {md : Region.Mode} {S : World → Prop}

theorem letsOut_of {Q : Exit → Act → World → Prop} (h : LetsOut (NoPanic Q)) : LetsOut Q := by
  obtain ⟨a, w, h⟩ := h
  exact ⟨a, w, h⟩

theorem wp_calm {o : Oper} {a : Act} {w : World} {K : Act → World → Prop} (hh : o.wp P a w K (NoPanic Q)) : o.wp P a w K Q := by
  unfold Oper.wp at *
  generalize (execOp a.eval o).run P w = r at *
  cases r with
  | ok n w' =>
    cases n <;> simp only [Oper.upon] at hh ⊢ <;>
      first
        | exact hh
        | exact Calls.mono hh (fun e w'' he => by cases e <;> first | exact he | exact (he : False).elim | exact letsOut_of he)
  | halt x w' => cases x <;> simp only [Oper.upon] at hh ⊢ <;> first | exact hh | exact (hh : False).elim

theorem wpOp_calm {i : Nat} {a : Act} {w : World} {K : Act → World → Prop} (hh : wpOp P ops (NoPanic Q) i K a w) : wpOp P ops Q i K a w := by
  unfold wpOp at *
  split
  · rename_i h; simpa [h] using hh
  · rename_i o h
    simp only [h] at hh
    split
    · rename_i hw
      simp only [hw, if_true] at hh
      exact hh.imp wp_calm fun ⟨h1, h2⟩ => ⟨h1, letsOut_of h2⟩
    · rename_i hw
      simpa [hw] using hh

/-- so many steps of the head, whichever comes up; then L -/
def wpHd (P : Program) (md : Region.Mode) (ops : Array Oper) (Q : Exit → Act → World → Prop) (S : World → Prop) (n : Nat) (L : Array Bool → Act → World → Prop) : Nat → Array Bool → Act → World → Prop
  | 0, listed, a, w => L listed a w
  | f + 1, listed, a, w => Region.ready md ops listed ≠ [] ∧ ∀ i ∈ Region.ready md ops listed, i < n ∧ wpOp P ops (NoPanic Q) i (fun a' w' => S w' ∧ wpHd P md ops Q S n L f (listed.setIfInBounds i true) a' w') a w

theorem wpAny_of_hd {n g : Nat} {L : Array Bool → Act → World → Prop} (hL : ∀ listed a w, L listed a w → wpAny P md ops Q g listed a w) :
    ∀ (f : Nat) (listed : Array Bool) (a : Act) (w : World), wpHd P md ops Q S n L f listed a w → wpAny P md ops Q (f + g) listed a w
  | 0, listed, a, w, h => by rw [Nat.zero_add]; exact hL _ _ _ h
  | f + 1, listed, a, w, h => by
    rw [show f + 1 + g = (f + g) + 1 by omega]
    exact ⟨fun h0 => absurd h0 h.1, fun i hi => wpOp_mono (fun a' w' h' => wpAny_of_hd hL f _ a' w' h'.2) (wpOp_calm (h.2 i hi).2)⟩

theorem wpHd_first {n i : Nat} {oi : Oper} {v : Value} {L : Array Bool → Act → World → Prop} (hi : ops[i]? = some oi) (hsel : ∀ (j : Nat) (o : Oper) cs b, ops[j]? = some o → o.op ≠ .select cs b)
    (hin : i < n) (hT : ∀ t, n ≤ t → t < ops.size → Region.waitsFor md ops t i = true) (hdone : ∀ listed a w, L listed a w → ∀ j ∈ Region.ready md ops listed, n ≤ j) :
    ∀ (f : Nat) (listed : Array Bool) (a : Act) (w : World),
      (∀ j oj, ops[j]? = some oj → j ≠ i → listed.getD j true = false → (∀ e ∈ oj.after, Region.binds md e = true → e.on ≠ i) → oi.apart ops oj = true) →
      i ∈ Region.ready md ops listed → YieldsIf P ops S oi v a → S w →
      wpHd P md ops Q S n L f (listed.setIfInBounds i true) (a.put oi.dst v) w → wpHd P md ops Q S n L (f + 1) listed a w := by
  have early : ∀ (listed : Array Bool), i ∈ Region.ready md ops listed → ∀ j ∈ Region.ready md ops listed, j < n := fun listed hr j hj => by
    rcases Nat.lt_or_ge j n with h | h
    · exact h
    · obtain ⟨_, oj, hoj, hall⟩ := mem_ready.1 hj
      obtain ⟨oj', hoj', e, he, hb, hon⟩ := Region.waitsFor_spec (hT j h (Array.getElem?_eq_some_iff.1 hoj).1)
      have : oj' = oj := Option.some.inj (hoj'.symm.trans hoj)
      subst this
      have h1 := hall e he hb
      rw [hon, getD_both (mem_ready.1 hr).1] at h1
      cases h1
  intro f
  induction f with
  | zero =>
    intro listed a w _ hr hy hS H
    refine ⟨fun h => (by rw [h] at hr; cases hr), fun j hj => ⟨early listed hr j hj, ?_⟩⟩
    by_cases hji : j = i
    · subst hji; exact hy.wpOp hi hS ⟨hS, H⟩
    · have := hdone _ _ _ H j (ready_mono hj hji)
      have := early listed hr j hj
      omega
  | succ f ih =>
    intro listed a w hfree hr hy hS H
    refine ⟨fun h => (by rw [h] at hr; cases hr), fun j hj => ⟨early listed hr j hj, ?_⟩⟩
    by_cases hji : j = i
    · subst hji; exact hy.wpOp hi hS ⟨hS, H⟩
    · have h1 := (H.2 j (ready_mono hj hji)).2
      obtain ⟨hjun, oj, hoj, hall⟩ := mem_ready.1 hj
      have hnot : ∀ e ∈ oj.after, Region.binds md e = true → e.on ≠ i := fun e he hb heq => by
        have h1 := hall e he hb
        rw [heq, getD_both (mem_ready.1 hr).1] at h1
        cases h1
      have h2 := wpOp_putIf (Q := NoPanic Q) hoj (hfree j oj hoj hji hjun hnot) (fun cs b => hsel i oi cs b hi) (fun cs b => hsel j oj cs b hoj) (fun _ _ _ h => h) hy h1
      have hfree' : ∀ k ok, ops[k]? = some ok → k ≠ i → (listed.setIfInBounds j true).getD k true = false →
          (∀ e ∈ ok.after, Region.binds md e = true → e.on ≠ i) → oi.apart ops ok = true := fun k ok hk hki hun hno => by
        refine hfree k ok hk hki ?_ hno
        by_cases hjk : j = k
        · subst hjk; exact hjun
        · rw [getD_set_ne true hjk] at hun; exact hun
      refine wpOp_mono (fun a' w' h3 => ⟨h3.2.1, ih (listed.setIfInBounds j true) a' w' hfree' (ready_mono hr (Ne.symm hji)) h3.1 h3.2.1 ?_⟩) h2
      rw [Array.setIfInBounds_comm _ _ hji]
      exact h3.2.2

/-- the operations of these numbers -/
def pickO (l : List Oper) (order : List Nat) : List (Nat × Oper) := order.filterMap fun i => (l[i]?).map fun o => (i, o)

/-- the head in an order of our choice: reads yield under S; a mover (its number in M) is carried out, and S is shown anew -/
def wpSeqH (P : Program) (ops : Array Oper) (Q : Exit → Act → World → Prop) (S : World → Prop) (M : List Nat) (L : Act → World → Prop) : List (Nat × Oper) → Act → World → Prop
  | [], a, w => L a w
  | (k, o) :: rest, a, w =>
    if M.contains k then
      if Region.wanted o (yielded ops a.tmps) = true then o.wp P a w (fun a' w' => S w' ∧ wpSeqH P ops Q S M L rest a' w') (NoPanic Q) else S w ∧ wpSeqH P ops Q S M L rest (a.put o.dst undef) w
    else ∃ v, YieldsIf P ops S o v a ∧ wpSeqH P ops Q S M L rest (a.put o.dst v) w

def lexM (md : Region.Mode) (ops : Array Oper) (M : List Nat) (g n : Nat) : List Nat → Array Bool → Bool
  | [], listed => Region.seqB md ops g n listed
  | k :: r, listed => decide (k < n) && (if M.contains k then decide (Region.ready md ops listed = [k]) else (Region.ready md ops listed).contains k && Region.free md ops listed k) && lexM md ops M g n r (listed.setIfInBounds k true)

def headB (md : Region.Mode) (ops : Array Oper) (n : Nat) (order M : List Nat) : Bool :=
  Region.noSelect ops && decide (n ≤ ops.size) && decide (order.length = n) && ((List.range ops.size).all fun t => decide (t < n) || (List.range n).all fun i => Region.waitsFor md ops t i) && lexM md ops M (ops.size - n) n order (Array.replicate ops.size false)

theorem wpHd_lex {n g : Nat} {M : List Nat} {l0 : List Oper} {Lq : Act → World → Prop} (hops : ops = l0.toArray) (hsz : n ≤ ops.size) (hsel : Region.noSelect ops = true) (hT : ∀ i, i < n → ∀ t, n ≤ t → t < ops.size → Region.waitsFor md ops t i = true) :
    ∀ (order : List Nat) (listed : Array Bool) (a : Act) (w : World), S w →
    lexM md ops M g n order listed = true → wpSeqH P ops Q S M Lq (pickO l0 order) a w →
    wpHd P md ops Q S n (fun listed' a' w' => Region.seqB md ops g n listed' = true ∧ Lq a' w') order.length listed a w
  | [], listed, a, w, hS, hB, h => ⟨by simpa [lexM] using hB, h⟩
  | k :: l, listed, a, w, hS, hB, h => by
    simp only [lexM, Bool.and_eq_true, decide_eq_true_eq] at hB
    obtain ⟨⟨hkn, hB1⟩, hB2⟩ := hB
    obtain ⟨o, h0⟩ : ∃ o, ops[k]? = some o := ⟨ops[k]'(by omega), Array.getElem?_eq_getElem _⟩
    have h0l : l0[k]? = some o := by rw [hops] at h0; simpa using h0
    rw [show pickO l0 (k :: l) = (k, o) :: pickO l0 l by simp [pickO, h0l]] at h
    unfold wpSeqH at h
    by_cases hm : M.contains k = true
    · rw [if_pos hm] at hB1 h
      have hr : Region.ready md ops listed = [k] := by simpa using hB1
      refine ⟨by rw [hr]; simp, fun i hi => ?_⟩
      rw [hr] at hi
      have hik : i = k := by simpa using hi
      subst hik
      refine ⟨hkn, ?_⟩
      unfold wpOp
      simp only [h0]
      split at h
      · rename_i hw
        rw [if_pos hw]
        exact .inl (Oper.wp_mono (fun a' w' h' => ⟨h'.1, wpHd_lex hops hsz hsel hT l _ a' w' h'.1 hB2 h'.2⟩) h)
      · rename_i hw
        rw [if_neg hw]
        exact ⟨h.1, wpHd_lex hops hsz hsel hT l _ _ w hS hB2 h.2⟩
    · rw [if_neg hm] at hB1 h
      simp only [Bool.and_eq_true] at hB1
      obtain ⟨v, hy, hK⟩ := h
      exact wpHd_first h0 (Region.noSelect_spec hsel) hkn (hT k hkn) (fun listed' a' w' hL => seqB_ready hL.1) l.length listed a w (Region.free_spec h0 hB1.2) (by simpa using hB1.1) hy hS
        (wpHd_lex hops hsz hsel hT l _ _ w hS hB2 hK)

/-- THE LAW -/
theorem region_head {id : Nat} {a : Act} {w : World} {l : List Oper} (n : Nat) (order M : List Nat) (S : World → Prop) (hm : P.follows .mixedOrders = true) (hB : headB .any l.toArray n order M = true) (hS : S w.drew)
    (h : wpSeqH P l.toArray Q S M (fun a' w' => wpList P l.toArray Q (l.drop n) a' w') (pickO l order) a w.drew) : (Code.region id l.toArray true).wp P Q a w := by
  simp only [headB, Bool.and_eq_true, decide_eq_true_eq, List.all_eq_true, List.mem_range, Bool.or_eq_true] at hB
  obtain ⟨⟨⟨⟨hB1, hB2⟩, hlen⟩, hB3⟩, hB4⟩ := hB
  have hn : n ≤ l.length := by simpa using hB2
  have hg : l.toArray.size = n + (l.toArray.size - n) := by simp; omega
  have key : wpAny P .any l.toArray Q (n + (l.toArray.size - n)) (Array.replicate l.toArray.size false) a w.drew := by
    refine wpAny_of_hd (n := n) (S := S) (L := fun listed' a' w' => Region.seqB .any l.toArray (l.toArray.size - n) n listed' = true ∧ wpList P l.toArray Q (l.drop n) a' w') ?_ n _ a _ ?_
    · intro listed a' w' ⟨h1, h2⟩
      have hd : (l.drop n).length = l.toArray.size - n := by simp
      rw [← hd] at h1 ⊢
      exact wpAny_of_seq (l.drop n) n listed a' w' (fun j => by simp [List.getElem?_drop]) h1 h2
    · have := wpHd_lex (P := P) (Q := Q) (S := S) (n := n) (g := l.toArray.size - n) (M := M) (Lq := fun a' w' => wpList P l.toArray Q (l.drop n) a' w') (md := .any) (ops := l.toArray) (l0 := l) rfl hB2 hB1
        (fun i hi t ht1 ht2 => ((hB3 t ht2).resolve_left (by omega)) i hi) order (Array.replicate l.toArray.size false) a w.drew hS hB4 h
      rw [hlen] at this
      exact this
  rw [← hg] at key
  exact wp_region_any hm key

theorem seqH_nil {M : List Nat} {L : Act → World → Prop} {a : Act} {w : World} (h : L a w) : wpSeqH P ops Q S M L [] a w := h
/-- a read: it yields under S -/
theorem seqH_read {M : List Nat} {L : Act → World → Prop} {k : Nat} {o : Oper} {rest : List (Nat × Oper)} {a : Act} {w : World} (v : Value) (hm : M.contains k = false) (hg : o.guard = none)
    (hv : ∀ u, S u → (execOp a.eval o).run P u = .ok (.value v) u) (h : wpSeqH P ops Q S M L rest (a.put o.dst v) w) : wpSeqH P ops Q S M L ((k, o) :: rest) a w := by
  unfold wpSeqH
  rw [if_neg (by rw [hm]; simp)]
  exact ⟨v, .inl ⟨by simp [Region.wanted, hg], hv⟩, h⟩
/-- a mover -/
theorem seqH_move {M : List Nat} {L : Act → World → Prop} {k : Nat} {o : Oper} {rest : List (Nat × Oper)} {a : Act} {w : World} (hm : M.contains k = true) (hg : o.guard = none)
    (h : ∀ K : Act → World → Prop, (∀ a' w', S w' → wpSeqH P ops Q S M L rest a' w' → K a' w') → o.wp P a w K (NoPanic Q)) : wpSeqH P ops Q S M L ((k, o) :: rest) a w := by
  unfold wpSeqH
  rw [if_pos hm, if_pos (by simp [Region.wanted, hg])]
  exact h _ fun a' w' h1 h2 => ⟨h1, h2⟩
/-- a read behind a guard that is met -/
theorem seqH_readG {M : List Nat} {L : Act → World → Prop} {k : Nat} {o : Oper} {rest : List (Nat × Oper)} {a : Act} {w : World} (v : Value) (hm : M.contains k = false) (hw : Region.wanted o (yielded ops a.tmps) = true)
    (hv : ∀ u, S u → (execOp a.eval o).run P u = .ok (.value v) u) (h : wpSeqH P ops Q S M L rest (a.put o.dst v) w) : wpSeqH P ops Q S M L ((k, o) :: rest) a w := by
  unfold wpSeqH
  rw [if_neg (by rw [hm]; simp)]
  exact ⟨v, .inl ⟨hw, hv⟩, h⟩
/-- an operation whose guard is not met -/
theorem seqH_skip {M : List Nat} {L : Act → World → Prop} {k : Nat} {o : Oper} {rest : List (Nat × Oper)} {a : Act} {w : World} (hm : M.contains k = false) (hw : Region.wanted o (yielded ops a.tmps) = false)
    (h : wpSeqH P ops Q S M L rest (a.put o.dst undef) w) : wpSeqH P ops Q S M L ((k, o) :: rest) a w := by
  unfold wpSeqH
  rw [if_neg (by rw [hm]; simp)]
  exact ⟨undef, .inr ⟨hw, rfl⟩, h⟩
/-- a mover behind a guard that is met -/
theorem seqH_moveG {M : List Nat} {L : Act → World → Prop} {k : Nat} {o : Oper} {rest : List (Nat × Oper)} {a : Act} {w : World} (hm : M.contains k = true) (hw : Region.wanted o (yielded ops a.tmps) = true)
    (h : ∀ K : Act → World → Prop, (∀ a' w', S w' → wpSeqH P ops Q S M L rest a' w' → K a' w') → o.wp P a w K (NoPanic Q)) : wpSeqH P ops Q S M L ((k, o) :: rest) a w := by
  unfold wpSeqH
  rw [if_pos hm, if_pos hw]
  exact h _ fun a' w' h1 h2 => ⟨h1, h2⟩
/-- a mover whose guard is not met -/
theorem seqH_moveSkip {M : List Nat} {L : Act → World → Prop} {k : Nat} {o : Oper} {rest : List (Nat × Oper)} {a : Act} {w : World} (hm : M.contains k = true) (hw : Region.wanted o (yielded ops a.tmps) = false) (hS : S w)
    (h : wpSeqH P ops Q S M L rest (a.put o.dst undef) w) : wpSeqH P ops Q S M L ((k, o) :: rest) a w := by
  unfold wpSeqH
  rw [if_pos hm, if_neg (by rw [hw]; simp)]
  exact ⟨hS, h⟩
/-- the whole of an array or a struct, read -/
theorem seqH_load_mid {M : List Nat} {L : Act → World → Prop} {k : Nat} {o : Oper} {rest : List (Nat × Oper)} {a : Act} {w : World} (hm : M.contains k = false) (hg : o.guard = none) (ty : TypeId) (x : Operand) (ho : o.op = .load ty x)
    (b off : Nat) (hx : a.eval x = .pointer (some ⟨b, off, none⟩)) (cs : List Value) (d : TypeDesc) (hc : ∀ u, S u → u.rangeAt b off cs)
    (hu : P.underlying ty = some d) (hd : d.isRow = true) (hi : (P.info? ty).map (·.size) = some cs.length)
    (h : wpSeqH P ops Q S M L rest (a.put o.dst (.agg cs.toArray)) w) : wpSeqH P ops Q S M L ((k, o) :: rest) a w := by
  refine seqH_read _ hm hg (fun u hS => ?_) h
  unfold execOp
  simp only [ho, hx, Instr.loadAt, Instr.sureAddr, Sem.run_bind, Sem.run_pure, Result.andThen_ok, run_loadVar_mid u b off ty cs d (hc u hS) hu hd hi]
/-- a struct or an array is built -/
theorem seqH_build {M : List Nat} {L : Act → World → Prop} {k : Nat} {o : Oper} {rest : List (Nat × Oper)} {a : Act} {w : World} (hm : M.contains k = false) (hg : o.guard = none) (t : TypeId) (parts : Array (Nat × Operand)) (ho : o.op = .build t parts)
    (vs : Array (Nat × Value)) (hp : (parts.map fun (i, x) => (i, a.eval x)) = vs) (v : Value) (hv : ∀ u, (Instr.build t vs).run P u = .ok v u)
    (h : wpSeqH P ops Q S M L rest (a.put o.dst v) w) : wpSeqH P ops Q S M L ((k, o) :: rest) a w := by
  refine seqH_read v hm hg (fun u hS => ?_) h
  unfold execOp
  simp only [ho, Sem.run_bind, hp, hv u, Result.andThen_ok]
  rfl
theorem wp_buildSliceV {o : Oper} {a : Act} {w : World} {K : Act → World → Prop} (t : TypeId) (len : Nat) (parts : Array (Nat × Operand)) (ho : o.op = .buildSlice t len parts)
    (vs : Array (Nat × Value)) (hp : (parts.map fun (i, x) => (i, a.eval x)) = vs) (v : Value) (w' : World) (hv : (Instr.buildSlice t len vs).run P w = .ok v w') (h : K (a.put o.dst v) w') : o.wp P a w K Q := by
  unfold Oper.wp execOp
  simp only [ho, Sem.run_bind, hp, hv, Result.andThen_ok]
  exact h
theorem wpList_buildSliceV {rest : List Oper} {o : Oper} {a : Act} {w : World} (hg : o.guard = none) (t : TypeId) (len : Nat) (parts : Array (Nat × Operand)) (ho : o.op = .buildSlice t len parts)
    (vs : Array (Nat × Value)) (hp : (parts.map fun (i, x) => (i, a.eval x)) = vs) (v : Value) (w' : World) (hv : (Instr.buildSlice t len vs).run P w = .ok v w') (h : wpList P ops Q rest (a.put o.dst v) w') : wpList P ops Q (o :: rest) a w :=
  wpList_plain hg fun _ hK => wp_buildSliceV t len parts ho vs hp v w' hv (hK _ _ h)
end

end Go.Proofs.Ytonfppbijofapaa
