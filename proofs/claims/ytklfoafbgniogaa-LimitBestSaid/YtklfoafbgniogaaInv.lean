/-
  A region that draws its order, by an invariant: what holds when a set of its operations has been done, whichever came first.
-/
import Derived.Test.YtklfoafbgniogaaHead
namespace Go.Proofs.Ytklfoafbgniogaa
open Go.RowKit
set_option linter.unusedVariables false
set_option linter.unusedSimpArgs false

section
variable {P : Program} {Q : Exit → Act → World → Prop}

/-- all lists of so many truth values -/
def allB : Nat → List (List Bool)
  | 0 => [[]]
  | n + 1 => (allB n).flatMap fun l => [false :: l, true :: l]
theorem mem_allB : ∀ l : List Bool, l ∈ allB l.length
  | [] => by simp [allB]
  | b :: l => by
    have := mem_allB l
    simp only [List.length_cons, allB, List.mem_flatMap]
    exact ⟨l, this, by cases b <;> simp⟩
/-- whatever has been done, something may be done next, but when all is -/
def goesB (ops : Array Oper) : Bool := (allB ops.size).all fun l => l.all (· = true) || !(Region.ready .any ops l.toArray).isEmpty

/-- one step: the operation, with what it waits for -/
def stepI (P : Program) (l : List Oper) (Q : Exit → Act → World → Prop) (Inv : (Nat → Bool) → Act → World → Prop) (i : Nat) (o : Oper) : Prop :=
  ∀ s a w, s i = false → (o.after.toList.all fun e => !Region.binds .any e || s e.on) = true → Inv s a w →
    ∀ K : Act → World → Prop, (∀ a' w', Inv (fun j => if j = i then true else s j) a' w' → K a' w') → if Region.wanted o (yielded l.toArray a.tmps) = true then o.wp P a w K Q else K (a.put o.dst undef) w
def stepsI (P : Program) (l : List Oper) (Q : Exit → Act → World → Prop) (Inv : (Nat → Bool) → Act → World → Prop) : Nat → List Oper → Prop
  | _, [] => True
  | i, o :: r => stepI P l Q Inv i o ∧ stepsI P l Q Inv (i + 1) r
theorem stepsI_at {l : List Oper} {Inv : (Nat → Bool) → Act → World → Prop} : ∀ (r : List Oper) (i j : Nat) (o : Oper), stepsI P l Q Inv i r → r[j]? = some o → stepI P l Q Inv (i + j) o
  | [], _, _, _, _, h => by simp at h
  | x :: r, i, 0, o, hs, h => by
    simp only [List.getElem?_cons_zero, Option.some.injEq] at h
    subst h; exact hs.1
  | x :: r, i, j + 1, o, hs, h => by
    have := stepsI_at r (i + 1) j o hs.2 (by simpa using h)
    rwa [show i + 1 + j = i + (j + 1) by omega] at this

theorem count_set {x : Array Bool} {i : Nat} (h : x[i]? = some false) : (x.setIfInBounds i true).count false + 1 = x.count false := by
  have hi := (Array.getElem?_eq_some_iff.1 h).1
  have hx : x[i] = false := (Array.getElem?_eq_some_iff.1 h).2
  rw [Array.setIfInBounds, dif_pos hi, Array.count_set, hx]
  have : 0 < x.count false := Array.count_pos_iff.2 (by rw [← hx]; exact Array.getElem_mem hi)
  simp
  omega

theorem wpAny_inv {l : List Oper} (Inv : (Nat → Bool) → Act → World → Prop) (hs : stepsI P l Q Inv 0 l) (hend : ∀ s a w, (∀ i, i < l.length → s i = true) → Inv s a w → Q .normal a w) (hg : goesB l.toArray = true) :
    ∀ (f : Nat) (listed : Array Bool) (a : Act) (w : World), listed.size = l.length → listed.count false = f → Inv (fun j => listed.getD j false) a w → wpAny P .any l.toArray Q f listed a w := by
  have key : ∀ (listed : Array Bool) (a : Act) (w : World), listed.size = l.length → Inv (fun j => listed.getD j false) a w → Region.ready .any l.toArray listed = [] → Q .normal a w := by
    intro listed a w hl hI hr
    have h1 := List.all_eq_true.1 hg listed.toList (by have := mem_allB listed.toList; rwa [Array.length_toList, hl] at this)
    rw [Array.toArray_toList, hr] at h1
    simp only [List.isEmpty_nil, Bool.not_true, Bool.or_false, List.all_eq_true, decide_eq_true_eq] at h1
    refine hend _ a w (fun i hi => ?_) hI
    have hil : i < listed.size := by omega
    show listed.getD i false = true
    rw [Array.getD, dif_pos hil]
    exact h1 _ (by simp)
  intro f
  induction f with
  | zero =>
    intro listed a w hl hc hI
    have hr : Region.ready .any l.toArray listed = [] := by
      apply List.eq_nil_iff_forall_not_mem.2
      intro j hj
      obtain ⟨h1, o, ho, _⟩ := mem_ready.1 hj
      have hjl : j < listed.size := by have := (Array.getElem?_eq_some_iff.1 ho).1; simp at this; omega
      rw [Array.getD, dif_pos hjl] at h1
      have : 0 < listed.count false := Array.count_pos_iff.2 (by rw [← h1]; exact Array.getElem_mem hjl)
      omega
    exact ⟨hr, key listed a w hl hI hr⟩
  | succ f ih =>
    intro listed a w hl hc hI
    refine ⟨key listed a w hl hI, fun i hi => ?_⟩
    obtain ⟨h1, o, ho, hd⟩ := mem_ready.1 hi
    have hil : i < listed.size := by have := (Array.getElem?_eq_some_iff.1 ho).1; simp at this; omega
    rw [Array.getD, dif_pos hil] at h1
    have hol : l[i]? = some o := by simpa using ho
    have hst := stepsI_at l 0 i o hs hol
    rw [Nat.zero_add] at hst
    have hcs := count_set (x := listed) (i := i) (by rw [Array.getElem?_eq_getElem hil]; exact congrArg some h1)
    have hfun : (fun j => if j = i then true else listed.getD j false) = fun j => (listed.setIfInBounds i true).getD j false := by
      funext j
      by_cases hj : j = i
      · subst hj
        rw [if_pos rfl, Array.getD, dif_pos (by simpa using hil)]
        simp
      · rw [if_neg hj]
        simp only [Array.getD_eq_getD_getElem?, Array.getElem?_setIfInBounds]
        rw [if_neg (fun e => hj e.symm)]
    have hpre := hst (fun j => listed.getD j false) a w (by show listed.getD i false = false; rw [Array.getD, dif_pos hil]; exact h1) (by
      rw [List.all_eq_true]
      intro e he
      by_cases hb : Region.binds .any e = true
      · rw [hd e (by simpa using he) hb]; simp
      · simp [hb]) hI (fun a' w' => wpAny P .any l.toArray Q f (listed.setIfInBounds i true) a' w') (fun a' w' h => ih _ a' w' (by simpa using hl) (by omega) (by rw [hfun] at h; exact h))
    unfold wpOp
    rw [ho]
    simp only
    by_cases hw : Region.wanted o (yielded l.toArray a.tmps) = true
    · rw [if_pos hw] at hpre ⊢
      exact .inl hpre
    · rw [if_neg hw] at hpre ⊢
      exact hpre

theorem region_inv {id : Nat} {a : Act} {w : World} {l : List Oper} (Inv : (Nat → Bool) → Act → World → Prop) (hm : P.follows .mixedOrders = true) (hg : goesB l.toArray = true)
    (h0 : Inv (fun _ => false) a w.drew) (hs : stepsI P l Q Inv 0 l) (hend : ∀ s a w, (∀ i, i < l.length → s i = true) → Inv s a w → Q .normal a w) : (Code.region id l.toArray true).wp P Q a w := by
  refine wp_region_any hm ?_
  have hf : (fun j => (Array.replicate l.toArray.size false).getD j false) = fun _ => false := by
    funext j
    simp only [Array.getD_eq_getD_getElem?, Array.getElem?_replicate]
    split <;> rfl
  exact wpAny_inv Inv hs hend hg _ _ _ _ (by simp) (by simp) (by rw [hf]; exact h0)
theorem wp_store_row {o : Oper} {a : Act} {w : World} {K : Act → World → Prop} (ty : TypeId) (x y : Operand) (ho : o.op = .store ty x y)
    (g : Nat) (cells : Array Value) (hx : a.eval x = .pointer (some ⟨g, 0, none⟩)) (hy : a.eval y = .agg cells)
    (t : TypeId) (old : Array Value) (hg : w.heap[g]? = some (.cells old t (0, 0))) (hi : (P.info? ty).map (·.size) = some cells.size)
    (hold : old.size = cells.size) (h1 : cells.all (·.oneCell') = true)
    (h : K (a.put o.dst undef) (w.setRow g cells)) : o.wp P a w K Q := by
  unfold Oper.wp
  simp only [execOp, ho, hx, hy, Instr.storeAt, Instr.sureAddr, Sem.run_bind, Sem.run_pure, Result.andThen_ok, run_storeVar_row w g t ty old cells hg hi hold h1]
  exact h
end

end Go.Proofs.Ytklfoafbgniogaa
