/-
  Rows of the call's own, so far: whatever records they hold.
-/
import Derived.Test.YtonfppbijofapaaCame
import Derived.Test.YtonfppbijofapaaRecs
namespace Go.Proofs.Ytonfppbijofapaa
open Go.RowKit
set_option linter.unusedVariables false
set_option linter.unusedSimpArgs false

section
variable {α : Type} {f : α → List Value} {e : TypeId} {size : Nat}
/-- records of the call's own, so far -/
def OwnI (f : α → List Value) (e : TypeId) (size : Nat) (w wr : World) (a : Option Addr) (n cap : Nat) (L : List α) : Prop :=
  Recs f wr e size (.slice a n cap) L ∧ L.length = n ∧ (∀ k, (Value.slice a n cap).ownBlock = some k → w.heap.size ≤ k) ∧ Below w.heap.size w wr
/-- records that are handed out -/
def FreshI8 (f : α → List Value) (e : TypeId) (size : Nat) (L : List α) (w : World) (en : Ending) (w' : World) : Prop := ∃ a n cap, en = .returned (.slice a n cap) ∧ OwnI f e size w w' a n cap L
theorem OwnI.nil (w : World) : OwnI f e size w w none 0 0 [] := ⟨Recs.nil _ _ _ _, rfl, fun k hk => by simp [Value.ownBlock] at hk, Below.refl _ _⟩
theorem Recs.came8 {w : World} {a : Option Addr} {n cap : Nat} {L : List α} (h : Recs f w e size (.slice a n cap) L) (hs : ∀ x, (f x).length = size) : CameAt f size w a n cap L := by
  obtain ⟨a', cap', hv, h1, h2⟩ := h.form
  simp only [Value.slice.injEq] at hv
  obtain ⟨rfl, rfl, rfl⟩ := hv
  refine ⟨rfl, h1, h2, fun x _ => hs x, ?_⟩
  by_cases hp : 0 < L.length
  · obtain ⟨g, cap2, hv, _, _, _⟩ := h.form' hp
    simp only [Value.slice.injEq] at hv
    obtain ⟨rfl, _, rfl⟩ := hv
    exact .inr ⟨_, rfl, fun i j x hi hj => by rw [Addr.add_mid, Nat.zero_add]; exact h.cellAt i j x hi hj⟩
  · rcases h.2.2.2 with ⟨hv, h0⟩ | ⟨g, cap2, cur, hv, _⟩
    · simp at hv; exact .inl ⟨hv.1, by omega, hv.2.2⟩
    · simp only [Value.slice.injEq] at hv
      obtain ⟨rfl, _, rfl⟩ := hv
      exact .inr ⟨_, rfl, fun i j x hi hj => by have := (List.getElem?_eq_some_iff.1 hi).1; omega⟩
theorem OwnI.came {w wr : World} {a : Option Addr} {n cap : Nat} {L : List α} (h : OwnI f e size w wr a n cap L) (hs : ∀ x, (f x).length = size) : CameAt f size wr a n cap L := h.1.came8 hs
/-- records laid behind, from a row that was just made -/
theorem OwnI.more {w wr w' : World} {a : Option Addr} {n cap : Nat} {v' : Value} {L M : List α} {o : Obj} (h : OwnI f e size w wr a n cap L) (hr : Recs f w' e size v' (L ++ M)) (hg : (wr.alloc o).grownBy w' (Value.slice a n cap).ownBlock)
    (hk : v'.ownBlock = (Value.slice a n cap).ownBlock ∨ v'.ownBlock = some (wr.alloc o).heap.size) : ∃ a' cap', v' = .slice a' (n + M.length) cap' ∧ OwnI f e size w w' a' (n + M.length) cap' (L ++ M) := by
  obtain ⟨h1, h2, h3, h4⟩ := h
  obtain ⟨a', cap', hv, hc1, hc2⟩ := hr.form
  rw [List.length_append, h2] at hv
  subst hv
  refine ⟨a', cap', rfl, hr, by rw [List.length_append, h2], fun k hk2 => ?_, ?_⟩
  · rcases hk with hk | hk
    · rw [hk] at hk2; exact h3 k hk2
    · rw [hk] at hk2; injection hk2 with hk2; have := h4.size; simp at hk2; omega
  · exact (h4.alloc h4.size o).grown hg (by have := h4.size; simp; omega) h3
/-- .. from any other -/
theorem OwnI.more0 {w wr w' : World} {a : Option Addr} {n cap : Nat} {v' : Value} {L M : List α} (h : OwnI f e size w wr a n cap L) (hr : Recs f w' e size v' (L ++ M)) (hg : wr.grownBy w' (Value.slice a n cap).ownBlock)
    (hk : v'.ownBlock = (Value.slice a n cap).ownBlock ∨ v'.ownBlock = some wr.heap.size) : ∃ a' cap', v' = .slice a' (n + M.length) cap' ∧ OwnI f e size w w' a' (n + M.length) cap' (L ++ M) := by
  obtain ⟨h1, h2, h3, h4⟩ := h
  obtain ⟨a', cap', hv, hc1, hc2⟩ := hr.form
  rw [List.length_append, h2] at hv
  subst hv
  refine ⟨a', cap', rfl, hr, by rw [List.length_append, h2], fun k hk2 => ?_, ?_⟩
  · rcases hk with hk | hk
    · rw [hk] at hk2; exact h3 k hk2
    · rw [hk] at hk2; injection hk2 with hk2; have := h4.size; omega
  · exact h4.grown hg h4.size h3
theorem OwnI.below {w wr w' : World} {a : Option Addr} {n cap : Nat} {L : List α} (h : OwnI f e size w wr a n cap L) (hb : Below wr.heap.size wr w') : OwnI f e size w w' a n cap L :=
  ⟨h.1.below hb, h.2.1, h.2.2.1, h.2.2.2.trans (hb.mono h.2.2.2.size)⟩
/-- since an earlier world -/
theorem OwnI.since {v w wr : World} {a : Option Addr} {n cap : Nat} {L : List α} (h : OwnI f e size w wr a n cap L) (hb : Below v.heap.size v w) : OwnI f e size v wr a n cap L :=
  ⟨h.1, h.2.1, fun k hk => Nat.le_trans hb.size (h.2.2.1 k hk), hb.trans (h.2.2.2.mono hb.size)⟩
end
end Go.Proofs.Ytonfppbijofapaa
