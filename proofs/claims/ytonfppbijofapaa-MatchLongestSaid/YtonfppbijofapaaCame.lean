/-
  Slices that came in: records of so many cells each, read and never written.
-/
import Derived.Test.YtonfppbijofapaaRecs
namespace Go.Proofs.Ytonfppbijofapaa
open Go.RowKit
set_option linter.unusedVariables false
set_option linter.unusedSimpArgs false

/-- a slice (address, length, capacity) reads as the records L -/
def CameAt {α : Type} (f : α → List Value) (size : Nat) (w : World) (a : Option Addr) (n cap : Nat) (L : List α) : Prop :=
  L.length = n ∧ n ≤ cap ∧ cap ≤ maxLen ∧ (∀ x ∈ L, (f x).length = size) ∧
    ((a = none ∧ n = 0 ∧ cap = 0) ∨ ∃ p, a = some p ∧ ∀ i j x, L[i]? = some x → j < size → w.cell? (p.add (i * size + j)) = (f x)[j]?)

section
variable {α : Type} {f : α → List Value} {size : Nat} {w w' : World} {a : Option Addr} {n cap : Nat} {L : List α}
theorem CameAt.nil (f : α → List Value) (size : Nat) (w : World) : CameAt f size w none 0 0 ([] : List α) := ⟨rfl, Nat.le_refl _, by simp, by simp, .inl ⟨rfl, rfl, rfl⟩⟩
theorem CameAt.keep (h : CameAt f size w a n cap L) (hs : 0 < size) (hk : ∀ p, a = some p → 0 < n → p.block < w.heap.size → w'.heap[p.block]? = w.heap[p.block]?) : CameAt f size w' a n cap L := by
  obtain ⟨h1, h2, h3, h4, h5⟩ := h
  refine ⟨h1, h2, h3, h4, ?_⟩
  rcases h5 with h5 | ⟨p, rfl, hp⟩
  · exact .inl h5
  · refine .inr ⟨p, rfl, fun i j x hi hj => ?_⟩
    have hc := hp i j x hi hj
    have hl := h4 x (List.mem_of_getElem? hi)
    rw [List.getElem?_eq_getElem (by omega)] at hc
    have hlt := block_lt hc
    rw [add_block] at hlt
    rw [World.cell?_of_block (w := w) (by rw [add_block]; exact hk p rfl (by have := (List.getElem?_eq_some_iff.1 hi).1; omega) hlt)]
    exact hp i j x hi hj
theorem CameAt.below (h : CameAt f size w a n cap L) (hs : 0 < size) (hb : Below w.heap.size w w') : CameAt f size w' a n cap L := h.keep hs fun p _ _ hlt => hb.block _ hlt
theorem CameAt.only {S : Nat → Prop} (h : CameAt f size w a n cap L) (hs : 0 < size) (ho : Only S w w') (hS : ∀ p, a = some p → 0 < n → ¬ S p.block) : CameAt f size w' a n cap L :=
  h.keep hs fun p hp hn hlt => ho.block _ hlt (hS p hp hn)
theorem CameAt.at (h : CameAt f size w a n cap L) (hn : 0 < n) (hs : 0 < size) :
    ∃ b off, a = some ⟨b, off, none⟩ ∧ b < w.heap.size ∧ ∀ i j x, L[i]? = some x → j < size → w.cell? ⟨b, off + (i * size + j), none⟩ = (f x)[j]? := by
  obtain ⟨h1, h2, h3, h4, h5⟩ := h
  rcases h5 with ⟨_, h0, _⟩ | ⟨p, rfl, hp⟩
  · omega
  · obtain ⟨b, off, spot⟩ := p
    have hx : L[0]? = some L[0] := List.getElem?_eq_getElem (by omega)
    have hc := hp 0 0 L[0] hx hs
    have hl := h4 L[0] (List.getElem_mem _)
    rw [List.getElem?_eq_getElem (by omega), Nat.zero_mul] at hc
    have hsp : spot = none := by simpa [Addr.add] using World.cell?_spot hc
    have hb := block_lt hc
    subst hsp
    refine ⟨b, off, rfl, by simpa [Addr.add] using hb, fun i j x hi hj => ?_⟩
    rw [← Addr.add_mid]
    exact hp i j x hi hj
end

/-! ### truth values -/
def boolC (b : Bool) : List Value := [.bool b]
def BoolsAt := CameAt boolC 1
theorem BoolsAt.cell {w : World} {a : Option Addr} {n cap : Nat} {L : List Bool} (h : BoolsAt w a n cap L) (hn : 0 < n) :
    ∃ b off, a = some ⟨b, off, none⟩ ∧ b < w.heap.size ∧ ∀ i, i < n → w.cell? ⟨b, off + i, none⟩ = some (.bool (L.getD i false)) := by
  obtain ⟨b, off, h1, h2, h3⟩ := CameAt.at h hn (by omega)
  refine ⟨b, off, h1, h2, fun i hi => ?_⟩
  have hx : L[i]? = some (L.getD i false) := by rw [List.getD, List.getElem?_eq_getElem (by have := h.1; omega)]; rfl
  have := h3 i 0 _ hx (by omega)
  simpa [boolC] using this

end Go.Proofs.Ytonfppbijofapaa
