/-
  Slices of slices of octets in memory.
-/
import Derived.Test.YtflboggjbjfkjaaOctMem
import Derived.Deep.Matrix
import Derived.OpenShut
import Derived.ChangeOld
namespace Go.Proofs.Ytflboggjbjfkjaa
open Go.ChangeShapes Go.WideShapes Go.ChangeAt Go.RowKit
set_option linter.unusedVariables false
set_option linter.unusedSimpArgs false

/-- a slice of slices: row r lies at R r and reads as L r -/
def RowsAt (w : World) (A : Option Addr) (n cap : Nat) (R : Nat → Option Addr × Nat × Nat) (L : Nat → List UInt8) : Prop :=
  n ≤ cap ∧ cap ≤ maxLen ∧ ∀ r, r < n → (∃ x, A = some x ∧ w.cell? (x.add r) = some (.slice (R r).1 (R r).2.1 (R r).2.2)) ∧ BytesAt w (R r).1 (R r).2.1 (R r).2.2 (L r)

theorem RowsAt.below {w w' : World} {A : Option Addr} {n cap : Nat} {R : Nat → Option Addr × Nat × Nat} {L : Nat → List UInt8} (h : RowsAt w A n cap R L) (hb : Below w.heap.size w w') : RowsAt w' A n cap R L :=
  ⟨h.1, h.2.1, fun r hr => by
    obtain ⟨⟨x, hx, hc⟩, hB⟩ := h.2.2 r hr
    exact ⟨⟨x, hx, by rw [hb.cell (block_lt hc)]; exact hc⟩, hB.below hb⟩⟩

theorem RowsAt.at {w : World} {A : Option Addr} {n cap : Nat} {R : Nat → Option Addr × Nat × Nat} {L : Nat → List UInt8} (h : RowsAt w A n cap R L) (hn : 0 < n) :
    ∃ b off, A = some ⟨b, off, none⟩ ∧ ∀ r, r < n → w.cell? ⟨b, off + r, none⟩ = some (.slice (R r).1 (R r).2.1 (R r).2.2) := by
  obtain ⟨⟨x, rfl, hc⟩, _⟩ := h.2.2 0 hn
  obtain ⟨b, off, spot⟩ := x
  have hs : spot = none := by simpa [Addr.add] using World.cell?_spot hc
  subst hs
  refine ⟨b, off, rfl, fun r hr => ?_⟩
  obtain ⟨⟨x, hx, hc'⟩, _⟩ := h.2.2 r hr
  cases hx
  have e : (⟨b, off, none⟩ : Addr).add r = ⟨b, off + r, none⟩ := by unfold Addr.add; split <;> simp_all
  rw [e] at hc'
  exact hc'

theorem open_rows {H : Type} {enc : TypeId × Value → H} {w : World} {base : Nat} {held : Bool} {cs : List Value} {x : DataW H × List MemPlace}
    (h : ∃ fuel, DataW.trod enc Try.prog w base (fun _ => true) held fuel 24 cs = some x) :
    ∃ A n cap R L, cs = [.slice A n cap] ∧ RowsAt w A n cap R L := by
  obtain ⟨fuel, hf⟩ := h
  rcases Go.Deep.open_int_rows Try.underlying24 Try.underlying34 Try.underlying5 (by kernel_rfl) (by kernel_rfl) hf with ⟨hcs, _⟩ | ⟨a, len, cap, A, L, C, Z, hcs, _, hl, hm, _, hrow⟩
  · exact ⟨none, 0, 0, fun _ => (none, 0, 0), fun _ => [], hcs, Nat.le_refl _, by unfold maxLen; omega, fun r hr => by omega⟩
  · refine ⟨some a, len, cap, fun r => (A r, L r, C r), fun r => ((Z r).take (L r)).map fun z => UInt8.ofNat z.toNat, hcs, hl, hm, fun r hr => ?_⟩
    obtain ⟨hc, hlc, hcm, hz, hwf, hnone, hsome⟩ := hrow r (by omega)
    refine ⟨⟨a, rfl, hc⟩, ?_⟩
    show BytesAt w (A r) (L r) (C r) (((Z r).take (L r)).map fun z => UInt8.ofNat z.toNat)
    cases hA : A r with
    | none =>
      have h0 := hnone hA
      have hL0 : L r = 0 := by omega
      exact ⟨by simp [hL0], hlc, hcm, .inl ⟨rfl, hL0, h0⟩⟩
    | some a' =>
      exact BytesAt.of_row hlc hcm hz (fun i hi => (hsome a' hA).2 i (by omega)) hwf

end Go.Proofs.Ytflboggjbjfkjaa
