/-
  Slices of ints and of octets that are written out; ints that come in as an argument.
-/
import Derived.Test.YtonfppbijofapaaInts
import Derived.Test.YtonfppbijofapaaOctMem
namespace Go.Proofs.Ytonfppbijofapaa
open Go.ChangeShapes Go.WideShapes Go.ChangeAt Go.RowKit
set_option linter.unusedVariables false
set_option linter.unusedSimpArgs false
set_option maxRecDepth 100000

section
variable {H : Type} {enc : TypeId × Value → H} {W : World} {held : Bool}
theorem ints_of {r : Reach} {b0 : Nat} {v : Value} {d : DataW H} {p : List MemPlace} (hv : Value.okWide Try.prog W r b0 61 v) (h : DataW.Trod enc Try.prog W 0 (fun _ => true) held 61 v d p) :
    ∃ a n cap L, v = .slice a n cap ∧ IntsAt W a n cap L ∧ True := by
  obtain ⟨a, n, cap, L, h1, h2⟩ := open_intsAt hv h
  exact ⟨a, n, cap, L, h1, h2, trivial⟩
end
theorem lit_ints (w : World) (L : List Int) (hL : L.length ≤ 1000) : IntsAt (w.alloc (.cells (L.map fun z => Value.int .i64 z).toArray 3)) (some ⟨w.heap.size, 0, none⟩) L.length L.length L := by
  refine ⟨rfl, Nat.le_refl _, by unfold maxLen; omega, fun _ _ => rfl, .inr ⟨_, rfl, fun i j x hi hj => ?_⟩⟩
  obtain rfl : j = 0 := by omega
  rw [Addr.add_mid, Nat.zero_add, Nat.mul_one, Nat.add_zero, cell_of_row _ _ _ _ _ _ (heap_alloc_new w _)]
  rw [List.getElem?_toArray, List.getElem?_map, hi]
  rfl
theorem lit_bytes (w : World) (l : List UInt8) (hl : l.length ≤ 1000) : BytesAt (w.alloc (.cells (vals l).toArray 5)) (some ⟨w.heap.size, 0, none⟩) l.length l.length l := by
  have h : (w.alloc (.cells (vals l).toArray 5)).ownsRow w.heap.size 5 1 (.slice (some ⟨w.heap.size, 0, none⟩) l.length l.length) l.length (vals l) := by
    refine ⟨by simp [vals], .inr ⟨w.heap.size, l.length, (vals l).toArray, rfl, Nat.le_refl _, heap_alloc_new w _, Nat.le_refl _, by unfold maxLen; omega, by simp [vals], ?_⟩⟩
    simp [vals]
    exact List.take_of_length_le (by simp)
  exact BytesAt.owned h
end Go.Proofs.Ytonfppbijofapaa
