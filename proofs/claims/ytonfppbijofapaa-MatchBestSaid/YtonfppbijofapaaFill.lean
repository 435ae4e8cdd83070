/-
  A struct, or a slice of one, built out of parts that lie side by side.
-/
import Derived.Test.YtonfppbijofapaaRecs
import Derived.Great.FillDense
import Derived.Great.BuildSlice
namespace Go.Proofs.Ytonfppbijofapaa
open Go.RowKit
set_option linter.unusedVariables false
set_option linter.unusedSimpArgs false

/-- the parts lie side by side from o on -/
def SideBy (pl : Nat → Option (Nat × Nat)) : Nat → List (Nat × Value) → Prop
  | _, [] => True
  | o, (i, v) :: r => pl i = some (o, v.cells.size) ∧ SideBy pl (o + v.cells.size) r

theorem fill_side (pl : Nat → Option (Nat × Nat)) : ∀ (parts : List (Nat × Value)) (pre old : List Value), SideBy pl pre.length parts → (parts.flatMap (·.2.cells.toList)).length ≤ old.length →
    Instr.fill pl (pre ++ old).toArray parts = some (pre ++ parts.flatMap (·.2.cells.toList) ++ old.drop (parts.flatMap (·.2.cells.toList)).length).toArray
  | [], pre, old, _, _ => by simp [Instr.fill]
  | (i, v) :: r, pre, old, h, hl => by
    obtain ⟨h1, h2⟩ := h
    simp only [List.flatMap_cons, List.length_append, Array.length_toList] at hl
    unfold Instr.fill
    rw [h1]
    simp only
    rw [if_neg (by simp; omega)]
    have hcs : (v.cells.zipIdx.foldl (fun cs (x : Value × Nat) => cs.setIfInBounds (pre.length + x.2) x.1) (pre ++ old).toArray) = ((pre ++ v.cells.toList) ++ old.drop v.cells.size).toArray := by
      rw [← Array.foldl_toList, Array.toList_zipIdx]
      obtain ⟨g1, g2⟩ := Great.foldl_set pre.length v.cells.toList 0 (pre ++ old).toArray
      apply Array.ext_getElem?
      intro k
      rw [g2 k]
      simp only [Nat.add_zero, Array.length_toList, List.size_toArray, List.length_append, List.getElem?_toArray]
      by_cases hk : k < pre.length
      · rw [if_neg (by omega), List.getElem?_append_left hk, List.append_assoc, List.getElem?_append_left hk]
      · by_cases hk2 : k < pre.length + v.cells.size
        · rw [if_pos ⟨by omega, hk2, by omega⟩, List.getElem?_append_left (by simp; omega), List.getElem?_append_right (by omega)]
        · rw [if_neg (by omega), List.getElem?_append_right (by omega), List.getElem?_append_right (by simp; omega), List.getElem?_drop]
          congr 1
          simp; omega
    rw [hcs]
    have := fill_side pl r (pre ++ v.cells.toList) (old.drop v.cells.size) (by simpa using h2) (by rw [List.length_drop]; omega)
    rw [this]
    simp [List.flatMap_cons, List.drop_drop]

theorem fill_whole (pl : Nat → Option (Nat × Nat)) (cells : Array Value) (parts : List (Nat × Value)) (h : SideBy pl 0 parts) (hl : (parts.flatMap (·.2.cells.toList)).length = cells.size) :
    Instr.fill pl cells parts = some (parts.flatMap (·.2.cells.toList)).toArray := by
  have := fill_side pl parts [] cells.toList h (by simp only [Array.length_toList]; omega)
  simp only [List.nil_append, Array.toArray_toList] at this
  rw [this, hl, List.drop_eq_nil_of_le (by simp), List.append_nil]

/-- a struct out of all its fields -/
theorem run_build_side {P : Program} (w : World) (t : TypeId) (parts : Array (Nat × Value)) (fields : Array Field) (places : List (Nat × Nat)) (it : TypeInfo) (z : Value)
    (hi : P.info? t = some it) (hz : it.zero = some z) (hu : P.underlying t = some (.struct fields))
    (hp : fields.toList.mapM (fun f => (P.info? f.type).map fun i => (f.offset, i.size)) = some places)
    (hs : SideBy (places.toArray[·]?) 0 parts.toList) (hl : (parts.toList.flatMap (·.2.cells.toList)).length = z.cells.size) :
    (Instr.build t parts).run P w = .ok (.agg (parts.toList.flatMap (·.2.cells.toList)).toArray) w := by
  refine run_build w _ _ _ ?_
  unfold Program.built
  simp only [hi, hu, hz, hp]
  exact fill_whole _ _ _ hs hl

/-- a slice of one element -/
theorem run_buildSlice_one {P : Program} (w : World) (t e : TypeId) (X : Array Value) (ie : TypeInfo) (z : Value) (n : Nat) (hu : P.underlying t = some (.slice e)) (hie : P.info? e = some ie) (hz : ie.zero = some z) (hn : ie.size = n)
    (hX : X.size = n) (hpos : 0 < n) (hsmall : n ≤ 2 ^ 24) :
    (Instr.buildSlice t 1 #[(0, .agg X)]).run P w = .ok (.slice (some ⟨w.heap.size, 0, none⟩) 1 1) (w.alloc (.cells X e)) := by
  subst hn
  refine run_buildSlice w t e 1 _ X ie z hu hie hz (by omega) (by omega) ?_
  have := fill_whole (fun i => some (i * ie.size, ie.size)) ((Array.range (1 * ie.size)).map (z.cells[· % z.cells.size]!)) [(0, .agg X)] ⟨by simp [Value.cells, hX], trivial⟩ (by simp [Value.cells, hX])
  simpa [Value.cells] using this

end Go.Proofs.Ytonfppbijofapaa
