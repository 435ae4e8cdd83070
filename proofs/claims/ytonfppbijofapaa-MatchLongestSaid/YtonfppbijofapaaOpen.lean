/-
  What a reading of the arguments gives the walks: structs by value field by field, slices cell by cell.
-/
import Derived.Test.YtonfppbijofapaaOctMem
import Derived.OpenShut
import Derived.ChangeOld
import Derived.Deep.Slices
import Derived.Deep.Fields
namespace Go.Proofs.Ytonfppbijofapaa
open Go.ChangeShapes Go.WideShapes Go.ChangeAt Go.RowKit Go.Deep
open Go.ChangeMaps (open_string shut_string)
set_option linter.unusedVariables false
set_option maxRecDepth 100000
set_option linter.unusedSimpArgs false

section
variable {H : Type} {enc : TypeId × Value → H} {W : World} {base : Nat} {sp : Nat → Bool} {held : Bool}

/-- a struct by value, field by field -/
theorem fields_of {r : Reach} {b0 : Nat} {t : TypeId} {fs : Array Field} {v : Value} {d : DataW H} {p : List MemPlace} (hs : Try.prog.underlying t = some (.struct fs))
    (hv : Value.okWide Try.prog W r b0 t v) (h : DataW.Trod enc Try.prog W base sp held t v d p) :
    ∃ (cs : List Value) (n : Nat), v = .agg cs.toArray ∧ cs.length = Try.prog.cellsOf t ∧
      ∀ (i : Nat) (f : Field), fs[i]? = some f → ∃ y, DataW.trod enc Try.prog W base sp held n f.type ((cs.drop f.offset).take (Try.prog.cellsOf f.type)) = some y := by
  obtain ⟨cs, rfl, hsz⟩ := okWide_struct hs hv
  obtain ⟨fuel, hf⟩ := h
  obtain ⟨xs, n, _, _, _, hlen, hg⟩ := DataW.trod_struct hs hf
  refine ⟨cs.toList, n, rfl, by simpa using hsz, fun i f hi => ?_⟩
  have hil : i < fs.size := (Array.getElem?_eq_some_iff.1 hi).1
  have h1 := hg i f hi
  rw [List.getElem?_eq_getElem (by omega)] at h1
  exact ⟨_, by simpa [Value.cells] using h1⟩

theorem trod_bytes {fuel : Nat} {cs : List Value} {y : DataW H × List MemPlace} (h : DataW.trod enc Try.prog W base sp held fuel 22 cs = some y) :
    ∃ a len cap l, cs = [.slice a len cap] ∧ BytesAt W a len cap l := by
  rcases open_ints Try.underlying22 Try.underlying5 (by kernel_rfl) h with ⟨hcs, _⟩ | ⟨x, l, c, zs, hcs, _, hl, hm, hz, _, hcell, hwz⟩
  · exact ⟨_, _, _, [], hcs, BytesAt.nil W⟩
  · refine ⟨_, _, _, (zs.take l).map (fun z => UInt8.ofNat z.toNat), hcs, ⟨by simp; split at hz <;> omega, hl, hm, .inr ⟨x, rfl, fun i hi => ?_⟩⟩⟩
    have hi2 : i < zs.length := by split at hz <;> omega
    rw [hcell i hi2]
    have hr : 0 ≤ zs[i] ∧ zs[i] ≤ 255 := by
      have := hwz zs[i] (List.getElem_mem hi2)
      simpa [Lit.wf, IntKind.min, IntKind.max, IntKind.signed, IntKind.bits] using this
    simp only [List.getD, List.getElem?_map, List.getElem?_take_of_lt hi, List.getElem?_eq_getElem hi2, Option.map_some, Option.getD_some]
    congr 2
    have : (UInt8.ofNat zs[i].toNat).toNat = zs[i].toNat := by simp; omega
    omega

/-- a slice of whatever elements, cell by cell -/
theorem slice_of {r : Reach} {b0 : Nat} {t e : TypeId} {v : Value} {d : DataW H} {p : List MemPlace} (ht : Try.prog.underlying t = some (.slice e))
    (hv : Value.okWide Try.prog W r b0 t v) (h : DataW.Trod enc Try.prog W base sp held t v d p) :
    v = .slice none 0 0 ∨ ∃ (x : Addr) (len cap : Nat), v = .slice (some x) len cap ∧ len ≤ cap ∧ cap ≤ maxLen ∧
      ∀ i, i < len → ∃ (cs : List Value) (n : Nat) (y : DataW H × List MemPlace), cs.length = Try.prog.cellsOf e ∧ (∀ j, j < cs.length → W.cell? (x.add (i * Try.prog.cellsOf e + j)) = cs[j]?) ∧ DataW.trod enc Try.prog W base sp held n e cs = some y := by
  obtain ⟨a, len, cap, rfl⟩ := okWide_slice ht hv
  obtain ⟨fuel, hf⟩ := h
  rcases open_slice ht hf with ⟨hcs, _⟩ | ⟨x, l, c, m, n, D, Pl, hcs, _, hl, hm, hmm, _, hx⟩
  · left
    simp [Value.cells] at hcs
    obtain ⟨rfl, rfl, rfl⟩ := hcs
    rfl
  · right
    simp [Value.cells] at hcs
    obtain ⟨rfl, rfl, rfl⟩ := hcs
    refine ⟨x, len, cap, rfl, hl, hm, fun i hi => ?_⟩
    obtain ⟨cs', h1, h2⟩ := hx i (by split at hmm <;> omega)
    obtain ⟨_, hlen, hat⟩ := World.cells?_some h1
    refine ⟨cs', n, _, hlen, fun j hj => ?_, h2⟩
    have := hat j (by omega)
    rw [← this, Go.Deep.add_add]

end
end Go.Proofs.Ytonfppbijofapaa
