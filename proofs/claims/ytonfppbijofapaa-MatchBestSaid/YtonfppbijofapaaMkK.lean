/-
  Maps by keys of any make, whose entries bear stamps: 'm[k] = append(m[k], ..)' asks for an entry first, and lays its value down by the stamp.
-/
import Derived.Test.YtonfppbijofapaaMapK
import Derived.WideKeyEntry
namespace Go.Proofs.Ytonfppbijofapaa
open Go.RowKit Go.ChangeMaps
set_option linter.unusedVariables false
set_option linter.unusedSimpArgs false

section
variable {P : Program} {kt : TypeId} {K : Type} {enc : K → Value}
/-- block b is a map that has just these; each entry has a stamp of its own -/
structure MapBAt (P : Program) (kt : TypeId) (enc : K → Value) (w : World) (b : Nat) (L : List (K × Value)) : Prop where
  own : ∃ es clock, w.heap[b]? = some (.map es clock) ∧ (es.toList.map (fun e => (e.key, e.val)) = L.map fun p => (enc p.1, p.2)) ∧ (∀ e ∈ es.toList, e.born < clock) ∧ (es.toList.map (·.born)).Nodup

variable {w w' : World} {b : Nat} {L : List (K × Value)}
theorem MapBAt.mapK (h : MapBAt P kt enc w b L) : MapKAt P kt enc w b L := by
  obtain ⟨es, clock, hb, r, _⟩ := h.own
  exact ⟨es, clock, hb, r⟩
theorem MapBAt.lt (h : MapBAt P kt enc w b L) : b < w.heap.size := h.mapK.lt
theorem MapBAt.keep (h : MapBAt P kt enc w b L) (hk : w'.heap[b]? = w.heap[b]?) : MapBAt P kt enc w' b L := by
  obtain ⟨es, clock, hb, r⟩ := h.own
  exact ⟨es, clock, hk.trans hb, r⟩
theorem MapBAt.below (h : MapBAt P kt enc w b L) (hb : Below w.heap.size w w') : MapBAt P kt enc w' b L := h.keep (hb.block b h.lt)
theorem MapBAt.made (w : World) : MapBAt P kt enc (w.alloc (.map #[] 0)) w.heap.size ([] : List (K × Value)) := ⟨#[], 0, heap_alloc_new w _, rfl, by simp, by simp⟩
end

section
variable {P : Program} {kt : TypeId} {K : Type} [DecidableEq K] {enc : K → Value}
variable {w w' : World} {b : Nat} {L : List (K × Value)}
/-- an entry, and what is laid down in it then -/
theorem MapBAt.entry (h : MapBAt P kt enc w b L) (E : KeyEnc P kt enc) {t e : TypeId} (ht : P.underlying t = some (.map kt e)) {z : Value} (hz : ∀ u : World, (zeroValue e).run P u = .ok z u) (k : K) :
    ∃ (st : Int) (w1 : World), (Instr.mapEntry t (.map (some b)) (enc k)).run P w = .ok (.tuple #[(getK L k).getD z, .int .i64 st]) w1 ∧ Only (fun q => q = b) w w1 ∧ b < w.heap.size ∧ (∃ es c, w1.heap[b]? = some (.map es c)) ∧
      ∀ (w2 : World) (v : Value), w2.heap[b]? = w1.heap[b]? → ∃ w3, (Instr.entryStore t (.map (some b)) (.int .i64 st) v).run P w2 = .ok () w3 ∧ MapBAt P kt enc w3 b (putK L k v) ∧ Only (fun q => q = b) w2 w3 := by
  have hlt := h.lt
  obtain ⟨es, clock, hb, hes, hborn, hnd⟩ := h.own
  have hg := MapKept.run_getObj_map (P := P) hb
  have hf := find_keys E k w es.toList L hes
  have hc := fun e => E.check w e k
  have hblk : ∀ (u : World) (o : Obj) (es' : Array MapEntry) (c' : Nat), u.heap[b]? = some (.map es' c') → Only (fun q => q = b) u (setBlock u b o) := fun u o es' c' hu => ⟨rfl, rfl, rfl, by simp [setBlock], fun i _ hi => heap_setBlock_other hu _ hi⟩
  obtain ⟨h1, h2⟩ := getK_idx k L
  cases hi : L.findIdx? (fun p => decide (k = p.1)) with
  | none =>
    have hn := h1.2 hi
    rw [hi] at hf
    refine ⟨clock, setBlock w b (.map (es.push ⟨enc k, z, clock⟩) (clock + 1)), ?_, hblk _ _ _ _ hb, hlt, ⟨_, _, heap_setBlock_same hb _⟩, fun w2 v hw2 => ?_⟩
    · rw [hn]
      simp [Instr.mapEntry, run_underlying ht, hg, hc, hf, hz, MapKept.run_setObj_map _ hb, Result.andThen, setBlock, goInt]
    · rw [heap_setBlock_same hb] at hw2
      have hidx : (es.push ⟨enc k, z, clock⟩).findIdx? (fun e => ((e.born : Nat) : Int) == ((clock : Nat) : Int)) = some es.size := by
        rw [WideElems.findIdx_arr]
        exact WideElems.findIdx_born (l := (es.push ⟨enc k, z, clock⟩).toList) (j := es.size) (e0 := ⟨enc k, z, clock⟩) (by
          simp only [Array.toList_push, List.map_append, List.map_cons, List.map_nil]
          refine List.nodup_append.2 ⟨hnd, by simp, fun a ha c hc e1 => ?_⟩
          simp only [List.mem_singleton] at hc
          obtain ⟨x, hx, rfl⟩ := List.mem_map.1 ha
          have := hborn x hx
          omega) (by simp)
      have hmod : (es.push ⟨enc k, z, clock⟩).modify es.size (fun e => { e with val := v }) = es.push ⟨enc k, v, clock⟩ := by
        apply Array.ext'
        rw [Array.toList_modify, Array.toList_push, Array.toList_push, ← Array.length_toList, WideElems.modify_last]
      refine ⟨setBlock w2 b (.map (es.push ⟨enc k, v, clock⟩) (clock + 1)), ?_, ⟨_, _, heap_setBlock_same hw2 _, ?_, ?_, ?_⟩, hblk _ _ _ _ hw2⟩
      · simp [Instr.entryStore, MapKept.run_getObj_map hw2, asInt, asIntOf, hidx, hmod, MapKept.run_setObj_map _ hw2, Result.andThen, setBlock]
      · rw [putK_new k v L hn]
        simp [hes]
      · intro e he
        simp only [Array.toList_push, List.mem_append, List.mem_singleton] at he
        rcases he with he | rfl
        · have := hborn e he; omega
        · exact Nat.lt_succ_self _
      · simp only [Array.toList_push, List.map_append, List.map_cons, List.map_nil]
        refine List.nodup_append.2 ⟨hnd, by simp, fun a ha c hc e1 => ?_⟩
        simp only [List.mem_singleton] at hc
        obtain ⟨x, hx, rfl⟩ := List.mem_map.1 ha
        have := hborn x hx
        omega
  | some j =>
    obtain ⟨p, hp, hk, hv⟩ := h2 j hi
    rw [hi, hv] at hf
    have hj : ∃ x, es[j]? = some x ∧ x.key = enc k := by
      have := congrArg (fun l => l[j]?) hes
      simp only [List.getElem?_map, hp, Option.map_some, Array.getElem?_toList] at this
      cases hx : es[j]? with
      | none => rw [hx] at this; simp at this
      | some x => rw [hx] at this; simp only [Option.map_some, Option.some.injEq, Prod.mk.injEq] at this; exact ⟨x, rfl, by rw [this.1, hk]⟩
    obtain ⟨x, hx, hxk⟩ := hj
    have hxl : es.toList[j]? = some x := by rw [Array.getElem?_toList]; exact hx
    have hst : (Instr.keyThatStays (enc k) (enc k)).run P w = .ok (enc k) w := by simp [Instr.keyThatStays, E.stays k]
    have hsame : es.modify j (fun e => { e with key := enc k }) = es := by
      apply Array.ext'
      rw [Array.toList_modify, ChangeMaps.modify_eq_set _ _ _ _ hxl]
      have : ({ x with key := enc k } : MapEntry) = x := by rw [← hxk]
      rw [this]
      exact WideElems.set_self _ _ _ hxl
    refine ⟨x.born, setBlock w b (.map es clock), ?_, hblk _ _ _ _ hb, hlt, ⟨_, _, heap_setBlock_same hb _⟩, fun w2 v hw2 => ?_⟩
    · rw [hv]
      simp [Instr.mapEntry, run_underlying ht, hg, hc, hf, hx, hxk, hst, hsame, MapKept.run_setObj_map _ hb, Result.andThen, setBlock, goInt]
    · rw [heap_setBlock_same hb] at hw2
      have hidx : es.findIdx? (fun e => ((e.born : Nat) : Int) == ((x.born : Nat) : Int)) = some j := by
        rw [WideElems.findIdx_arr]
        exact WideElems.findIdx_born hnd hxl
      have hmod : (es.modify j fun e => { e with val := v }).toList = es.toList.set j ⟨enc k, v, x.born⟩ := by
        rw [Array.toList_modify, ChangeMaps.modify_eq_set _ _ _ _ hxl, ← hxk]
      refine ⟨setBlock w2 b (.map (es.modify j fun e => { e with val := v }) clock), ?_, ⟨_, _, heap_setBlock_same hw2 _, ?_, ?_, ?_⟩, hblk _ _ _ _ hw2⟩
      · simp [Instr.entryStore, MapKept.run_getObj_map hw2, asInt, asIntOf, hidx, MapKept.run_setObj_map _ hw2, Result.andThen, setBlock]
      · rw [hmod, putK_old k v L j hi, List.map_set, List.map_set, hes]
      · intro e he
        rw [hmod] at he
        rcases List.mem_or_eq_of_mem_set he with he | rfl
        · exact hborn e he
        · exact hborn x (List.mem_of_getElem? hxl)
      · have hjl : j < es.toList.length := (List.getElem?_eq_some_iff.1 hxl).1
        have : (es.toList.set j ⟨enc k, v, x.born⟩).map (·.born) = es.toList.map (·.born) := by
          rw [List.map_set]
          apply WideElems.set_self
          rw [List.getElem?_map, hxl]; rfl
        rw [hmod, this]; exact hnd
end
end Go.Proofs.Ytonfppbijofapaa
