/-
  Maps by keys of any make (arrays, structs): what is told of the keys is laid once (KeyEnc); then look up, lay down, how many.
-/
import Derived.Test.YtonfppbijofapaaRecs
import Derived.Maps.Own
import Derived.Stop.BytesEq
namespace Go.Proofs.Ytonfppbijofapaa
open Go.RowKit Go.ChangeMaps
set_option linter.unusedVariables false
set_option linter.unusedSimpArgs false

section
variable {P : Program} {kt : TypeId} {K : Type} {enc : K → Value}
/-- block b is a map that has just these -/
structure MapKAt (P : Program) (kt : TypeId) (enc : K → Value) (w : World) (b : Nat) (L : List (K × Value)) : Prop where
  own : ∃ es clock, w.heap[b]? = some (.map es clock) ∧ es.toList.map (fun e => (e.key, e.val)) = L.map fun p => (enc p.1, p.2)

variable {w w' : World} {b : Nat} {L : List (K × Value)}
theorem MapKAt.lt (h : MapKAt P kt enc w b L) : b < w.heap.size := by obtain ⟨es, clock, hb, _⟩ := h.own; exact (Array.getElem?_eq_some_iff.1 hb).1
theorem MapKAt.keep (h : MapKAt P kt enc w b L) (hk : w'.heap[b]? = w.heap[b]?) : MapKAt P kt enc w' b L := by
  obtain ⟨es, clock, hb, r⟩ := h.own
  exact ⟨es, clock, hk.trans hb, r⟩
theorem MapKAt.below (h : MapKAt P kt enc w b L) (hb : Below w.heap.size w w') : MapKAt P kt enc w' b L := h.keep (hb.block b h.lt)
theorem MapKAt.only {S : Nat → Prop} (h : MapKAt P kt enc w b L) (ho : Only S w w') (hS : ¬ S b) : MapKAt P kt enc w' b L := h.keep (ho.block b h.lt hS)
theorem MapKAt.made (w : World) : MapKAt P kt enc (w.alloc (.map #[] 0)) w.heap.size ([] : List (K × Value)) := ⟨#[], 0, heap_alloc_new w _, rfl⟩
theorem MapKAt.ne_cells (h : MapKAt P kt enc w b L) {g : Nat} {cs : Array Value} {ty : TypeId} {fr : Nat × Nat} (hg : w.heap[g]? = some (.cells cs ty fr)) : g ≠ b := by
  rintro rfl
  obtain ⟨es, clock, hb, _⟩ := h.own
  rw [hg] at hb; cases hb

end

section
variable {P : Program} {kt : TypeId} {K : Type} [DecidableEq K] {enc : K → Value}
/-- keys as values: each may be one, they are compared by asking, and a key is itself bit by bit -/
structure KeyEnc (P : Program) (kt : TypeId) {K : Type} [DecidableEq K] (enc : K → Value) : Prop where
  desc : ∃ d, P.underlying kt = some d ∧ ∀ a b, Instr.sameNow d (enc a) (enc b) = none
  check : ∀ (w : World) e k, (Instr.checkKey e 10000 kt (enc k)).run P w = .ok () w
  equal : ∀ (w : World) a b, (Op.equal kt (enc a) (enc b)).run P w = .ok (decide (a = b)) w
  stays : ∀ k, Instr.sameBits 10000 (enc k) (enc k) = true

/-- what a key has -/
def getK (L : List (K × Value)) (k : K) : Option Value := (L.find? fun p => decide (k = p.1)).map (·.2)
def putK : List (K × Value) → K → Value → List (K × Value)
  | [], k, v => [(k, v)]
  | p :: L, k, v => if k = p.1 then (k, v) :: L else p :: putK L k v
theorem getK_nil (k : K) : getK ([] : List (K × Value)) k = none := rfl
theorem getK_put (k : K) (v : Value) (j : K) : ∀ L : List (K × Value), getK (putK L k v) j = if j = k then some v else getK L j
  | [] => by
    unfold putK getK
    by_cases h : j = k <;> simp [List.find?_cons, h]
  | p :: L => by
    have ih := getK_put k v j L
    unfold putK
    by_cases h : k = p.1
    · rw [if_pos h]
      unfold getK
      by_cases hj : j = k
      · simp [List.find?_cons, hj]
      · have : ¬ j = p.1 := fun e => hj (by rw [e, h])
        simp [List.find?_cons, hj, this]
    · rw [if_neg h]
      unfold getK at ih ⊢
      by_cases hj : j = p.1
      · have hjk : ¬ j = k := fun e => h (by rw [← e, hj])
        simp only [List.find?_cons, decide_eq_true hj, if_neg hjk]
      · simp only [List.find?_cons, decide_eq_false hj]
        exact ih
theorem putK_len (k : K) (v : Value) : ∀ L : List (K × Value), (putK L k v).length = if (getK L k).isSome then L.length else L.length + 1
  | [] => rfl
  | p :: L => by
    have ih := putK_len k v L
    by_cases h : k = p.1
    · simp [putK, getK, List.find?_cons, h]
    · have e : getK (p :: L) k = getK L k := by unfold getK; simp only [List.find?_cons, decide_eq_false h]
      rw [e, putK, if_neg h, List.length_cons, ih, List.length_cons]
      split <;> rfl

variable {w w' : World} {b : Nat} {L : List (K × Value)}
theorem find_asks (E : KeyEnc P kt enc) (k : K) (w : World) : ∀ (es : List MapEntry) (L : List (K × Value)) (i : Nat), es.map (fun e => (e.key, e.val)) = L.map (fun p => (enc p.1, p.2)) →
    (Instr.findAsking kt (enc k) es i).run P w = .ok (match L.findIdx? fun p => decide (k = p.1) with
      | some j => (getK L k).map fun v => (i + j, v)
      | none => none) w
  | [], [], i, _ => rfl
  | e :: es, [], i, h => by simp at h
  | [], p :: L, i, h => by simp at h
  | e :: es, p :: L, i, h => by
    simp only [List.map_cons, List.cons.injEq, Prod.mk.injEq] at h
    obtain ⟨⟨h1, h2⟩, h3⟩ := h
    unfold Instr.findAsking
    rw [Sem.run_bind, h1, E.equal w k p.1, Result.andThen_ok]
    by_cases hk : k = p.1
    · rw [decide_eq_true hk, if_pos rfl]
      simp only [List.findIdx?_cons, decide_eq_true hk, getK, List.find?_cons, if_true, Option.map_some, h2, Nat.add_zero]
      rfl
    · rw [decide_eq_false hk, if_neg (by simp), find_asks E k w es L (i + 1) h3]
      congr 1
      simp only [List.findIdx?_cons, decide_eq_false hk, getK, List.find?_cons, Bool.false_eq_true, if_false]
      cases hf : L.findIdx? (fun p => decide (k = p.1)) with
      | none => rfl
      | some j =>
        simp only [Option.map_some]
        have : i + 1 + j = i + (j + 1) := by omega
        rw [this]
theorem find_now_none (E : KeyEnc P kt enc) (k : K) (d : TypeDesc) (hd : ∀ a b, Instr.sameNow d (enc a) (enc b) = none) : ∀ (es : List MapEntry) (L : List (K × Value)) (i : Nat), es.map (fun e => (e.key, e.val)) = L.map (fun p => (enc p.1, p.2)) →
    Instr.findNow d (enc k) es i = if L = [] then some none else none
  | [], [], i, _ => rfl
  | e :: es, [], i, h => by simp at h
  | [], p :: L, i, h => by simp at h
  | e :: es, p :: L, i, h => by
    simp only [List.map_cons, List.cons.injEq, Prod.mk.injEq] at h
    unfold Instr.findNow
    rw [h.1.1, hd k p.1]; rfl
theorem find_keys (E : KeyEnc P kt enc) (k : K) (w : World) (es : List MapEntry) (L : List (K × Value)) (h : es.map (fun e => (e.key, e.val)) = L.map fun p => (enc p.1, p.2)) :
    (Instr.findKey kt (enc k) es).run P w = .ok (match L.findIdx? fun p => decide (k = p.1) with
      | some j => (getK L k).map fun v => (j, v)
      | none => none) w := by
  obtain ⟨d, hd, hs⟩ := E.desc
  unfold Instr.findKey
  rw [Sem.run_bind, run_underlying hd, Result.andThen_ok, find_now_none E k d hs es L 0 h]
  by_cases hL : L = []
  · rw [if_pos hL]; subst hL; rfl
  · rw [if_neg hL]
    have := find_asks E k w es L 0 h
    simp only [Nat.zero_add] at this
    exact this
theorem getK_idx (k : K) : ∀ L : List (K × Value), (getK L k = none ↔ L.findIdx? (fun p => decide (k = p.1)) = none) ∧ ∀ j, L.findIdx? (fun p => decide (k = p.1)) = some j → ∃ p, L[j]? = some p ∧ k = p.1 ∧ getK L k = some p.2
  | [] => by simp [getK]
  | p :: L => by
    obtain ⟨h1, h2⟩ := getK_idx k L
    by_cases hk : k = p.1
    · simp [getK, List.findIdx?_cons, List.find?_cons, hk]
    · have e : getK (p :: L) k = getK L k := by unfold getK; simp only [List.find?_cons, decide_eq_false hk]
      rw [e]
      simp only [List.findIdx?_cons, decide_eq_false hk, Bool.false_eq_true, if_false]
      constructor
      · rw [h1]; cases L.findIdx? (fun p => decide (k = p.1)) <;> simp
      · intro j hj
        cases hf : L.findIdx? (fun p => decide (k = p.1)) with
        | none => rw [hf] at hj; simp at hj
        | some i =>
          rw [hf] at hj
          simp only [Option.map_some, Option.some.injEq] at hj
          subst hj
          obtain ⟨q, hq⟩ := h2 i hf
          exact ⟨q, by simpa using hq.1, hq.2⟩
theorem putK_new (k : K) (v : Value) : ∀ L : List (K × Value), getK L k = none → putK L k v = L ++ [(k, v)]
  | [], _ => rfl
  | p :: L, h => by
    by_cases hk : k = p.1
    · simp [getK, List.find?_cons, hk] at h
    · have e : getK (p :: L) k = getK L k := by unfold getK; simp only [List.find?_cons, decide_eq_false hk]
      rw [putK, if_neg hk, putK_new k v L (by rw [← e]; exact h)]; rfl
theorem putK_old (k : K) (v : Value) : ∀ (L : List (K × Value)) (j : Nat), L.findIdx? (fun p => decide (k = p.1)) = some j → putK L k v = L.set j (k, v)
  | [], j, h => by simp at h
  | p :: L, j, h => by
    by_cases hk : k = p.1
    · simp only [List.findIdx?_cons, decide_eq_true hk, if_true, Option.some.injEq] at h
      subst h
      rw [putK, if_pos hk]; rfl
    · simp only [List.findIdx?_cons, decide_eq_false hk, Bool.false_eq_true, if_false] at h
      cases hf : L.findIdx? (fun p => decide (k = p.1)) with
      | none => rw [hf] at h; simp at h
      | some i =>
        rw [hf] at h
        simp only [Option.map_some, Option.some.injEq] at h
        subst h
        rw [putK, if_neg hk, putK_old k v L i hf]; rfl
/-- 'v, ok := m[k]', 'm[k]' -/
theorem MapKAt.look_any (h : MapKAt P kt enc w b L) (E : KeyEnc P kt enc) {t e : TypeId} (ht : P.underlying t = some (.map kt e)) {z : Value} (hz : (zeroValue e).run P w = .ok z w) (k : K) (c : Bool) :
    (Instr.lookup t (.map (some b)) (enc k) c).run P w = .ok (if c then .tuple #[(getK L k).getD z, .bool (getK L k).isSome] else (getK L k).getD z) w := by
  obtain ⟨es, clock, hb, hes⟩ := h.own
  have hg := MapKept.run_getObj_map (P := P) hb
  have hf := find_keys E k w es.toList L hes
  have hc := fun e => E.check w e k
  unfold Instr.lookup
  simp only [Sem.run_bind, run_underlying ht, Result.andThen_ok, hg, Sem.run_pure, hc, hf]
  obtain ⟨h1, h2⟩ := getK_idx k L
  cases hi : L.findIdx? (fun p => decide (k = p.1)) with
  | none =>
    have hn := h1.2 hi
    simp only [hn, Sem.run_bind, hz, Result.andThen_ok, Sem.run_pure, Option.getD_none, Option.isSome_none]
    try (cases c <;> rfl)
  | some j =>
    obtain ⟨p, hp, _, hv⟩ := h2 j hi
    simp only [hv, Option.map_some, Result.andThen_ok, Sem.run_pure, Option.getD_some, Option.isSome_some]
    try (cases c <;> rfl)
/-- 'm[k] = v' -/
theorem MapKAt.put (h : MapKAt P kt enc w b L) (E : KeyEnc P kt enc) {t e : TypeId} (ht : P.underlying t = some (.map kt e)) (k : K) (v : Value) :
    ∃ w', (Instr.mapUpdate t (.map (some b)) (enc k) v).run P w = .ok () w' ∧ MapKAt P kt enc w' b (putK L k v) ∧ Only (fun q => q = b) w w' := by
  obtain ⟨es, clock, hb, hes⟩ := h.own
  have hg := MapKept.run_getObj_map (P := P) hb
  have hf := find_keys E k w es.toList L hes
  have hc := fun e => E.check w e k
  have hblk : ∀ o, Only (fun q => q = b) w (setBlock w b o) := fun o => ⟨rfl, rfl, rfl, by simp [setBlock], fun i _ hi => heap_setBlock_other hb _ hi⟩
  obtain ⟨h1, h2⟩ := getK_idx k L
  cases hi : L.findIdx? (fun p => decide (k = p.1)) with
  | none =>
    have hn := h1.2 hi
    rw [hi] at hf
    refine ⟨setBlock w b (.map (es.push { key := enc k, val := v, born := clock }) (clock + 1)), ?_, ⟨_, _, heap_setBlock_same hb _, ?_⟩, hblk _⟩
    · simp [Instr.mapUpdate, run_underlying ht, hg, hc, hf, MapKept.run_setObj_map _ hb, Result.andThen, setBlock]
    · rw [putK_new k v L hn]
      simp [hes]
  | some j =>
    obtain ⟨p, hp, hk, hv⟩ := h2 j hi
    rw [hi, hv] at hf
    have hj : ∃ x, es[j]? = some x ∧ x.key = enc k := by
      have := congrArg (fun l => l[j]?) hes
      simp only [List.getElem?_map, hp, Option.map_some, Array.getElem?_toList] at this
      cases hx : es[j]? with
      | none => rw [hx] at this; simp at this
      | some x => rw [hx] at this; simp only [Option.map_some, Option.some.injEq, Prod.mk.injEq] at this; exact ⟨x, rfl, by rw [this.1, hk]⟩
    obtain ⟨x, hx, hxk⟩ := hj
    have hst : (Instr.keyThatStays (enc k) (enc k)).run P w = .ok (enc k) w := by simp [Instr.keyThatStays, E.stays k]
    refine ⟨setBlock w b (.map (es.modify j fun e => { e with key := enc k, val := v }) clock), ?_, ⟨_, _, heap_setBlock_same hb _, ?_⟩, hblk _⟩
    · simp [Instr.mapUpdate, run_underlying ht, hg, hc, hf, hx, hxk, hst, MapKept.run_setObj_map _ hb, Result.andThen, setBlock]
    · rw [putK_old k v L j hi, Array.toList_modify]
      apply List.ext_getElem?
      intro i
      have hi' := congrArg (fun l => l[i]?) hes
      simp only [List.getElem?_map, Array.getElem?_toList] at hi'
      rw [List.getElem?_map, List.getElem?_map, List.getElem?_modify, List.getElem?_set]
      by_cases hij : j = i
      · subst hij
        have : j < L.length := (List.getElem?_eq_some_iff.1 hp).1
        simp [Array.getElem?_toList, hx, this]
      · simp only [if_neg hij]
        simpa [Array.getElem?_toList] using hi'
omit [DecidableEq K] in
/-- 'len(m)' -/
theorem MapKAt.len_run (h : MapKAt P kt enc w b L) {t e : TypeId} (ht : P.underlying t = some (.map kt e)) (ty : TypeId) : (Builtin.len_ #[t] ty #[.map (some b)]).run P w = .ok (.int .i64 L.length) w := by
  obtain ⟨es, clock, hb, hes⟩ := h.own
  have hg := MapKept.run_getObj_map (P := P) hb
  have hl := congrArg List.length hes
  simp only [List.length_map, Array.length_toList] at hl
  simp [Builtin.len_, run_underlying ht, hg, Result.andThen, hl, goInt]
end

/-! ### keys of three octets -/
def oct3 (k : UInt8 × UInt8 × UInt8) : Value := .agg #[.int .u8 (k.1.toNat : Int), .int .u8 (k.2.1.toNat : Int), .int .u8 (k.2.2.toNat : Int)]
theorem oct3_key {P : Program} {kt e : TypeId} {i : TypeInfo} (hu : P.underlying kt = some (.array 3 e)) (he : P.underlying e = some (.int .u8)) (hi : P.info? e = some i) (hs : i.size = 1) : KeyEnc P kt oct3 := by
  refine ⟨⟨_, hu, fun a b => rfl⟩, fun w em k => ?_, fun w a b => ?_, fun k => ?_⟩
  · have h1 : ∀ (n : Nat) (x : Int), (Instr.checkKey em (n + 1) e (.int .u8 x)).run P w = .ok () w := fun n x => by
      unfold Instr.checkKey; simp [run_underlying he, Result.andThen]
    have hz : (sizeOf e).run P w = .ok 1 w := by simp [sizeOf, typeInfo, hi, hs]
    rw [show (10000 : Nat) = 9998 + 1 + 1 from rfl]
    unfold Instr.checkKey
    simp [run_underlying hu, Result.andThen, oct3, hz, part, isAgg, run_underlying he, List.range', h1]
  · have hz : ∀ w, (sizeOf e).run P w = .ok 1 w := fun w => by simp [sizeOf, typeInfo, hi, hs]
    have h := run_equalIn_bytes (P := P) w 9998 kt e 3 hu he hz [a.1, a.2.1, a.2.2] [b.1, b.2.1, b.2.2] rfl rfl
    refine h.trans ?_
    congr 1
    rw [Bool.eq_iff_iff, beq_iff_eq, decide_eq_true_iff]
    obtain ⟨a1, a2, a3⟩ := a
    obtain ⟨b1, b2, b3⟩ := b
    simp
  · simp [oct3, Instr.sameBits]
end Go.Proofs.Ytonfppbijofapaa
