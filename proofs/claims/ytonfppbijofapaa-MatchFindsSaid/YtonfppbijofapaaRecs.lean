/-
  Records in memory: a slice whose elements are so many cells each; what a step leaves alone.
-/
import Derived.Test.YtonfppbijofapaaOctMem
import Derived.Deep.MidRow
import Derived.Maps.AppendAt
import Derived.StillTailTactics
namespace Go.Proofs.Ytonfppbijofapaa
open Go.RowKit
set_option linter.unusedVariables false
set_option linter.unusedSimpArgs false

/-! ### what is written lies in S, or is new -/
structure Only (S : Nat → Prop) (w w' : World) : Prop where
  os : w'.os = w.os
  tape : w'.tape = w.tape
  output : w'.output = w.output
  size : w.heap.size ≤ w'.heap.size
  block : ∀ k, k < w.heap.size → ¬ S k → w'.heap[k]? = w.heap[k]?

theorem Only.refl (S : Nat → Prop) (w : World) : Only S w w := ⟨rfl, rfl, rfl, Nat.le_refl _, fun _ _ _ => rfl⟩
theorem Only.trans {S T : Nat → Prop} {a b c : World} (h : Only S a b) (k : Only T b c) (hT : ∀ i, i < a.heap.size → T i → S i) : Only S a c :=
  ⟨k.os.trans h.os, k.tape.trans h.tape, k.output.trans h.output, Nat.le_trans h.size k.size,
    fun i hi hn => (k.block i (Nat.lt_of_lt_of_le hi h.size) (fun ht => hn (hT i hi ht))).trans (h.block i hi hn)⟩
theorem Only.more {S T : Nat → Prop} {a b : World} (h : Only S a b) (hT : ∀ i, i < a.heap.size → S i → T i) : Only T a b :=
  ⟨h.os, h.tape, h.output, h.size, fun i hi hn => h.block i hi (fun hs => hn (hT i hi hs))⟩
theorem Only.of_below {S : Nat → Prop} {a b : World} (h : Below a.heap.size a b) : Only S a b := ⟨h.os, h.tape, h.output, h.size, fun i hi _ => h.block i hi⟩
theorem Only.below {S : Nat → Prop} {a b : World} {B : Nat} (h : Only S a b) (hB : B ≤ a.heap.size) (hS : ∀ i, i < B → ¬ S i) : Below B a b :=
  ⟨h.os, h.tape, h.output, h.size, fun i hi => h.block i (Nat.lt_of_lt_of_le hi hB) (hS i hi)⟩
theorem Only.of_grown {S : Nat → Prop} {a b : World} {row : Option Nat} (h : a.grownBy b row) (hr : ∀ k, row = some k → S k) : Only S a b :=
  ⟨h.os, h.tape, h.output, h.size, fun i hi hn => h.block i hi (fun e => hn (hr i e.symm))⟩
theorem Only.setCell {S : Nat → Prop} (w : World) (p : Addr) (u : Value) (hp : S p.block) : Only S w (w.setCell p u) :=
  ⟨rfl, rfl, rfl, by simp [World.setCell], fun k hk hn => Below.heap_setCell _ _ _ _ (fun e => hn (by rw [e]; exact hp))⟩
theorem Only.setRow {S : Nat → Prop} (w : World) (g : Nat) (cs : Array Value) (hg : S g) : Only S w (w.setRow g cs) :=
  ⟨rfl, rfl, rfl, by simp, fun k hk hn => setRow_other w g k cs (fun e => hn (by rw [e]; exact hg))⟩
theorem Only.drewN {S : Nat → Prop} (w : World) (n : Nat) : Only S w (w.drewN n) := ⟨rfl, rfl, rfl, Nat.le_refl _, fun _ _ _ => rfl⟩
theorem Only.drew {S : Nat → Prop} (w : World) : Only S w w.drew := ⟨rfl, rfl, rfl, Nat.le_refl _, fun _ _ _ => rfl⟩
theorem Only.alloc {S : Nat → Prop} (w : World) (o : Obj) : Only S w (w.alloc o) := Only.of_below ((Below.refl _ _).alloc (Nat.le_refl _) _)

theorem BytesAt.only {S : Nat → Prop} {w w' : World} {a : Option Addr} {n cap : Nat} {l : List UInt8} (h : BytesAt w a n cap l) (ho : Only S w w') (hS : ∀ x, a = some x → ¬ S x.block) : BytesAt w' a n cap l := by
  obtain ⟨h1, h2, h3, h4⟩ := h
  refine ⟨h1, h2, h3, ?_⟩
  rcases h4 with h4 | ⟨x, rfl, hx⟩
  · exact .inl h4
  · refine .inr ⟨x, rfl, fun i hi => ?_⟩
    have hlt := block_lt (hx i hi)
    rw [add_block] at hlt
    rw [World.cell?_of_block (w := w) (by rw [add_block]; exact ho.block _ hlt (hS x rfl))]
    exact hx i hi

/-! ### lists of records -/
section
variable {α : Type} {f : α → List Value} {size : Nat}

theorem flatMap_len (L : List α) (hf : ∀ x ∈ L, (f x).length = size) : (L.flatMap f).length = L.length * size := by
  induction L with
  | nil => simp
  | cons x L ih =>
    rw [List.flatMap_cons, List.length_append, hf x (by simp), ih (fun y hy => hf y (by simp [hy])), List.length_cons, Nat.succ_mul]; omega

theorem flatMap_take (L : List α) (hf : ∀ x ∈ L, (f x).length = size) (i : Nat) (hi : i ≤ L.length) : (L.flatMap f).take (i * size) = (L.take i).flatMap f := by
  have h1 : ((L.take i).flatMap f).length = i * size := by rw [flatMap_len _ (fun x hx => hf x (List.mem_of_mem_take hx))]; simp [hi]
  conv => lhs; rw [← List.take_append_drop i L, List.flatMap_append]
  rw [← h1, List.take_left]

theorem flatMap_drop (L : List α) (hf : ∀ x ∈ L, (f x).length = size) (i : Nat) (hi : i ≤ L.length) : (L.flatMap f).drop (i * size) = (L.drop i).flatMap f := by
  have h1 : ((L.take i).flatMap f).length = i * size := by rw [flatMap_len _ (fun x hx => hf x (List.mem_of_mem_take hx))]; simp [hi]
  conv => lhs; rw [← List.take_append_drop i L, List.flatMap_append]
  rw [← h1, List.drop_left]

/-- cell j of record i -/
theorem flatMap_at (L : List α) (hf : ∀ x ∈ L, (f x).length = size) (i j : Nat) (x : α) (hi : L[i]? = some x) (hj : j < size) : (L.flatMap f)[i * size + j]? = (f x)[j]? := by
  have hl : i < L.length := (List.getElem?_eq_some_iff.1 hi).1
  have hx : L[i] = x := (List.getElem?_eq_some_iff.1 hi).2
  rw [← List.getElem?_drop, flatMap_drop L hf i (by omega), List.drop_eq_getElem_cons hl, List.flatMap_cons, hx, List.getElem?_append_left]
  rw [hf x (hx ▸ List.getElem_mem hl)]; exact hj

theorem flatMap_splice (L : List α) (hf : ∀ x ∈ L, (f x).length = size) (i : Nat) (hi : i < L.length) (x : α) (hx : (f x).length = size) :
    (L.flatMap f).take (i * size) ++ f x ++ (L.flatMap f).drop (i * size + size) = (L.set i x).flatMap f := by
  rw [flatMap_take L hf i (by omega), show i * size + size = (i + 1) * size by rw [Nat.succ_mul], flatMap_drop L hf (i + 1) (by omega), List.set_eq_take_append_cons_drop, if_pos hi]
  simp [List.flatMap_append]

theorem flatMap_set (L : List α) (hf : ∀ x ∈ L, (f x).length = size) (i j : Nat) (hi : i < L.length) (hj : j < size) (x : α) (u : Value) (hx : f x = (f L[i]).set j u) :
    (L.flatMap f).set (i * size + j) u = (L.set i x).flatMap f := by
  have hfi := hf L[i] (List.getElem_mem hi)
  have hs : (f x).length = size := by rw [hx, List.length_set]; exact hfi
  rw [← flatMap_splice L hf i hi x hs]
  have hlen : ((L.flatMap f).take (i * size)).length = i * size := by
    rw [flatMap_take L hf i (by omega), flatMap_len _ (fun y hy => hf y (List.mem_of_mem_take hy)), List.length_take, Nat.min_eq_left (by omega)]
  have hd : (L.flatMap f).drop (i * size) = f L[i] ++ (L.flatMap f).drop (i * size + size) := by
    rw [flatMap_drop L hf i (by omega), List.drop_eq_getElem_cons hi, List.flatMap_cons, show i * size + size = (i + 1) * size by rw [Nat.succ_mul], flatMap_drop L hf (i + 1) (by omega)]
  conv => lhs; rw [← List.take_append_drop (i * size) (L.flatMap f), hd]
  rw [List.set_append_right _ _ (by omega), hlen, Nat.add_sub_cancel_left, List.set_append_left _ _ (by omega), ← hx, List.append_assoc]
end

/-- the slice v holds the records of L, each of them so many cells -/
def Recs {α : Type} (f : α → List Value) (w : World) (e : TypeId) (size : Nat) (v : Value) (L : List α) : Prop :=
  (∀ x ∈ L, (f x).length = size) ∧ (∀ x ∈ L, ∀ u ∈ f x, u.oneCell' = true) ∧ w.ownsRow 0 e size v L.length (L.flatMap f)

section
variable {α : Type} {f : α → List Value} {w w' : World} {e : TypeId} {size : Nat} {v : Value} {L : List α}

theorem Recs.nil (f : α → List Value) (w : World) (e : TypeId) (size : Nat) : Recs f w e size (.slice none 0 0) [] := ⟨by simp, by simp, World.ownsRow_nil _ _ _ _⟩
theorem Recs.lt (h : Recs f w e size v L) : ∀ k, v.ownBlock = some k → k < w.heap.size := fun k hk => (h.2.2.lt k hk).2
theorem Recs.keep (h : Recs f w e size v L) (hk : ∀ k, v.ownBlock = some k → w'.heap[k]? = w.heap[k]?) : Recs f w' e size v L := by
  refine ⟨h.1, h.2.1, h.2.2.1, ?_⟩
  rcases h.2.2.2 with hn | ⟨g, cap, cur, rfl, hb, hg, rest⟩
  · exact .inl hn
  · exact .inr ⟨g, cap, cur, rfl, hb, (hk g rfl).trans hg, rest⟩
theorem Recs.only {S : Nat → Prop} (h : Recs f w e size v L) (ho : Only S w w') (hS : ∀ k, v.ownBlock = some k → ¬ S k) : Recs f w' e size v L :=
  h.keep fun k hk => ho.block k (h.lt k hk) (hS k hk)
theorem Recs.below (h : Recs f w e size v L) (hb : Below w.heap.size w w') : Recs f w' e size v L := h.keep fun k hk => hb.block k (h.lt k hk)
theorem Recs.blk (h : Recs f w e size v L) (k : Nat) (hk : v.ownBlock = some k) : ∃ cur, w.heap[k]? = some (.cells cur e (0, 0)) := by
  rcases h.2.2.2 with ⟨rfl, h0⟩ | ⟨g, cap, cur, rfl, hb, hg, rest⟩
  · simp [Value.ownBlock] at hk
  · simp only [Value.ownBlock, Option.some.injEq] at hk
    subst hk
    exact ⟨cur, hg⟩
theorem Recs.ne_of (h : Recs f w e size v L) {g : Nat} {cs : Array Value} {t : TypeId} (hg : w.heap[g]? = some (.cells cs t (0, 0))) (ht : e ≠ t) : ∀ k, v.ownBlock = some k → k ≠ g := by
  intro k hk hkg
  obtain ⟨cur, hc⟩ := h.blk k hk
  subst hkg
  rw [hg] at hc
  injection hc with hc
  injection hc with _ hc
  exact ht hc.symm
theorem Recs.form (h : Recs f w e size v L) : ∃ a cap, v = .slice a L.length cap ∧ L.length ≤ cap ∧ cap ≤ maxLen := by
  rcases h.2.2.2 with ⟨rfl, h0⟩ | ⟨g, cap, cur, rfl, _, _, hc, hm, _⟩
  · exact ⟨none, 0, by rw [h0], by omega, by simp⟩
  · exact ⟨_, cap, rfl, hc, hm⟩
theorem Recs.form' (h : Recs f w e size v L) (hp : 0 < L.length) : ∃ g cap, v = .slice (some ⟨g, 0, none⟩) L.length cap ∧ L.length ≤ cap ∧ cap ≤ maxLen ∧ g < w.heap.size := by
  rcases h.2.2.2 with ⟨rfl, h0⟩ | ⟨g, cap, cur, rfl, _, hg, hc, hm, _⟩
  · omega
  · exact ⟨g, cap, rfl, hc, hm, (Array.getElem?_eq_some_iff.1 hg).1⟩
variable {g cap n : Nat}
theorem Recs.cellAt (h : Recs f w e size (.slice (some ⟨g, 0, none⟩) n cap) L) (i j : Nat) (x : α) (hi : L[i]? = some x) (hj : j < size) : w.cell? ⟨g, i * size + j, none⟩ = (f x)[j]? := by
  have hl : i < L.length := (List.getElem?_eq_some_iff.1 hi).1
  have hn : n = L.length := by
    rcases h.2.2.2 with ⟨h', _⟩ | ⟨g', cap', cur, h', _⟩
    · simp at h'
    · simp only [Value.slice.injEq] at h'; exact h'.2.1
  subst hn
  rw [World.ownsRow.cellAt h.2.2 _ (by calc i * size + j < i * size + size := by omega
    _ = (i + 1) * size := by rw [Nat.succ_mul]
    _ ≤ L.length * size := Nat.mul_le_mul_right _ hl)]
  exact flatMap_at L h.1 i j x hi hj
theorem Recs.frozenAt (h : Recs f w e size (.slice (some ⟨g, 0, none⟩) n cap) L) (j : Nat) : w.frozen? ⟨g, j, none⟩ = false := by
  rcases h.2.2.2 with ⟨h', _⟩ | ⟨g', cap', cur, h', _, hg, _⟩
  · simp at h'
  · simp only [Value.slice.injEq, Option.some.injEq, Addr.mk.injEq, and_true] at h'
    obtain ⟨rfl, rfl, rfl⟩ := h'
    exact frozen_of_row w g j cur e hg
theorem Recs.rangeAt (h : Recs f w e size (.slice (some ⟨g, 0, none⟩) n cap) L) (i : Nat) (x : α) (hi : L[i]? = some x) : w.rangeAt g (i * size) (f x) := fun j u hu => by
  have hl : i < L.length := (List.getElem?_eq_some_iff.1 hi).1
  have hx : (f x).length = size := h.1 x (List.mem_of_getElem? hi)
  have hj : j < size := by rw [← hx]; exact (List.getElem?_eq_some_iff.1 hu).1
  rw [h.cellAt i j x hi hj, hu]
theorem Recs.there (h : Recs f w e size (.slice (some ⟨g, 0, none⟩) n cap) L) (i : Nat) (hi : i < L.length) : w.there g (i * size) size := fun j hj => by
  have hx := List.getElem?_eq_getElem hi
  have hs := h.1 L[i] (List.getElem_mem hi)
  exact ⟨by rw [h.cellAt i j _ hx hj, List.getElem?_eq_getElem (by omega)]; rfl, h.frozenAt _⟩

/-- one cell of a record is stored -/
theorem Recs.stored (h : Recs f w e size (.slice (some ⟨g, 0, none⟩) n cap) L) (i j : Nat) (hi : i < L.length) (hj : j < size) (x : α) (u : Value) (hx : f x = (f L[i]).set j u) (hu : u.oneCell' = true) :
    Recs f (w.setCell ⟨g, i * size + j, none⟩ u) e size (.slice (some ⟨g, 0, none⟩) n cap) (L.set i x) := by
  have hn : n = L.length := by
    rcases h.2.2.2 with ⟨h', _⟩ | ⟨g', cap', cur, h', _⟩
    · simp at h'
    · simp only [Value.slice.injEq] at h'; exact h'.2.1
  subst hn
  refine ⟨fun y hy => ?_, fun y hy z hz => ?_, ?_⟩
  · rcases List.mem_or_eq_of_mem_set hy with hy | rfl
    · exact h.1 y hy
    · rw [hx, List.length_set]; exact h.1 _ (List.getElem_mem hi)
  · rcases List.mem_or_eq_of_mem_set hy with hy | rfl
    · exact h.2.1 y hy z hz
    · rw [hx] at hz
      rcases List.mem_or_eq_of_mem_set hz with hz | rfl
      · exact h.2.1 _ (List.getElem_mem hi) z hz
      · exact hu
  · have := (World.ownsRow.stored h.2.2 (i * size + j) u).1
    rw [flatMap_set L h.1 i j hi hj x u hx] at this
    rwa [List.length_set]

/-- the whole of a record is stored -/
theorem Recs.put (h : Recs f w e size (.slice (some ⟨g, 0, none⟩) n cap) L) (i : Nat) (hi : i < L.length) (x : α) (hx : (f x).length = size) (hu : ∀ u ∈ f x, u.oneCell' = true) :
    Recs f (w.setCells g (i * size) (f x)) e size (.slice (some ⟨g, 0, none⟩) n cap) (L.set i x) ∧ w.grownBy (w.setCells g (i * size) (f x)) (some g) := by
  have key : ∀ (vs : List Value) (o : Nat) (w : World) (cur : Array Value), w.heap[g]? = some (.cells cur e (0, 0)) → o + vs.length ≤ cur.size →
      ∃ cur', (w.setCells g o vs).heap[g]? = some (.cells cur' e (0, 0)) ∧ cur'.size = cur.size ∧ cur'.toList = cur.toList.take o ++ vs ++ cur.toList.drop (o + vs.length) ∧ w.grownBy (w.setCells g o vs) (some g) := by
    intro vs
    induction vs with
    | nil => intro o w cur hg _; exact ⟨cur, hg, rfl, by simp, World.grownBy.refl _ _⟩
    | cons u vs ih =>
      intro o w cur hg hlen
      obtain ⟨cur', h1, h2, h3, h4⟩ := ih (o + 1) (w.setCell ⟨g, o, none⟩ u) (cur.setIfInBounds o u) (heap_setCell_same w g o cur e u hg) (by simp at hlen ⊢; omega)
      refine ⟨cur', h1, by rw [h2]; simp, ?_, grown_trans (setCell_grown w g o u) h4⟩
      rw [h3]
      have := list_seg_step cur.toList o u vs (by simp at hlen ⊢; omega)
      simpa [Array.toList_setIfInBounds, Nat.add_assoc] using this
  rcases h.2.2.2 with ⟨h', _⟩ | ⟨g', cap', cur, h', hb, hg, hnc, hcm, hcs, htake⟩
  · simp at h'
  · simp only [Value.slice.injEq, Option.some.injEq, Addr.mk.injEq, and_true] at h'
    obtain ⟨rfl, rfl, rfl⟩ := h'
    have hle : i * size + size ≤ L.length * size := by rw [← Nat.succ_mul]; exact Nat.mul_le_mul_right _ hi
    have hle2 : L.length * size ≤ cur.size := by rw [hcs]; exact Nat.mul_le_mul_right _ hnc
    obtain ⟨cur', h1, h2, h3, h4⟩ := key (f x) (i * size) w cur hg (by rw [hx]; omega)
    refine ⟨⟨fun y hy => ?_, fun y hy z hz => ?_, ?_, .inr ⟨g, cap, cur', by rw [List.length_set], hb, h1, by rw [List.length_set]; exact hnc, hcm, by rw [h2]; exact hcs, ?_⟩⟩, h4⟩
    · rcases List.mem_or_eq_of_mem_set hy with hy | rfl
      · exact h.1 y hy
      · exact hx
    · rcases List.mem_or_eq_of_mem_set hy with hy | rfl
      · exact h.2.1 y hy z hz
      · exact hu z hz
    · rw [flatMap_len (size := size) _ (fun y hy => by
        rcases List.mem_or_eq_of_mem_set hy with hy | rfl
        · exact h.1 y hy
        · exact hx)]
    · rw [h3, List.length_set, ← flatMap_splice L h.1 i hi x hx, ← htake, hx]
      have e1 : (cur.toList.take (L.length * size)).take (i * size) = cur.toList.take (i * size) := by rw [List.take_take, Nat.min_eq_left (by omega)]
      have e2 : (cur.toList.take (i * size) ++ f x).length = i * size + size := by simp [hx]; omega
      rw [e1, List.take_append, e2, List.drop_take]
      rw [List.take_of_length_le (by rw [e2]; omega)]
end

theorem setRow_grown (w : World) (g : Nat) (cs : Array Value) : w.grownBy (w.setRow g cs) (some g) :=
  ⟨rfl, rfl, rfl, by simp, fun k _ hk => setRow_other w g k cs (fun e => hk (by rw [e]))⟩

/-! ### a region that draws its order: reads, then the rest in order -/
theorem region_still_tail {P : Program} {id : Nat} {Q : Exit → Act → World → Prop} {a : Act} {w : World} {l : List Oper} (n : Nat) (hm : P.follows .mixedOrders = true) (hB : Region.lexTailB .any l.toArray n = true)
    (h : wpStill P l.toArray w.drew (fun a' => wpList P l.toArray Q (l.drop n) a' w.drew) (l.take n) a) : (Code.region id l.toArray true).wp P Q a w := wp_region_still_tail n hm hB h

theorem still_load_mid {P : Program} {ops : Array Oper} {rest : List Oper} {o : Oper} {a : Act} {w : World} {Q : Act → Prop} (hgd : o.guard = none) (ty : TypeId) (x : Operand) (ho : o.op = .load ty x)
    (b off : Nat) (hx : a.eval x = .pointer (some ⟨b, off, none⟩)) (cs : List Value) (d : TypeDesc) (hc : w.rangeAt b off cs)
    (hu : P.underlying ty = some d) (hd : d.isRow = true) (hi : (P.info? ty).map (·.size) = some cs.length)
    (h : wpStill P ops w Q rest (a.put o.dst (.agg cs.toArray))) : wpStill P ops w Q (o :: rest) a := by
  unfold wpStill
  have hw : Region.wanted o (yielded ops a.tmps) = true := by simp [Region.wanted, hgd]
  rw [if_pos hw]
  unfold Oper.still execOp
  simp only [ho, hx, Instr.loadAt, Instr.sureAddr, Sem.run_bind, Sem.run_pure, Result.andThen_ok, run_loadVar_mid w b off ty cs d hc hu hd hi]
  rw [Oper.stillUpon_value]
  exact h

/-- records laid behind records of the call's own -/
theorem wp_append_recs {α : Type} {f : α → List Value} {P : Program} {w : World} {o : Oper} {a : Act} {K : Act → World → Prop} {Q : Exit → Act → World → Prop} (s x : Operand) (t : TypeId)
    (ho : o.op = .call { callee := .builtin .append, args := #[s, x], argTypes := #[t, t] })
    (e : TypeId) (i : TypeInfo) (z : Value) (size bytes : Nat) (ht : P.underlying t = some (.slice e)) (hi : P.info? e = some i) (hz : i.zero = some z)
    (hsize : i.size = size) (hby : i.bytes = bytes) (hzs : z.cells.size = size) (hsz : 0 < size)
    (v : Value) (L : List α) (hs : a.eval s = v) (hown : Recs f w e size v L)
    (ad : Addr) (m c : Nat) (M : List α) (hx : a.eval x = .slice (some ad) m c) (hm : M.length = m) (hM : ∀ y ∈ M, (f y).length = size) (hM1 : ∀ y ∈ M, ∀ u ∈ f y, u.oneCell' = true)
    (hnews : ∀ j u, (M.flatMap f)[j]? = some u → w.cell? (ad.add j) = some u)
    (h63 : L.length + m ≤ maxLen) (hbytes : (L.length + m) * bytes ≤ 140737488355328)
    (h : ∀ v' w', Recs f w' e size v' (L ++ M) → w.grownBy w' v.ownBlock → (v'.ownBlock = v.ownBlock ∨ v'.ownBlock = some w.heap.size) → K (a.put o.dst v') w') :
    Oper.wp P o a w K Q := by
  subst hm
  obtain ⟨v', w', hr, h2, h3, h4, h5⟩ := run_append_own_at (P := P) w 0 t o.type e i z size bytes ht hi hz hsize hby hzs hsz v L.length (L.flatMap f) hown.2.2 ad M.length c (M.flatMap f) (flatMap_len M hM) hnews (fun u hu => by
    obtain ⟨y, hy, hyu⟩ := List.mem_flatMap.1 hu
    exact hM1 y hy u hyu) h63 hbytes (Nat.zero_le _)
  unfold Oper.wp execOp
  simp only [ho, resolve, invoke, builtin, Sem.run_bind, Sem.run_pure, Result.andThen_ok, List.map_toArray, List.map_cons, List.map_nil, hs, hx, hr]
  refine h v' w' ⟨fun y hy => ?_, fun y hy => ?_, by rw [List.length_append, List.flatMap_append]; exact h2⟩ h3 h5
  · rcases List.mem_append.1 hy with hy | hy
    · exact hown.1 y hy
    · exact hM y hy
  · rcases List.mem_append.1 hy with hy | hy
    · exact hown.2.1 y hy
    · exact hM1 y hy

theorem wpList_append_recs {α : Type} {f : α → List Value} {P : Program} {w : World} {ops : Array Oper} {rest : List Oper} {o : Oper} {a : Act} {Q : Exit → Act → World → Prop} (hgd : o.guard = none) (s x : Operand) (t : TypeId)
    (ho : o.op = .call { callee := .builtin .append, args := #[s, x], argTypes := #[t, t] })
    (e : TypeId) (i : TypeInfo) (z : Value) (size bytes : Nat) (ht : P.underlying t = some (.slice e)) (hi : P.info? e = some i) (hz : i.zero = some z)
    (hsize : i.size = size) (hby : i.bytes = bytes) (hzs : z.cells.size = size) (hsz : 0 < size)
    (v : Value) (L : List α) (hs : a.eval s = v) (hown : Recs f w e size v L)
    (ad : Addr) (m c : Nat) (M : List α) (hx : a.eval x = .slice (some ad) m c) (hm : M.length = m) (hM : ∀ y ∈ M, (f y).length = size) (hM1 : ∀ y ∈ M, ∀ u ∈ f y, u.oneCell' = true)
    (hnews : ∀ j u, (M.flatMap f)[j]? = some u → w.cell? (ad.add j) = some u)
    (h63 : L.length + m ≤ maxLen) (hbytes : (L.length + m) * bytes ≤ 140737488355328)
    (h : ∀ v' w', Recs f w' e size v' (L ++ M) → w.grownBy w' v.ownBlock → (v'.ownBlock = v.ownBlock ∨ v'.ownBlock = some w.heap.size) → wpList P ops Q rest (a.put o.dst v') w') : wpList P ops Q (o :: rest) a w :=
  wpList_plain hgd fun _ hK => wp_append_recs s x t ho e i z size bytes ht hi hz hsize hby hzs hsz v L hs hown ad m c M hx hm hM hM1 hnews h63 hbytes fun v' w' h1 h2 h3 => hK _ _ (h v' w' h1 h2 h3)

/-- one record, in a block of its own: what append reads -/
theorem one_rec {α : Type} {f : α → List Value} {w : World} {B : Nat} {x : α} {t : TypeId} {fr : Nat × Nat} (h : w.heap[B]? = some (.cells (f x).toArray t fr)) : ∀ j u, ([x].flatMap f)[j]? = some u → w.cell? ((⟨B, 0, none⟩ : Addr).add j) = some u := by
  intro j u hj
  rw [Addr.add_mid, Nat.zero_add, cell_of_row _ _ _ _ _ _ h, ← Array.getElem?_toList, List.toList_toArray]
  simpa using hj

end Go.Proofs.Ytonfppbijofapaa
