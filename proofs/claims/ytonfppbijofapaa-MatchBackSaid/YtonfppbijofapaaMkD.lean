/-
  Package match: the table of places; the three octets at a place.
-/
import Derived.Test.YtonfppbijofapaaMkK
import Derived.Test.YtonfppbijofapaaMkMath
import Derived.Test.YtonfppbijofapaaMaU
import Derived.Test.YtonfppbijofapaaInts
import Derived.Deep.MidRow
import Derived.Deep.WholeRow
namespace Go.Proofs.Ytonfppbijofapaa
open Go.RowKit
set_option linter.unusedVariables false
set_option linter.unusedSimpArgs false
set_option maxRecDepth 100000

def finC (a : Option Addr) (n cap M : Nat) : Value := .agg #[.slice a n cap, .map (some M)]
theorem sizeStart : (Try.prog.info? 58).map (·.size) = some 3 := by kernel_rfl
theorem keyStart : KeyEnc Try.prog 58 oct3 := by
  obtain ⟨i0, hi0, hz0, hz1, hz2⟩ := info_parts infoU8
  exact oct3_key Try.underlying58 Try.underlying5 hi0 hz1
theorem results_cell_slotM {P : Program} {fn : Func} {p q : Tmp} {ty : TypeId} (h : fn.results = #[.cell p ty, .tmp q]) (tmps : Array Value) (w : World) (g : Nat) (t : TypeId) (cs : Array Value) (fr : Nat × Nat) (d : TypeDesc) (v : Value)
    (hp : tmps.getD p undef = .pointer (some ⟨g, 0, none⟩)) (hg : w.heap[g]? = some (.cells cs t fr)) (hq : tmps.getD q undef = v)
    (hu : P.underlying ty = some d) (hd : (match d with | .struct _ | .array _ _ => true | _ => false) = true) (hi : (P.info? ty).map (·.size) = some cs.size) :
    (results fn tmps).run P w = .ok (.tuple #[.agg cs, v]) w := by
  have hp' : tmps[p]?.getD undef = .pointer (some ⟨g, 0, none⟩) := by simpa using hp
  have hq' : tmps[q]?.getD undef = v := by simpa using hq
  simp [results, h, hp', hq', asAddr, run_loadVar_row w g t ty cs fr d hg hu hd hi]

/-- the cells of three octets -/
def k3row (k : Key3) : Array Value := #[.int .u8 (k.1.toNat : Int), .int .u8 (k.2.1.toNat : Int), .int .u8 (k.2.2.toNat : Int)]
theorem oct3_row (k : Key3) : oct3 k = .agg (k3row k) := rfl
theorem start_at (x : Addr) (c : Nat) (w : World) : (Instr.arrayAt 58 (.slice (some x) 3 c)).run Try.prog w = .ok (.pointer (some x)) w := by
  simp [Instr.arrayAt, run_underlying Try.underlying58]

theorem heap_new2 (w : World) (X Y : Obj) : ((w.alloc X).alloc Y).heap[w.heap.size + 1]? = some Y := by
  have h := heap_alloc_new (w.alloc X) Y
  rwa [show (w.alloc X).heap.size = w.heap.size + 1 by simp] at h
set_option maxHeartbeats 2000000 in
theorem mkStart_any (a : Option Addr) (n cap : Nat) (b : List UInt8) (M at_ : Nat) (w : World) (h : BytesAt w a n cap b) (hn : n ≤ 65536) (hat : at_ ≤ n) :
    Calls Try.prog 26 #[finC a n cap M, .int .i64 at_] w fun e w' => e = .returned (.tuple #[oct3 (if at_ + 3 ≤ n then key3 b at_ else (0, 0, 0)), .bool (decide (at_ + 3 ≤ n))]) ∧ Below w.heap.size w w' := by
  have hlen := h.1
  have hcap := h.2.1
  have hmax := h.2.2.1
  unfold maxLen at hmax
  by_cases h3 : at_ + 3 ≤ n
  · obtain ⟨g, off, rfl, hc⟩ := h.at (by omega)
    have c0 := hc at_ (by omega)
    have c1 := hc (at_ + 1) (by omega)
    have c2 := hc (at_ + 2) (by omega)
    obtain ⟨k, hk⟩ : ∃ k, k = key3 b at_ := ⟨_, rfl⟩
    have e0 : b.getD at_ 0 = k.1 := by rw [hk]; rfl
    have e1 : b.getD (at_ + 1) 0 = k.2.1 := by rw [hk]; rfl
    have e2 : b.getD (at_ + 2) 0 = k.2.2 := by rw [hk]; rfl
    rw [e0] at c0
    rw [e1] at c1
    rw [e2] at c2
    rw [if_pos h3, decide_eq_true h3, oct3_row, ← hk]
    have hg : g < w.heap.size := block_lt c0
    have c1 : w.cell? ⟨g, off + at_ + 1, none⟩ = some (.int .u8 (k.2.1.toNat : Int)) := c1
    have c2 : w.cell? ⟨g, off + at_ + 2, none⟩ = some (.int .u8 (k.2.2.toNat : Int)) := c2
    unfold k3row
    clear e0 e1 e2 hk hc h hlen
    have d1 : ¬ (n : Int) - at_ < 3 := by omega
    have d2 : (at_ : Int) ≤ (at_ : Int) + 3 := by omega
    have d3 : (at_ : Int) + 3 ≤ (cap : Int) := by omega
    have d4 : ¬ cap = at_ := by omega
    have harr := start_at ⟨g, off + at_, none⟩ (cap - at_)
    unfold finC
    go_enter Try.func26, Try.ntmps26
    go_wp2
    exact bodyPost_ret (v := .tuple #[.agg #[.int .u8 (k.1.toNat : Int), .int .u8 (k.2.1.toNat : Int), .int .u8 (k.2.2.toNat : Int)], .bool true]) (results_cell_slotM rfl _ _ (w.heap.size + 1) 58 _ (0, 0) _ _ rfl (heap_new2 w _ _) rfl Try.underlying58 rfl sizeStart) rfl ⟨rfl, ((Below.refl _ _).alloc (Nat.le_refl _) _).alloc (by simp) _⟩
  · rw [if_neg h3, decide_eq_false h3]
    have d1 : (n : Int) - at_ < 3 := by omega
    unfold finC
    go_enter Try.func26, Try.ntmps26
    go_wp2
    exact bodyPost_ret (v := .tuple #[.agg #[.int .u8 0, .int .u8 0, .int .u8 0], .bool false]) (results_cell_slotM rfl _ _ (w.heap.size + 1) 58 _ (0, 0) _ _ rfl (heap_new2 w _ _) rfl Try.underlying58 rfl sizeStart) rfl ⟨rfl, ((Below.refl _ _).alloc (Nat.le_refl _) _).alloc (by simp) _⟩

/-! ### the table -/
/-- the row of a key -/
def rowK (L : List (Key3 × Value)) (k : Key3) : Value := (getK L k).getD (.slice none 0 0)
/-- rows of the table's own: of each key its places, no two of them in one block -/
structure RowsK (n0 : Nat) (w : World) (R : Key3 → Value) (E : Key3 → List Nat) : Prop where
  recs : ∀ k, Recs intCS w 3 1 (R k) ((E k).map Int.ofNat)
  since : ∀ k q, (R k).ownBlock = some q → n0 ≤ q
  apart : ∀ k k' q, (R k).ownBlock = some q → (R k').ownBlock = some q → k = k'
/-- a table of places, made at n0 or later -/
structure TabS (n0 : Nat) (w : World) (M : Nat) (E : Key3 → List Nat) : Prop where
  tab : ∃ L, MapBAt Try.prog 58 oct3 w M L ∧ RowsK n0 w (rowK L) E
  le : n0 ≤ M
/-- blocks of other types stay -/
def KeepF (w w' : World) : Prop := ∀ (k : Nat) (c : Array Value) (t : TypeId), w.heap[k]? = some (.cells c t (0, 0)) → t ≠ 3 → w'.heap[k]? = some (.cells c t (0, 0))
theorem KeepF.refl (w : World) : KeepF w w := fun _ _ _ h _ => h
theorem KeepF.trans {a b c : World} (h : KeepF a b) (k : KeepF b c) : KeepF a c := fun i cs t h1 h2 => k i cs t (h i cs t h1 h2) h2
theorem KeepF.below {w w' : World} (h : Below w.heap.size w w') : KeepF w w' := fun i cs t h1 _ => (h.block i (Array.getElem?_eq_some_iff.1 h1).1).trans h1
theorem TabS.lt {n0 : Nat} {w : World} {M : Nat} {E : Key3 → List Nat} (h : TabS n0 w M E) : M < w.heap.size := by obtain ⟨L, h1, _⟩ := h.tab; exact h1.lt
theorem TabS.n0le {n0 : Nat} {w : World} {M : Nat} {E : Key3 → List Nat} (h : TabS n0 w M E) : n0 ≤ w.heap.size := Nat.le_trans h.le (Nat.le_of_lt h.lt)
theorem RowsK.below {n0 : Nat} {w w' : World} {R : Key3 → Value} {E : Key3 → List Nat} (h : RowsK n0 w R E) (hb : Below w.heap.size w w') : RowsK n0 w' R E := ⟨fun k => (h.recs k).below hb, h.since, h.apart⟩
theorem TabS.below {n0 : Nat} {w w' : World} {M : Nat} {E : Key3 → List Nat} (h : TabS n0 w M E) (hb : Below w.heap.size w w') : TabS n0 w' M E := by
  obtain ⟨L, h1, h2⟩ := h.tab
  exact ⟨⟨L, h1.below hb, h2.below hb⟩, h.le⟩
theorem TabS.made (n0 : Nat) (w : World) (h : n0 ≤ w.heap.size) : TabS n0 (w.alloc (.map #[] 0)) w.heap.size (fun _ => []) :=
  ⟨⟨[], MapBAt.made w, ⟨fun k => Recs.nil _ _ _ _, fun k q hq => by simp [rowK, getK, Value.ownBlock] at hq, fun k k' q hq => by simp [rowK, getK, Value.ownBlock] at hq⟩⟩, h⟩
/-- a change to the map alone, and to new blocks, leaves the rows -/
theorem RowsK.map {n0 M : Nat} {w w' : World} {R : Key3 → Value} {E : Key3 → List Nat} (h : RowsK n0 w R E) (ho : Only (fun q => q = M) w w') (hm : ∃ es c, w.heap[M]? = some (.map es c)) : RowsK n0 w' R E := by
  obtain ⟨es, c, hm⟩ := hm
  refine ⟨fun k => (h.recs k).only ho fun q hq e => ?_, h.since, h.apart⟩
  obtain ⟨cur, hc⟩ := (h.recs k).blk q hq
  rw [e, hm] at hc
  cases hc
theorem MapBAt.isMap {w : World} {M : Nat} {L : List (Key3 × Value)} (h : MapBAt Try.prog 58 oct3 w M L) : ∃ es c, w.heap[M]? = some (.map es c) := by
  obtain ⟨es, c, h, _⟩ := h.own
  exact ⟨es, c, h⟩
/-- one row grew -/
theorem RowsK.grown {n0 : Nat} {w w' : World} {R R' : Key3 → Value} {E : Key3 → List Nat} {k : Key3} {v' : Value} {l : List Nat} (h : RowsK n0 w R E) (hR : ∀ j, R' j = if j = k then v' else R j)
    (hr : Recs intCS w' 3 1 v' ((E k ++ l).map Int.ofNat)) (hg : w.grownBy w' (R k).ownBlock) (hk : v'.ownBlock = (R k).ownBlock ∨ v'.ownBlock = some w.heap.size) (hn : n0 ≤ w.heap.size) :
    RowsK n0 w' R' (fun j => if j = k then E k ++ l else E j) := by
  have hold : ∀ j, j ≠ k → ∀ q, (R j).ownBlock = some q → q < w.heap.size ∧ some q ≠ (R k).ownBlock := fun j hj q hq => ⟨(h.recs j).lt q hq, fun e => hj (h.apart j k q hq e.symm)⟩
  refine ⟨fun j => ?_, fun j q hq => ?_, fun j j' q hq hq' => ?_⟩
  · rw [hR j]
    by_cases hj : j = k
    · rw [if_pos hj]; rw [if_pos hj]; exact hr
    · rw [if_neg hj]; rw [if_neg hj]
      exact (h.recs j).keep fun q hq => hg.block q (hold j hj q hq).1 (hold j hj q hq).2
  · rw [hR j] at hq
    by_cases hj : j = k
    · rw [if_pos hj] at hq
      rcases hk with e | e
      · exact h.since k q (e ▸ hq)
      · rw [e] at hq; injection hq with hq; omega
    · rw [if_neg hj] at hq
      exact h.since j q hq
  · rw [hR j] at hq
    rw [hR j'] at hq'
    by_cases hj : j = k <;> by_cases hj' : j' = k
    · rw [hj, hj']
    · rw [if_pos hj] at hq
      rw [if_neg hj'] at hq'
      exfalso
      have := hold j' hj' q hq'
      rcases hk with e | e
      · exact this.2 (by rw [← e, hq])
      · rw [e] at hq; injection hq with hq; omega
    · rw [if_neg hj] at hq
      rw [if_pos hj'] at hq'
      exfalso
      have := hold j hj q hq
      rcases hk with e | e
      · exact this.2 (by rw [← e, hq'])
      · rw [e] at hq'; injection hq' with hq'; omega
    · rw [if_neg hj] at hq
      rw [if_neg hj'] at hq'
      exact h.apart j j' q hq hq'
end Go.Proofs.Ytonfppbijofapaa
