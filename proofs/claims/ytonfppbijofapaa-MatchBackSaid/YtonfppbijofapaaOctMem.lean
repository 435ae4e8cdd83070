/-
  Octets in memory: a slice of octets reads as a list; it goes on so where nothing below is written.
-/
import Derived.Test.YtonfppbijofapaaRows
import Derived.Test.YtonfppbijofapaaOctMath
import Derived.WalkKit
import Derived.ProofKit
import Derived.Below
import Derived.Laws.Rows
import Derived.Lib.Hide
import Derived.Laws.IdiomStrings
import Derived.Deep.Draws
import Derived.Laws.AppendOwnNone
import Derived.Lib.AppendStr
import Derived.Deep.RegionLaw
import Derived.Deep.QuietTactic
namespace Go.Proofs.Ytonfppbijofapaa
open Go.RowKit
set_option linter.unusedVariables false
set_option linter.unusedSimpArgs false

theorem infoU8 : (Try.prog.info? 5).map (fun i => (i.zero, i.size, i.bytes)) = some (some (.int .u8 0), 1, 1) := by kernel_rfl

def vals (l : List UInt8) : List Value := l.map fun b => .int .u8 b.toNat

theorem vals_length (l : List UInt8) : (vals l).length = l.length := by simp [vals]

theorem vals_at (l : List UInt8) (i : Nat) (h : i < l.length) : (vals l)[i]? = some (.int .u8 (l.getD i 0).toNat) := by
  simp [vals, List.getD, List.getElem?_eq_getElem h]

/-- a slice (address, length, capacity) reads as the octets l -/
def BytesAt (w : World) (a : Option Addr) (n cap : Nat) (l : List UInt8) : Prop :=
  l.length = n ∧ n ≤ cap ∧ cap ≤ maxLen ∧
    ((a = none ∧ n = 0 ∧ cap = 0) ∨ ∃ x, a = some x ∧ ∀ i, i < n → w.cell? (x.add i) = some (.int .u8 (l.getD i 0).toNat))

theorem BytesAt.nil (w : World) : BytesAt w none 0 0 [] := ⟨rfl, Nat.le_refl _, by simp, .inl ⟨rfl, rfl, rfl⟩⟩

theorem BytesAt.at {w : World} {a : Option Addr} {n cap : Nat} {l : List UInt8} (h : BytesAt w a n cap l) (hn : 0 < n) :
    ∃ b off, a = some ⟨b, off, none⟩ ∧ ∀ i, i < n → w.cell? ⟨b, off + i, none⟩ = some (.int .u8 (l.getD i 0).toNat) := by
  obtain ⟨h1, h2, h3, h4⟩ := h
  rcases h4 with ⟨_, h0, _⟩ | ⟨x, rfl, hx⟩
  · omega
  · obtain ⟨b, off, spot⟩ := x
    have hs : spot = none := by
      have hc := hx 0 hn
      simpa [Addr.add] using World.cell?_spot hc
    subst hs
    refine ⟨b, off, rfl, fun i hi => ?_⟩
    have hc := hx i hi
    have e : (⟨b, off, none⟩ : Addr).add i = ⟨b, off + i, none⟩ := by unfold Addr.add; split <;> simp_all
    rw [e] at hc
    exact hc

theorem BytesAt.of_cells {w : World} {b off n cap : Nat} {l : List UInt8} (h1 : l.length = n) (h2 : n ≤ cap) (h3 : cap ≤ maxLen)
    (h : ∀ i, i < n → w.cell? ⟨b, off + i, none⟩ = some (.int .u8 (l.getD i 0).toNat)) : BytesAt w (some ⟨b, off, none⟩) n cap l :=
  ⟨h1, h2, h3, .inr ⟨_, rfl, fun i hi => by
    have e : (⟨b, off, none⟩ : Addr).add i = ⟨b, off + i, none⟩ := by unfold Addr.add; split <;> simp_all
    rw [e]; exact h i hi⟩⟩

/-- octets that came in, as the reading gives them -/
theorem BytesAt.of_row {w : World} {x : Addr} {len cap : Nat} {zs : List Int} (hl : len ≤ cap) (hm : cap ≤ maxLen) (hz : zs.length = cap)
    (hcell : ∀ i, i < zs.length → w.cell? (x.add i) = some (.int .u8 (zs.getD i 0))) (hwz : ∀ n ∈ zs, (Lit.int .u8 n).wf = true) :
    BytesAt w (some x) len cap ((zs.take len).map fun z => UInt8.ofNat z.toNat) := by
  refine ⟨by simp; omega, hl, hm, .inr ⟨x, rfl, fun i hi => ?_⟩⟩
  rw [hcell i (by omega)]
  have hi2 : i < zs.length := by omega
  have hr : 0 ≤ zs[i] ∧ zs[i] ≤ 255 := by
    have := hwz zs[i] (List.getElem_mem hi2)
    simpa [Lit.wf, IntKind.min, IntKind.max, IntKind.signed, IntKind.bits] using this
  simp only [List.getD, List.getElem?_map, List.getElem?_take_of_lt hi, List.getElem?_eq_getElem hi2, Option.map_some, Option.getD_some]
  congr 2
  have : (UInt8.ofNat zs[i].toNat).toNat = zs[i].toNat := by simp; omega
  omega

theorem block_lt {w : World} {a : Addr} {v : Value} (h : w.cell? a = some v) : a.block < w.heap.size := World.block_lt_of_cell? w a h

theorem BytesAt.below {w w' : World} {a : Option Addr} {n cap : Nat} {l : List UInt8} (h : BytesAt w a n cap l) (hb : Below w.heap.size w w') : BytesAt w' a n cap l := by
  obtain ⟨h1, h2, h3, h4⟩ := h
  refine ⟨h1, h2, h3, ?_⟩
  rcases h4 with h4 | ⟨x, rfl, hx⟩
  · exact .inl h4
  · exact .inr ⟨x, rfl, fun i hi => by rw [hb.cell (block_lt (hx i hi))]; exact hx i hi⟩

theorem BytesAt.owned {w : World} {base n cap : Nat} {a : Option Addr} {l : List UInt8} {t : TypeId} (h : w.ownsRow base t 1 (.slice a n cap) n (vals l)) : BytesAt w a n cap l := by
  have hl : l.length = n := by have := h.1; simpa [vals_length] using this
  rcases h.2 with ⟨h', h0⟩ | ⟨g, cap', cur, h', hb, hg, hnc, hcm, hcs, htake⟩
  · simp at h'
    obtain ⟨rfl, rfl, rfl⟩ := h'
    exact ⟨hl, Nat.le_refl _, by simp, .inl ⟨rfl, rfl, rfl⟩⟩
  · simp only [Value.slice.injEq, true_and] at h'
    obtain ⟨rfl, rfl⟩ := h'
    refine BytesAt.of_cells hl hnc hcm fun i hi => ?_
    have := World.ownsRow.cellAt h i (by omega)
    rw [Nat.zero_add, this]
    exact vals_at l i (by omega)

/-- the first m of the octets lie at the same address -/
theorem BytesAt.head {w : World} {a : Option Addr} {n cap m : Nat} {l : List UInt8} (h : BytesAt w a n cap l) (hm : m ≤ n) : BytesAt w a m cap (l.take m) := by
  obtain ⟨h1, h2, h3, h4⟩ := h
  refine ⟨by simp; omega, by omega, h3, ?_⟩
  rcases h4 with ⟨rfl, h5, h6⟩ | ⟨x, rfl, hx⟩
  · exact .inl ⟨rfl, by omega, h6⟩
  · refine .inr ⟨x, rfl, fun i hi => ?_⟩
    rw [hx i (by omega)]
    simp [List.getD, List.getElem?_take, hi]

theorem BytesAt.conv {w : World} {a : Option Addr} {n cap : Nat} {l : List UInt8} (h : BytesAt w a n cap l) :
    (convert 22 9 (.slice a n cap)).run Try.prog w = .ok (.string ⟨l.toArray⟩) w := by
  obtain ⟨h1, h2, h3, h4⟩ := h
  rcases h4 with ⟨rfl, rfl, rfl⟩ | ⟨x, rfl, hx⟩
  · have : l = [] := List.eq_nil_of_length_eq_zero h1
    subst this
    rw [run_convert_bytes_string w _ _ _ _ _ _ Try.underlying22 Try.underlying5 Try.underlying9]
    simp [Conv.bytesToString]
    rfl
  · subst h1
    exact run_convert_bytes_back w _ _ _ x cap l Try.underlying22 Try.underlying5 Try.underlying9 (fun j hj => by
      rw [hx j hj]; simp [List.getD, List.getElem?_eq_getElem hj])

theorem below_drewN {B : Nat} {a w : World} (h : Below B a w) (n : Nat) : Below B a (w.drewN n) := ⟨h.os, h.tape, h.output, h.size, h.block⟩

theorem owned_below {w w' : World} {base : Nat} {t : TypeId} {sz n : Nat} {v : Value} {xs : List Value} (h : w.ownsRow base t sz v n xs) (hb : Below w.heap.size w w') : w'.ownsRow base t sz v n xs := by
  refine ⟨h.1, ?_⟩
  rcases h.2 with hn | ⟨g, cap, cur, rfl, hbg, hg, rest⟩
  · exact .inl hn
  · refine .inr ⟨g, cap, cur, rfl, hbg, ?_, rest⟩
    rw [hb.block g (Array.getElem?_eq_some_iff.1 hg).1]; exact hg

/-- a row that is filled from its head on: the next place -/
theorem fill_at (L : List UInt8) (k n : Nat) (z : Value) (hL : L.length = n) (hk : k < n) : (vals (L.take k) ++ List.replicate (n - k) z)[k]? = some z := by
  have h1 : (vals (L.take k)).length = k := by simp [vals_length]; omega
  rw [List.getElem?_append_right (by omega), h1, Nat.sub_self, List.getElem?_replicate, if_pos (by omega)]

theorem fill_set (L : List UInt8) (k n : Nat) (z : Value) (x : Int) (hL : L.length = n) (hk : k < n) (hx : x = (L.getD k 0).toNat) :
    (vals (L.take k) ++ List.replicate (n - k) z).set k (.int .u8 x) = vals (L.take (k + 1)) ++ List.replicate (n - (k + 1)) z := by
  have h1 : (vals (L.take k)).length = k := by simp [vals_length]; omega
  have h2 : L.take (k + 1) = L.take k ++ [L.getD k 0] := by
    rw [List.take_succ_eq_append_getElem (by omega)]
    simp [List.getD, List.getElem?_eq_getElem (show k < L.length by omega)]
  have h3 : n - k = (n - (k + 1)) + 1 := by omega
  rw [List.set_append, if_neg (by omega), h1, Nat.sub_self, h3, List.replicate_succ, List.set_cons_zero, h2]
  simp [vals, hx]

theorem mem_vals_oneCell (l : List UInt8) : ∀ u ∈ vals l, u.oneCell' = true := by
  intro u hu
  simp only [vals, List.mem_map] at hu
  obtain ⟨b, _, rfl⟩ := hu
  rfl

theorem owned_shape {w : World} {base : Nat} {e : TypeId} {n : Nat} {v : Value} {xs : List Value} {sz : Nat} (h : w.ownsRow base e sz v n xs) : ∃ a cap, v = .slice a n cap := by
  rcases h.2 with ⟨rfl, rfl⟩ | ⟨g, cap, cur, rfl, _⟩
  · exact ⟨_, _, rfl⟩
  · exact ⟨_, _, rfl⟩

/-- octets laid behind a row of the call's own, whatever slice they come from -/
theorem wpList_append_bytes {w : World} {ops : Array Oper} {rest : List Oper} {o : Oper} {a : Act} {Q : Exit → Act → World → Prop} (hgd : o.guard = none) (s x : Operand)
    (ho : o.op = .call { callee := .builtin .append, args := #[s, x], argTypes := #[22, 22] })
    (base : Nat) (v : Value) (n : Nat) (xs : List Value) (hs : a.eval s = v) (hown : w.ownsRow base 5 1 v n xs)
    (sa : Option Addr) (m c : Nat) (l : List UInt8) (hx : a.eval x = .slice sa m c) (hsrc : BytesAt w sa m c l) (N : Nat) (hN : N = n + m)
    (h63 : N ≤ 140737488355328) (hbase : base ≤ w.heap.size)
    (h : ∀ a' cap' w', w'.ownsRow base 5 1 (.slice a' N cap') N (xs ++ vals l) → w.grownBy w' v.ownBlock → wpList Try.prog ops Q rest (a.put o.dst (.slice a' N cap')) w') : wpList Try.prog ops Q (o :: rest) a w := by
  obtain ⟨i0, hi, hz0, hz1, hz2⟩ := info_parts infoU8
  subst hN
  obtain ⟨h1, h2, h3, h4⟩ := hsrc
  rcases h4 with ⟨rfl, rfl, rfl⟩ | ⟨ad, rfl, hc⟩
  · have : l = [] := List.eq_nil_of_length_eq_zero h1
    subst this
    refine wpList_append_own_none hgd s x 22 ho base 5 i0 1 Try.underlying22 hi v n xs hs hown hx ?_
    obtain ⟨a', cap', rfl⟩ := owned_shape hown
    have := h a' cap' w (by simpa [vals] using hown) (World.grownBy.refl _ _)
    simpa using this
  · subst h1
    refine wpList_append_own w hgd s x 22 ho base 5 i0 (.int .u8 0) 1 1 Try.underlying22 hi hz0 hz1 hz2 rfl (by decide) v n xs hs hown ad l.length c (vals l) hx (by simp [vals_length]) ?_ (mem_vals_oneCell l) (by unfold maxLen; omega) (by omega) hbase ?_
    · intro j u hj
      have hj' : j < l.length := by
        have := (List.getElem?_eq_some_iff.1 hj).1
        simpa [vals_length] using this
      rw [hc j hj', ← vals_at l j hj', hj]
    · intro v' w' ho' hg' _
      obtain ⟨a', cap', rfl⟩ := owned_shape ho'
      exact h a' cap' w' ho' hg'

theorem strCells_vals (s : ByteArray) : Lib.strCells s = vals s.data.toList := rfl

def FreshB (P : Value → Value) (n : Nat) (l : List UInt8) (w : World) (e : Ending) (w' : World) : Prop :=
  ∃ a cap, e = .returned (P (.slice a n cap)) ∧ w'.ownsRow w.heap.size 5 1 (.slice a n cap) n (vals l) ∧ Below w.heap.size w w'

theorem add_block (x : Addr) (i : Nat) : (x.add i).block = x.block := by unfold Addr.add; split <;> rfl
theorem BytesAt.grown {w w' : World} {a : Option Addr} {n cap : Nat} {l : List UInt8} {row : Option Nat} (h : BytesAt w a n cap l) (hg : w.grownBy w' row) (hr : ∀ x, a = some x → some x.block ≠ row) : BytesAt w' a n cap l := by
  obtain ⟨h1, h2, h3, h4⟩ := h
  refine ⟨h1, h2, h3, ?_⟩
  rcases h4 with h4 | ⟨x, rfl, hx⟩
  · exact .inl h4
  · exact .inr ⟨x, rfl, fun i hi => hg.cell (hx i hi) (by rw [add_block]; exact hr x rfl)⟩
theorem grown_drewN {w w' : World} {row : Option Nat} (h : w.grownBy w' row) (n : Nat) : w.grownBy (w'.drewN n) row := ⟨h.os, h.tape, h.output, h.size, h.block⟩
theorem grown_of_drewN {w w' : World} {row : Option Nat} {n : Nat} (h : (w.drewN n).grownBy w' row) : w.grownBy w' row := ⟨h.os, h.tape, h.output, h.size, h.block⟩
theorem grown_trans {a b c : World} {row : Option Nat} (h : a.grownBy b row) (k : b.grownBy c row) : a.grownBy c row :=
  ⟨k.os.trans h.os, k.tape.trans h.tape, k.output.trans h.output, Nat.le_trans h.size k.size, fun i hi hn => (k.block i (Nat.lt_of_lt_of_le hi h.size) hn).trans (h.block i hi hn)⟩
theorem grown_below {a b : World} {row : Option Nat} (h : Below a.heap.size a b) : a.grownBy b row := ⟨h.os, h.tape, h.output, h.size, fun i hi _ => h.block i hi⟩
theorem setCell_grown (w : World) (g j : Nat) (u : Value) : w.grownBy (w.setCell ⟨g, j, none⟩ u) (some g) :=
  ⟨rfl, rfl, rfl, by simp, fun k _ hk => heap_setCell_other w ⟨g, j, none⟩ k u (fun e => hk (by simp [e]))⟩
theorem quiet_left {P : Program} {f : FuncId} {args : Array Value} {w : World} {n : Nat} {v : Value}
    (h : Calls P f args (w.drewN n) fun e w' => e = .returned v ∧ w.drewN n = w') : Calls P f args (w.drewN n) fun e w'' => e = .returned v ∧ ∃ m, w'' = w.drewN m :=
  h.mono fun _ _ ⟨he, hm⟩ => ⟨he, n, hm.symm⟩

/-- octets laid behind a row of the call's own, as one step of a region that draws its order -/
theorem step_append_bytes {w : World} {ops : Array Oper} {o : Oper} {a : Act} {K : Act → World → Prop} {Q : Exit → Act → World → Prop} {E : Prop} (hgd : o.guard = none) (s x : Operand)
    (ho : o.op = .call { callee := .builtin .append, args := #[s, x], argTypes := #[22, 22] })
    (base : Nat) (v : Value) (n : Nat) (xs : List Value) (hs : a.eval s = v) (hown : w.ownsRow base 5 1 v n xs)
    (sa : Option Addr) (m c : Nat) (l : List UInt8) (hx : a.eval x = .slice sa m c) (hsrc : BytesAt w sa m c l) (N : Nat) (hN : N = n + m)
    (h63 : N ≤ 140737488355328) (hbase : base ≤ w.heap.size)
    (h : ∀ a' cap' w', w'.ownsRow base 5 1 (.slice a' N cap') N (xs ++ vals l) → w.grownBy w' v.ownBlock → K (a.put o.dst (.slice a' N cap')) w') :
    if Region.wanted o (yielded ops a.tmps) = true then Oper.wp Try.prog o a w K Q else E := by
  have hw : Region.wanted o (yielded ops a.tmps) = true := by simp [Region.wanted, hgd]
  rw [if_pos hw]
  obtain ⟨i0, hi, hz0, hz1, hz2⟩ := info_parts infoU8
  subst hN
  obtain ⟨h1, h2, h3, h4⟩ := hsrc
  rcases h4 with ⟨rfl, rfl, rfl⟩ | ⟨ad, rfl, hc⟩
  · have : l = [] := List.eq_nil_of_length_eq_zero h1
    subst this
    have hrun := run_append_owned_none (P := Try.prog) (w := w) base 22 o.type 5 i0 1 Try.underlying22 hi v n xs hown
    unfold Oper.wp
    simp [execOp, ho, resolve, invoke, builtin, hs, hx, hrun, Result.andThen]
    rw [Oper.upon_value]
    obtain ⟨a', cap', rfl⟩ := owned_shape hown
    have := h a' cap' w (by simpa [vals] using hown) (World.grownBy.refl _ _)
    simpa using this
  · subst h1
    refine wp_append_own w s x 22 ho base 5 i0 (.int .u8 0) 1 1 Try.underlying22 hi hz0 hz1 hz2 rfl (by decide) v n xs hs hown ad l.length c (vals l) hx (by simp [vals_length]) ?_ (mem_vals_oneCell l) (by unfold maxLen; omega) (by omega) hbase ?_
    · intro j u hj
      have hj' : j < l.length := by
        have := (List.getElem?_eq_some_iff.1 hj).1
        simpa [vals_length] using this
      rw [hc j hj', ← vals_at l j hj', hj]
    · intro v' w' ho' hg' _
      obtain ⟨a', cap', rfl⟩ := owned_shape ho'
      exact h a' cap' w' ho' hg'

def ReadB (P : Value → Value) (n : Nat) (l : List UInt8) (w : World) (e : Ending) (w' : World) : Prop :=
  ∃ a cap, e = .returned (P (.slice a n cap)) ∧ BytesAt w' a n cap l ∧ Below w.heap.size w w'

theorem readB_of {P : Program} {f : FuncId} {args : Array Value} {w : World} {F : Value → Value} {n : Nat} {l : List UInt8} (h : Calls P f args w (FreshB F n l w)) : Calls P f args w (ReadB F n l w) :=
  h.mono fun _ _ ⟨a, cap, he, ho, hb⟩ => ⟨a, cap, he, BytesAt.owned ho, hb⟩

theorem heap_setRow_same (w : World) (g : Nat) (cs old : Array Value) (t : TypeId) (hg : w.heap[g]? = some (.cells old t (0, 0))) : (w.setRow g cs).heap[g]? = some (.cells cs t (0, 0)) := by
  simp only [World.setRow]
  rw [Array.getElem?_modify, if_pos rfl, hg]
  rfl
theorem heap_setRow_other (w : World) (g k : Nat) (cs : Array Value) (h : k ≠ g) : (w.setRow g cs).heap[k]? = w.heap[k]? := by
  simp only [World.setRow]
  rw [Array.getElem?_modify, if_neg (fun e => h e.symm)]
theorem below_setRow {B g : Nat} {w0 w : World} (h : Below B w0 w) (hB : B ≤ g) (cs : Array Value) : Below B w0 (w.setRow g cs) :=
  ⟨h.os, h.tape, h.output, by rw [size_setRow]; exact h.size, fun i hi => (heap_setRow_other w g i cs (by omega)).trans (h.block i hi)⟩

end Go.Proofs.Ytonfppbijofapaa
