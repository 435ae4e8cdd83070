/-
  A piece of the proof, laid together by program: OctMath OctMem Recs DiskMath DiskRep DiskA DiskB Came Fill.
-/
import Derived.Laws.BitsAllLaws
import Derived.Test.YtjcmphjjkeigjaaGreatRows
import Derived.WalkKit
import Derived.ProofKit
import Derived.Below
import Derived.Laws.Rows
import Derived.Lib.Hide
import Derived.Laws.IdiomStrings
import Derived.Deep.Draws
import Derived.Laws.AppendOwnNone
import Derived.Lib.AppendStr
import Derived.Deep.RegionLaw
import Derived.Deep.QuietTactic
import Derived.Deep.MidRow
import Derived.Maps.AppendAt
import Derived.StillTailTactics
import Derived.Deep.WholeRow
import Derived.Deep.DeepCutAuto
import Derived.Deep.RegionHeld3
import Derived.Great.FillDense
import Derived.Great.BuildSlice

namespace Go.Proofs.YtjcmphjjkeigjaaGreat

/-- the number that octets stand for, the least first -/
def le : List UInt8 → Nat
  | [] => 0
  | b :: r => b.toNat + 256 * le r

/-- a number's octets -/
def leB : Nat → Nat → List UInt8
  | 0, _ => []
  | w + 1, v => UInt8.ofNat (v % 256) :: leB w (v / 256)

theorem leB_length : ∀ (w v : Nat), (leB w v).length = w
  | 0, _ => rfl
  | w + 1, v => by simp [leB, leB_length w]

theorem le_lt : ∀ l : List UInt8, le l < 256 ^ l.length
  | [] => by simp [le]
  | b :: r => by
    have h := le_lt r
    have hb : b.toNat < 256 := b.toNat_lt
    simp only [le, List.length_cons, Nat.pow_succ]
    omega

theorem le_leB : ∀ (w v : Nat), v < 256 ^ w → le (leB w v) = v
  | 0, v, h => by simp at h; simp [leB, le, h]
  | w + 1, v, h => by
    have hv : v / 256 < 256 ^ w := by
      rw [Nat.pow_succ] at h
      exact Nat.div_lt_of_lt_mul (by rw [Nat.mul_comm]; exact h)
    simp only [leB, le, le_leB w _ hv]
    have : (UInt8.ofNat (v % 256)).toNat = v % 256 := by simp
    omega

theorem le_append (a b : List UInt8) : le (a ++ b) = le a + 256 ^ a.length * le b := by
  induction a with
  | nil => simp [le]
  | cons x a ih =>
    simp only [List.cons_append, le, ih, List.length_cons, Nat.pow_succ]
    rw [Nat.mul_add, ← Nat.mul_assoc, Nat.mul_comm (256 ^ a.length) 256, Nat.add_assoc]

theorem le_take_succ (l : List UInt8) (k : Nat) (h : k < l.length) : le (l.take (k + 1)) = le (l.take k) + (l.getD k 0).toNat * 256 ^ k := by
  have e : l.take (k + 1) = l.take k ++ [l.getD k 0] := by
    rw [List.take_succ_eq_append_getElem h]
    simp [List.getD, List.getElem?_eq_getElem h]
  rw [e, le_append]
  simp only [le, List.length_take, Nat.min_eq_left (Nat.le_of_lt h), Nat.mul_zero, Nat.add_zero]
  rw [Nat.mul_comm]

theorem leB_getD : ∀ (w v i : Nat), i < w → (leB w v).getD i 0 = UInt8.ofNat (v / 256 ^ i % 256)
  | 0, _, _, h => by omega
  | w + 1, v, 0, _ => by simp [leB]
  | w + 1, v, i + 1, h => by
    have e : v / 256 / 256 ^ i = v / 256 ^ (i + 1) := by
      rw [Nat.div_div_eq_div_mul, Nat.pow_succ, Nat.mul_comm]
    simp only [leB, List.getD_cons_succ]
    rw [leB_getD w (v / 256) i (by omega), e]

theorem pow256 (k : Nat) : 256 ^ k = 2 ^ (8 * k) := by
  rw [Nat.pow_mul]

theorem pow256_le (k : Nat) (h : k ≤ 8) : 256 ^ k ≤ 18446744073709551616 := by
  have : 256 ^ k ≤ 256 ^ 8 := Nat.pow_le_pow_right (by omega) h
  simpa using this

/-- a bigger octet is laid on by 'or' -/
theorem or_octet (x b k : Nat) (hk : k < 8) (hx : x < 256 ^ k) (hb : b < 256) :
    bits .or .u64 (x : Int) (IntKind.u64.wrap (IntKind.u64.wrap (b : Int) * 2 ^ (8 * k))) = ((x + b * 256 ^ k : Nat) : Int) := by
  have hp : 256 ^ (k + 1) ≤ 18446744073709551616 := pow256_le (k + 1) (by omega)
  have hp0 : 0 < 256 ^ k := Nat.pow_pos (by omega)
  have hm : b * 256 ^ k + 256 ^ k ≤ 256 ^ (k + 1) := by
    rw [Nat.pow_succ, Nat.mul_comm (256 ^ k) 256, ← Nat.succ_mul]
    exact Nat.mul_le_mul_right _ (by omega)
  have e1 : IntKind.u64.wrap (b : Int) = (b : Int) := by
    simp [IntKind.wrap, IntKind.signed, IntKind.bits]; omega
  have e2 : ((b : Int) * 2 ^ (8 * k)) = ((b * 256 ^ k : Nat) : Int) := by
    rw [pow256]; simp
  have e3 : IntKind.u64.wrap ((b * 256 ^ k : Nat) : Int) = ((b * 256 ^ k : Nat) : Int) := by
    have : b * 256 ^ k < 18446744073709551616 := by omega
    generalize b * 256 ^ k = y at *
    simp [IntKind.wrap, IntKind.signed, IntKind.bits]; omega
  rw [e1, e2, e3, u64_or_nat _ _ (by omega) (by omega)]
  congr 1
  have hx2 : x < 2 ^ (8 * k) := by rw [← pow256]; exact hx
  rw [pow256, Nat.or_comm, Nat.mul_comm b, ← Nat.two_pow_add_eq_or_of_lt hx2, Nat.add_comm]

end Go.Proofs.YtjcmphjjkeigjaaGreat

namespace Go.Proofs.YtjcmphjjkeigjaaGreat
open Go.RowKit
set_option linter.unusedVariables false
set_option linter.unusedSimpArgs false

theorem infoU8 : (Tryz.prog.info? 5).map (fun i => (i.zero, i.size, i.bytes)) = some (some (.int .u8 0), 1, 1) := by kernel_rfl

def vals (l : List UInt8) : List Value := l.map fun b => .int .u8 b.toNat

theorem vals_length (l : List UInt8) : (vals l).length = l.length := by simp [vals]

theorem vals_at (l : List UInt8) (i : Nat) (h : i < l.length) : (vals l)[i]? = some (.int .u8 (l.getD i 0).toNat) := by
  simp [vals, List.getD, List.getElem?_eq_getElem h]

/-- a slice (address, length, capacity) reads as the octets l -/
def BytesAt (w : World) (a : Option Addr) (n cap : Nat) (l : List UInt8) : Prop :=
  l.length = n ∧ n ≤ cap ∧ cap ≤ maxLen ∧
    ((a = none ∧ n = 0 ∧ cap = 0) ∨ ∃ x, a = some x ∧ ∀ i, i < n → w.cell? (x.add i) = some (.int .u8 (l.getD i 0).toNat))

theorem BytesAt.nil (w : World) : BytesAt w none 0 0 [] := ⟨rfl, Nat.le_refl _, by simp, .inl ⟨rfl, rfl, rfl⟩⟩

theorem BytesAt.at {w : World} {a : Option Addr} {n cap : Nat} {l : List UInt8} (h : BytesAt w a n cap l) (hn : 0 < n) :
    ∃ b off, a = some ⟨b, off, none⟩ ∧ ∀ i, i < n → w.cell? ⟨b, off + i, none⟩ = some (.int .u8 (l.getD i 0).toNat) := by
  obtain ⟨h1, h2, h3, h4⟩ := h
  rcases h4 with ⟨_, h0, _⟩ | ⟨x, rfl, hx⟩
  · omega
  · obtain ⟨b, off, spot⟩ := x
    have hs : spot = none := by
      have hc := hx 0 hn
      simpa [Addr.add] using World.cell?_spot hc
    subst hs
    refine ⟨b, off, rfl, fun i hi => ?_⟩
    have hc := hx i hi
    have e : (⟨b, off, none⟩ : Addr).add i = ⟨b, off + i, none⟩ := by unfold Addr.add; split <;> simp_all
    rw [e] at hc
    exact hc

theorem BytesAt.of_cells {w : World} {b off n cap : Nat} {l : List UInt8} (h1 : l.length = n) (h2 : n ≤ cap) (h3 : cap ≤ maxLen)
    (h : ∀ i, i < n → w.cell? ⟨b, off + i, none⟩ = some (.int .u8 (l.getD i 0).toNat)) : BytesAt w (some ⟨b, off, none⟩) n cap l :=
  ⟨h1, h2, h3, .inr ⟨_, rfl, fun i hi => by
    have e : (⟨b, off, none⟩ : Addr).add i = ⟨b, off + i, none⟩ := by unfold Addr.add; split <;> simp_all
    rw [e]; exact h i hi⟩⟩

theorem block_lt {w : World} {a : Addr} {v : Value} (h : w.cell? a = some v) : a.block < w.heap.size := World.block_lt_of_cell? w a h

theorem BytesAt.below {w w' : World} {a : Option Addr} {n cap : Nat} {l : List UInt8} (h : BytesAt w a n cap l) (hb : Below w.heap.size w w') : BytesAt w' a n cap l := by
  obtain ⟨h1, h2, h3, h4⟩ := h
  refine ⟨h1, h2, h3, ?_⟩
  rcases h4 with h4 | ⟨x, rfl, hx⟩
  · exact .inl h4
  · exact .inr ⟨x, rfl, fun i hi => by rw [hb.cell (block_lt (hx i hi))]; exact hx i hi⟩

theorem BytesAt.owned {w : World} {base n cap : Nat} {a : Option Addr} {l : List UInt8} {t : TypeId} (h : w.ownsRow base t 1 (.slice a n cap) n (vals l)) : BytesAt w a n cap l := by
  have hl : l.length = n := by have := h.1; simpa [vals_length] using this
  rcases h.2 with ⟨h', h0⟩ | ⟨g, cap', cur, h', hb, hg, hnc, hcm, hcs, htake⟩
  · simp at h'
    obtain ⟨rfl, rfl, rfl⟩ := h'
    exact ⟨hl, Nat.le_refl _, by simp, .inl ⟨rfl, rfl, rfl⟩⟩
  · simp only [Value.slice.injEq, true_and] at h'
    obtain ⟨rfl, rfl⟩ := h'
    refine BytesAt.of_cells hl hnc hcm fun i hi => ?_
    have := World.ownsRow.cellAt h i (by omega)
    rw [Nat.zero_add, this]
    exact vals_at l i (by omega)

/-- the first m of the octets lie at the same address -/
theorem BytesAt.head {w : World} {a : Option Addr} {n cap m : Nat} {l : List UInt8} (h : BytesAt w a n cap l) (hm : m ≤ n) : BytesAt w a m cap (l.take m) := by
  obtain ⟨h1, h2, h3, h4⟩ := h
  refine ⟨by simp; omega, by omega, h3, ?_⟩
  rcases h4 with ⟨rfl, h5, h6⟩ | ⟨x, rfl, hx⟩
  · exact .inl ⟨rfl, by omega, h6⟩
  · refine .inr ⟨x, rfl, fun i hi => ?_⟩
    rw [hx i (by omega)]
    simp [List.getD, List.getElem?_take, hi]

theorem BytesAt.conv {w : World} {a : Option Addr} {n cap : Nat} {l : List UInt8} (h : BytesAt w a n cap l) :
    (convert 49 9 (.slice a n cap)).run Tryz.prog w = .ok (.string ⟨l.toArray⟩) w := by
  obtain ⟨h1, h2, h3, h4⟩ := h
  rcases h4 with ⟨rfl, rfl, rfl⟩ | ⟨x, rfl, hx⟩
  · have : l = [] := List.eq_nil_of_length_eq_zero h1
    subst this
    rw [run_convert_bytes_string w _ _ _ _ _ _ Tryz.underlying49 Tryz.underlying5 Tryz.underlying9]
    simp [Conv.bytesToString]
    rfl
  · subst h1
    exact run_convert_bytes_back w _ _ _ x cap l Tryz.underlying49 Tryz.underlying5 Tryz.underlying9 (fun j hj => by
      rw [hx j hj]; simp [List.getD, List.getElem?_eq_getElem hj])

theorem below_drewN {B : Nat} {a w : World} (h : Below B a w) (n : Nat) : Below B a (w.drewN n) := ⟨h.os, h.tape, h.output, h.size, h.block⟩

theorem owned_below {w w' : World} {base : Nat} {t : TypeId} {sz n : Nat} {v : Value} {xs : List Value} (h : w.ownsRow base t sz v n xs) (hb : Below w.heap.size w w') : w'.ownsRow base t sz v n xs := by
  refine ⟨h.1, ?_⟩
  rcases h.2 with hn | ⟨g, cap, cur, rfl, hbg, hg, rest⟩
  · exact .inl hn
  · refine .inr ⟨g, cap, cur, rfl, hbg, ?_, rest⟩
    rw [hb.block g (Array.getElem?_eq_some_iff.1 hg).1]; exact hg

/-- a row that is filled from its head on: the next place -/
theorem fill_at (L : List UInt8) (k n : Nat) (z : Value) (hL : L.length = n) (hk : k < n) : (vals (L.take k) ++ List.replicate (n - k) z)[k]? = some z := by
  have h1 : (vals (L.take k)).length = k := by simp [vals_length]; omega
  rw [List.getElem?_append_right (by omega), h1, Nat.sub_self, List.getElem?_replicate, if_pos (by omega)]

theorem fill_set (L : List UInt8) (k n : Nat) (z : Value) (x : Int) (hL : L.length = n) (hk : k < n) (hx : x = (L.getD k 0).toNat) :
    (vals (L.take k) ++ List.replicate (n - k) z).set k (.int .u8 x) = vals (L.take (k + 1)) ++ List.replicate (n - (k + 1)) z := by
  have h1 : (vals (L.take k)).length = k := by simp [vals_length]; omega
  have h2 : L.take (k + 1) = L.take k ++ [L.getD k 0] := by
    rw [List.take_succ_eq_append_getElem (by omega)]
    simp [List.getD, List.getElem?_eq_getElem (show k < L.length by omega)]
  have h3 : n - k = (n - (k + 1)) + 1 := by omega
  rw [List.set_append, if_neg (by omega), h1, Nat.sub_self, h3, List.replicate_succ, List.set_cons_zero, h2]
  simp [vals, hx]

theorem mem_vals_oneCell (l : List UInt8) : ∀ u ∈ vals l, u.oneCell' = true := by
  intro u hu
  simp only [vals, List.mem_map] at hu
  obtain ⟨b, _, rfl⟩ := hu
  rfl

theorem owned_shape {w : World} {base : Nat} {e : TypeId} {n : Nat} {v : Value} {xs : List Value} {sz : Nat} (h : w.ownsRow base e sz v n xs) : ∃ a cap, v = .slice a n cap := by
  rcases h.2 with ⟨rfl, rfl⟩ | ⟨g, cap, cur, rfl, _⟩
  · exact ⟨_, _, rfl⟩
  · exact ⟨_, _, rfl⟩

/-- octets laid behind a row of the call's own, whatever slice they come from -/
theorem wpList_append_bytes {w : World} {ops : Array Oper} {rest : List Oper} {o : Oper} {a : Act} {Q : Exit → Act → World → Prop} (hgd : o.guard = none) (s x : Operand)
    (ho : o.op = .call { callee := .builtin .append, args := #[s, x], argTypes := #[49, 49] })
    (base : Nat) (v : Value) (n : Nat) (xs : List Value) (hs : a.eval s = v) (hown : w.ownsRow base 5 1 v n xs)
    (sa : Option Addr) (m c : Nat) (l : List UInt8) (hx : a.eval x = .slice sa m c) (hsrc : BytesAt w sa m c l) (N : Nat) (hN : N = n + m)
    (h63 : N ≤ 140737488355328) (hbase : base ≤ w.heap.size)
    (h : ∀ a' cap' w', w'.ownsRow base 5 1 (.slice a' N cap') N (xs ++ vals l) → w.grownBy w' v.ownBlock → wpList Tryz.prog ops Q rest (a.put o.dst (.slice a' N cap')) w') : wpList Tryz.prog ops Q (o :: rest) a w := by
  obtain ⟨i0, hi, hz0, hz1, hz2⟩ := info_parts infoU8
  subst hN
  obtain ⟨h1, h2, h3, h4⟩ := hsrc
  rcases h4 with ⟨rfl, rfl, rfl⟩ | ⟨ad, rfl, hc⟩
  · have : l = [] := List.eq_nil_of_length_eq_zero h1
    subst this
    refine wpList_append_own_none hgd s x 49 ho base 5 i0 1 Tryz.underlying49 hi v n xs hs hown hx ?_
    obtain ⟨a', cap', rfl⟩ := owned_shape hown
    have := h a' cap' w (by simpa [vals] using hown) (World.grownBy.refl _ _)
    simpa using this
  · subst h1
    refine wpList_append_own w hgd s x 49 ho base 5 i0 (.int .u8 0) 1 1 Tryz.underlying49 hi hz0 hz1 hz2 rfl (by decide) v n xs hs hown ad l.length c (vals l) hx (by simp [vals_length]) ?_ (mem_vals_oneCell l) (by unfold maxLen; omega) (by omega) hbase ?_
    · intro j u hj
      have hj' : j < l.length := by
        have := (List.getElem?_eq_some_iff.1 hj).1
        simpa [vals_length] using this
      rw [hc j hj', ← vals_at l j hj', hj]
    · intro v' w' ho' hg' _
      obtain ⟨a', cap', rfl⟩ := owned_shape ho'
      exact h a' cap' w' ho' hg'

def FreshB (P : Value → Value) (n : Nat) (l : List UInt8) (w : World) (e : Ending) (w' : World) : Prop :=
  ∃ a cap, e = .returned (P (.slice a n cap)) ∧ w'.ownsRow w.heap.size 5 1 (.slice a n cap) n (vals l) ∧ Below w.heap.size w w'

theorem add_block (x : Addr) (i : Nat) : (x.add i).block = x.block := by unfold Addr.add; split <;> rfl
theorem BytesAt.grown {w w' : World} {a : Option Addr} {n cap : Nat} {l : List UInt8} {row : Option Nat} (h : BytesAt w a n cap l) (hg : w.grownBy w' row) (hr : ∀ x, a = some x → some x.block ≠ row) : BytesAt w' a n cap l := by
  obtain ⟨h1, h2, h3, h4⟩ := h
  refine ⟨h1, h2, h3, ?_⟩
  rcases h4 with h4 | ⟨x, rfl, hx⟩
  · exact .inl h4
  · exact .inr ⟨x, rfl, fun i hi => hg.cell (hx i hi) (by rw [add_block]; exact hr x rfl)⟩
theorem grown_of_drewN {w w' : World} {row : Option Nat} {n : Nat} (h : (w.drewN n).grownBy w' row) : w.grownBy w' row := ⟨h.os, h.tape, h.output, h.size, h.block⟩
theorem grown_trans {a b c : World} {row : Option Nat} (h : a.grownBy b row) (k : b.grownBy c row) : a.grownBy c row :=
  ⟨k.os.trans h.os, k.tape.trans h.tape, k.output.trans h.output, Nat.le_trans h.size k.size, fun i hi hn => (k.block i (Nat.lt_of_lt_of_le hi h.size) hn).trans (h.block i hi hn)⟩
theorem grown_below {a b : World} {row : Option Nat} (h : Below a.heap.size a b) : a.grownBy b row := ⟨h.os, h.tape, h.output, h.size, fun i hi _ => h.block i hi⟩
theorem setCell_grown (w : World) (g j : Nat) (u : Value) : w.grownBy (w.setCell ⟨g, j, none⟩ u) (some g) :=
  ⟨rfl, rfl, rfl, by simp, fun k _ hk => heap_setCell_other w ⟨g, j, none⟩ k u (fun e => hk (by simp [e]))⟩
theorem quiet_left {P : Program} {f : FuncId} {args : Array Value} {w : World} {n : Nat} {v : Value}
    (h : Calls P f args (w.drewN n) fun e w' => e = .returned v ∧ w.drewN n = w') : Calls P f args (w.drewN n) fun e w'' => e = .returned v ∧ ∃ m, w'' = w.drewN m :=
  h.mono fun _ _ ⟨he, hm⟩ => ⟨he, n, hm.symm⟩

/-- octets laid behind a row of the call's own, as one step of a region that draws its order -/
theorem step_append_bytes {w : World} {ops : Array Oper} {o : Oper} {a : Act} {K : Act → World → Prop} {Q : Exit → Act → World → Prop} {E : Prop} (hgd : o.guard = none) (s x : Operand)
    (ho : o.op = .call { callee := .builtin .append, args := #[s, x], argTypes := #[49, 49] })
    (base : Nat) (v : Value) (n : Nat) (xs : List Value) (hs : a.eval s = v) (hown : w.ownsRow base 5 1 v n xs)
    (sa : Option Addr) (m c : Nat) (l : List UInt8) (hx : a.eval x = .slice sa m c) (hsrc : BytesAt w sa m c l) (N : Nat) (hN : N = n + m)
    (h63 : N ≤ 140737488355328) (hbase : base ≤ w.heap.size)
    (h : ∀ a' cap' w', w'.ownsRow base 5 1 (.slice a' N cap') N (xs ++ vals l) → w.grownBy w' v.ownBlock → K (a.put o.dst (.slice a' N cap')) w') :
    if Region.wanted o (yielded ops a.tmps) = true then Oper.wp Tryz.prog o a w K Q else E := by
  have hw : Region.wanted o (yielded ops a.tmps) = true := by simp [Region.wanted, hgd]
  rw [if_pos hw]
  obtain ⟨i0, hi, hz0, hz1, hz2⟩ := info_parts infoU8
  subst hN
  obtain ⟨h1, h2, h3, h4⟩ := hsrc
  rcases h4 with ⟨rfl, rfl, rfl⟩ | ⟨ad, rfl, hc⟩
  · have : l = [] := List.eq_nil_of_length_eq_zero h1
    subst this
    have hrun := run_append_owned_none (P := Tryz.prog) (w := w) base 49 o.type 5 i0 1 Tryz.underlying49 hi v n xs hown
    unfold Oper.wp
    simp [execOp, ho, resolve, invoke, builtin, hs, hx, hrun, Result.andThen]
    rw [Oper.upon_value]
    obtain ⟨a', cap', rfl⟩ := owned_shape hown
    have := h a' cap' w (by simpa [vals] using hown) (World.grownBy.refl _ _)
    simpa using this
  · subst h1
    refine wp_append_own w s x 49 ho base 5 i0 (.int .u8 0) 1 1 Tryz.underlying49 hi hz0 hz1 hz2 rfl (by decide) v n xs hs hown ad l.length c (vals l) hx (by simp [vals_length]) ?_ (mem_vals_oneCell l) (by unfold maxLen; omega) (by omega) hbase ?_
    · intro j u hj
      have hj' : j < l.length := by
        have := (List.getElem?_eq_some_iff.1 hj).1
        simpa [vals_length] using this
      rw [hc j hj', ← vals_at l j hj', hj]
    · intro v' w' ho' hg' _
      obtain ⟨a', cap', rfl⟩ := owned_shape ho'
      exact h a' cap' w' ho' hg'

theorem heap_setRow_same (w : World) (g : Nat) (cs old : Array Value) (t : TypeId) (hg : w.heap[g]? = some (.cells old t (0, 0))) : (w.setRow g cs).heap[g]? = some (.cells cs t (0, 0)) := by
  simp only [World.setRow]
  rw [Array.getElem?_modify, if_pos rfl, hg]
  rfl
theorem heap_setRow_other (w : World) (g k : Nat) (cs : Array Value) (h : k ≠ g) : (w.setRow g cs).heap[k]? = w.heap[k]? := by
  simp only [World.setRow]
  rw [Array.getElem?_modify, if_neg (fun e => h e.symm)]
theorem below_setRow {B g : Nat} {w0 w : World} (h : Below B w0 w) (hB : B ≤ g) (cs : Array Value) : Below B w0 (w.setRow g cs) :=
  ⟨h.os, h.tape, h.output, by rw [size_setRow]; exact h.size, fun i hi => (heap_setRow_other w g i cs (by omega)).trans (h.block i hi)⟩

end Go.Proofs.YtjcmphjjkeigjaaGreat

namespace Go.Proofs.YtjcmphjjkeigjaaGreat
open Go.RowKit
set_option linter.unusedVariables false
set_option linter.unusedSimpArgs false

/-! ### what is written lies in S, or is new -/
structure Only (S : Nat → Prop) (w w' : World) : Prop where
  os : w'.os = w.os
  tape : w'.tape = w.tape
  output : w'.output = w.output
  size : w.heap.size ≤ w'.heap.size
  block : ∀ k, k < w.heap.size → ¬ S k → w'.heap[k]? = w.heap[k]?

theorem Only.refl (S : Nat → Prop) (w : World) : Only S w w := ⟨rfl, rfl, rfl, Nat.le_refl _, fun _ _ _ => rfl⟩
theorem Only.trans {S T : Nat → Prop} {a b c : World} (h : Only S a b) (k : Only T b c) (hT : ∀ i, i < a.heap.size → T i → S i) : Only S a c :=
  ⟨k.os.trans h.os, k.tape.trans h.tape, k.output.trans h.output, Nat.le_trans h.size k.size,
    fun i hi hn => (k.block i (Nat.lt_of_lt_of_le hi h.size) (fun ht => hn (hT i hi ht))).trans (h.block i hi hn)⟩
theorem Only.more {S T : Nat → Prop} {a b : World} (h : Only S a b) (hT : ∀ i, i < a.heap.size → S i → T i) : Only T a b :=
  ⟨h.os, h.tape, h.output, h.size, fun i hi hn => h.block i hi (fun hs => hn (hT i hi hs))⟩
theorem Only.of_below {S : Nat → Prop} {a b : World} (h : Below a.heap.size a b) : Only S a b := ⟨h.os, h.tape, h.output, h.size, fun i hi _ => h.block i hi⟩
theorem Only.below {S : Nat → Prop} {a b : World} {B : Nat} (h : Only S a b) (hB : B ≤ a.heap.size) (hS : ∀ i, i < B → ¬ S i) : Below B a b :=
  ⟨h.os, h.tape, h.output, h.size, fun i hi => h.block i (Nat.lt_of_lt_of_le hi hB) (hS i hi)⟩
theorem Only.of_grown {S : Nat → Prop} {a b : World} {row : Option Nat} (h : a.grownBy b row) (hr : ∀ k, row = some k → S k) : Only S a b :=
  ⟨h.os, h.tape, h.output, h.size, fun i hi hn => h.block i hi (fun e => hn (hr i e.symm))⟩
theorem Only.setCell {S : Nat → Prop} (w : World) (p : Addr) (u : Value) (hp : S p.block) : Only S w (w.setCell p u) :=
  ⟨rfl, rfl, rfl, by simp [World.setCell], fun k hk hn => Below.heap_setCell _ _ _ _ (fun e => hn (by rw [e]; exact hp))⟩
theorem Only.setRow {S : Nat → Prop} (w : World) (g : Nat) (cs : Array Value) (hg : S g) : Only S w (w.setRow g cs) :=
  ⟨rfl, rfl, rfl, by simp, fun k hk hn => setRow_other w g k cs (fun e => hn (by rw [e]; exact hg))⟩
theorem Only.drewN {S : Nat → Prop} (w : World) (n : Nat) : Only S w (w.drewN n) := ⟨rfl, rfl, rfl, Nat.le_refl _, fun _ _ _ => rfl⟩
theorem Only.drew {S : Nat → Prop} (w : World) : Only S w w.drew := ⟨rfl, rfl, rfl, Nat.le_refl _, fun _ _ _ => rfl⟩
theorem Only.alloc {S : Nat → Prop} (w : World) (o : Obj) : Only S w (w.alloc o) := Only.of_below ((Below.refl _ _).alloc (Nat.le_refl _) _)

theorem BytesAt.only {S : Nat → Prop} {w w' : World} {a : Option Addr} {n cap : Nat} {l : List UInt8} (h : BytesAt w a n cap l) (ho : Only S w w') (hS : ∀ x, a = some x → ¬ S x.block) : BytesAt w' a n cap l := by
  obtain ⟨h1, h2, h3, h4⟩ := h
  refine ⟨h1, h2, h3, ?_⟩
  rcases h4 with h4 | ⟨x, rfl, hx⟩
  · exact .inl h4
  · refine .inr ⟨x, rfl, fun i hi => ?_⟩
    have hlt := block_lt (hx i hi)
    rw [add_block] at hlt
    rw [World.cell?_of_block (w := w) (by rw [add_block]; exact ho.block _ hlt (hS x rfl))]
    exact hx i hi

/-! ### lists of records -/
section
variable {α : Type} {f : α → List Value} {size : Nat}

theorem flatMap_len (L : List α) (hf : ∀ x ∈ L, (f x).length = size) : (L.flatMap f).length = L.length * size := by
  induction L with
  | nil => simp
  | cons x L ih =>
    rw [List.flatMap_cons, List.length_append, hf x (by simp), ih (fun y hy => hf y (by simp [hy])), List.length_cons, Nat.succ_mul]; omega

theorem flatMap_take (L : List α) (hf : ∀ x ∈ L, (f x).length = size) (i : Nat) (hi : i ≤ L.length) : (L.flatMap f).take (i * size) = (L.take i).flatMap f := by
  have h1 : ((L.take i).flatMap f).length = i * size := by rw [flatMap_len _ (fun x hx => hf x (List.mem_of_mem_take hx))]; simp [hi]
  conv => lhs; rw [← List.take_append_drop i L, List.flatMap_append]
  rw [← h1, List.take_left]

theorem flatMap_drop (L : List α) (hf : ∀ x ∈ L, (f x).length = size) (i : Nat) (hi : i ≤ L.length) : (L.flatMap f).drop (i * size) = (L.drop i).flatMap f := by
  have h1 : ((L.take i).flatMap f).length = i * size := by rw [flatMap_len _ (fun x hx => hf x (List.mem_of_mem_take hx))]; simp [hi]
  conv => lhs; rw [← List.take_append_drop i L, List.flatMap_append]
  rw [← h1, List.drop_left]

/-- cell j of record i -/
theorem flatMap_at (L : List α) (hf : ∀ x ∈ L, (f x).length = size) (i j : Nat) (x : α) (hi : L[i]? = some x) (hj : j < size) : (L.flatMap f)[i * size + j]? = (f x)[j]? := by
  have hl : i < L.length := (List.getElem?_eq_some_iff.1 hi).1
  have hx : L[i] = x := (List.getElem?_eq_some_iff.1 hi).2
  rw [← List.getElem?_drop, flatMap_drop L hf i (by omega), List.drop_eq_getElem_cons hl, List.flatMap_cons, hx, List.getElem?_append_left]
  rw [hf x (hx ▸ List.getElem_mem hl)]; exact hj

theorem flatMap_splice (L : List α) (hf : ∀ x ∈ L, (f x).length = size) (i : Nat) (hi : i < L.length) (x : α) (hx : (f x).length = size) :
    (L.flatMap f).take (i * size) ++ f x ++ (L.flatMap f).drop (i * size + size) = (L.set i x).flatMap f := by
  rw [flatMap_take L hf i (by omega), show i * size + size = (i + 1) * size by rw [Nat.succ_mul], flatMap_drop L hf (i + 1) (by omega), List.set_eq_take_append_cons_drop, if_pos hi]
  simp [List.flatMap_append]

theorem flatMap_set (L : List α) (hf : ∀ x ∈ L, (f x).length = size) (i j : Nat) (hi : i < L.length) (hj : j < size) (x : α) (u : Value) (hx : f x = (f L[i]).set j u) :
    (L.flatMap f).set (i * size + j) u = (L.set i x).flatMap f := by
  have hfi := hf L[i] (List.getElem_mem hi)
  have hs : (f x).length = size := by rw [hx, List.length_set]; exact hfi
  rw [← flatMap_splice L hf i hi x hs]
  have hlen : ((L.flatMap f).take (i * size)).length = i * size := by
    rw [flatMap_take L hf i (by omega), flatMap_len _ (fun y hy => hf y (List.mem_of_mem_take hy)), List.length_take, Nat.min_eq_left (by omega)]
  have hd : (L.flatMap f).drop (i * size) = f L[i] ++ (L.flatMap f).drop (i * size + size) := by
    rw [flatMap_drop L hf i (by omega), List.drop_eq_getElem_cons hi, List.flatMap_cons, show i * size + size = (i + 1) * size by rw [Nat.succ_mul], flatMap_drop L hf (i + 1) (by omega)]
  conv => lhs; rw [← List.take_append_drop (i * size) (L.flatMap f), hd]
  rw [List.set_append_right _ _ (by omega), hlen, Nat.add_sub_cancel_left, List.set_append_left _ _ (by omega), ← hx, List.append_assoc]
end

/-- the slice v holds the records of L, each of them so many cells -/
def Recs {α : Type} (f : α → List Value) (w : World) (e : TypeId) (size : Nat) (v : Value) (L : List α) : Prop :=
  (∀ x ∈ L, (f x).length = size) ∧ (∀ x ∈ L, ∀ u ∈ f x, u.oneCell' = true) ∧ w.ownsRow 0 e size v L.length (L.flatMap f)

section
variable {α : Type} {f : α → List Value} {w w' : World} {e : TypeId} {size : Nat} {v : Value} {L : List α}

theorem Recs.nil (f : α → List Value) (w : World) (e : TypeId) (size : Nat) : Recs f w e size (.slice none 0 0) [] := ⟨by simp, by simp, World.ownsRow_nil _ _ _ _⟩
theorem Recs.lt (h : Recs f w e size v L) : ∀ k, v.ownBlock = some k → k < w.heap.size := fun k hk => (h.2.2.lt k hk).2
theorem Recs.keep (h : Recs f w e size v L) (hk : ∀ k, v.ownBlock = some k → w'.heap[k]? = w.heap[k]?) : Recs f w' e size v L := by
  refine ⟨h.1, h.2.1, h.2.2.1, ?_⟩
  rcases h.2.2.2 with hn | ⟨g, cap, cur, rfl, hb, hg, rest⟩
  · exact .inl hn
  · exact .inr ⟨g, cap, cur, rfl, hb, (hk g rfl).trans hg, rest⟩
theorem Recs.only {S : Nat → Prop} (h : Recs f w e size v L) (ho : Only S w w') (hS : ∀ k, v.ownBlock = some k → ¬ S k) : Recs f w' e size v L :=
  h.keep fun k hk => ho.block k (h.lt k hk) (hS k hk)
theorem Recs.below (h : Recs f w e size v L) (hb : Below w.heap.size w w') : Recs f w' e size v L := h.keep fun k hk => hb.block k (h.lt k hk)
theorem Recs.blk (h : Recs f w e size v L) (k : Nat) (hk : v.ownBlock = some k) : ∃ cur, w.heap[k]? = some (.cells cur e (0, 0)) := by
  rcases h.2.2.2 with ⟨rfl, h0⟩ | ⟨g, cap, cur, rfl, hb, hg, rest⟩
  · simp [Value.ownBlock] at hk
  · simp only [Value.ownBlock, Option.some.injEq] at hk
    subst hk
    exact ⟨cur, hg⟩
theorem Recs.ne_of (h : Recs f w e size v L) {g : Nat} {cs : Array Value} {t : TypeId} (hg : w.heap[g]? = some (.cells cs t (0, 0))) (ht : e ≠ t) : ∀ k, v.ownBlock = some k → k ≠ g := by
  intro k hk hkg
  obtain ⟨cur, hc⟩ := h.blk k hk
  subst hkg
  rw [hg] at hc
  injection hc with hc
  injection hc with _ hc
  exact ht hc.symm
theorem Recs.form (h : Recs f w e size v L) : ∃ a cap, v = .slice a L.length cap ∧ L.length ≤ cap ∧ cap ≤ maxLen := by
  rcases h.2.2.2 with ⟨rfl, h0⟩ | ⟨g, cap, cur, rfl, _, _, hc, hm, _⟩
  · exact ⟨none, 0, by rw [h0], by omega, by simp⟩
  · exact ⟨_, cap, rfl, hc, hm⟩
theorem Recs.form' (h : Recs f w e size v L) (hp : 0 < L.length) : ∃ g cap, v = .slice (some ⟨g, 0, none⟩) L.length cap ∧ L.length ≤ cap ∧ cap ≤ maxLen ∧ g < w.heap.size := by
  rcases h.2.2.2 with ⟨rfl, h0⟩ | ⟨g, cap, cur, rfl, _, hg, hc, hm, _⟩
  · omega
  · exact ⟨g, cap, rfl, hc, hm, (Array.getElem?_eq_some_iff.1 hg).1⟩
variable {g cap n : Nat}
theorem Recs.cellAt (h : Recs f w e size (.slice (some ⟨g, 0, none⟩) n cap) L) (i j : Nat) (x : α) (hi : L[i]? = some x) (hj : j < size) : w.cell? ⟨g, i * size + j, none⟩ = (f x)[j]? := by
  have hl : i < L.length := (List.getElem?_eq_some_iff.1 hi).1
  have hn : n = L.length := by
    rcases h.2.2.2 with ⟨h', _⟩ | ⟨g', cap', cur, h', _⟩
    · simp at h'
    · simp only [Value.slice.injEq] at h'; exact h'.2.1
  subst hn
  rw [World.ownsRow.cellAt h.2.2 _ (by calc i * size + j < i * size + size := by omega
    _ = (i + 1) * size := by rw [Nat.succ_mul]
    _ ≤ L.length * size := Nat.mul_le_mul_right _ hl)]
  exact flatMap_at L h.1 i j x hi hj
theorem Recs.frozenAt (h : Recs f w e size (.slice (some ⟨g, 0, none⟩) n cap) L) (j : Nat) : w.frozen? ⟨g, j, none⟩ = false := by
  rcases h.2.2.2 with ⟨h', _⟩ | ⟨g', cap', cur, h', _, hg, _⟩
  · simp at h'
  · simp only [Value.slice.injEq, Option.some.injEq, Addr.mk.injEq, and_true] at h'
    obtain ⟨rfl, rfl, rfl⟩ := h'
    exact frozen_of_row w g j cur e hg
theorem Recs.rangeAt (h : Recs f w e size (.slice (some ⟨g, 0, none⟩) n cap) L) (i : Nat) (x : α) (hi : L[i]? = some x) : w.rangeAt g (i * size) (f x) := fun j u hu => by
  have hl : i < L.length := (List.getElem?_eq_some_iff.1 hi).1
  have hx : (f x).length = size := h.1 x (List.mem_of_getElem? hi)
  have hj : j < size := by rw [← hx]; exact (List.getElem?_eq_some_iff.1 hu).1
  rw [h.cellAt i j x hi hj, hu]
theorem Recs.there (h : Recs f w e size (.slice (some ⟨g, 0, none⟩) n cap) L) (i : Nat) (hi : i < L.length) : w.there g (i * size) size := fun j hj => by
  have hx := List.getElem?_eq_getElem hi
  have hs := h.1 L[i] (List.getElem_mem hi)
  exact ⟨by rw [h.cellAt i j _ hx hj, List.getElem?_eq_getElem (by omega)]; rfl, h.frozenAt _⟩

/-- one cell of a record is stored -/
theorem Recs.stored (h : Recs f w e size (.slice (some ⟨g, 0, none⟩) n cap) L) (i j : Nat) (hi : i < L.length) (hj : j < size) (x : α) (u : Value) (hx : f x = (f L[i]).set j u) (hu : u.oneCell' = true) :
    Recs f (w.setCell ⟨g, i * size + j, none⟩ u) e size (.slice (some ⟨g, 0, none⟩) n cap) (L.set i x) := by
  have hn : n = L.length := by
    rcases h.2.2.2 with ⟨h', _⟩ | ⟨g', cap', cur, h', _⟩
    · simp at h'
    · simp only [Value.slice.injEq] at h'; exact h'.2.1
  subst hn
  refine ⟨fun y hy => ?_, fun y hy z hz => ?_, ?_⟩
  · rcases List.mem_or_eq_of_mem_set hy with hy | rfl
    · exact h.1 y hy
    · rw [hx, List.length_set]; exact h.1 _ (List.getElem_mem hi)
  · rcases List.mem_or_eq_of_mem_set hy with hy | rfl
    · exact h.2.1 y hy z hz
    · rw [hx] at hz
      rcases List.mem_or_eq_of_mem_set hz with hz | rfl
      · exact h.2.1 _ (List.getElem_mem hi) z hz
      · exact hu
  · have := (World.ownsRow.stored h.2.2 (i * size + j) u).1
    rw [flatMap_set L h.1 i j hi hj x u hx] at this
    rwa [List.length_set]

/-- the whole of a record is stored -/
theorem Recs.put (h : Recs f w e size (.slice (some ⟨g, 0, none⟩) n cap) L) (i : Nat) (hi : i < L.length) (x : α) (hx : (f x).length = size) (hu : ∀ u ∈ f x, u.oneCell' = true) :
    Recs f (w.setCells g (i * size) (f x)) e size (.slice (some ⟨g, 0, none⟩) n cap) (L.set i x) ∧ w.grownBy (w.setCells g (i * size) (f x)) (some g) := by
  have key : ∀ (vs : List Value) (o : Nat) (w : World) (cur : Array Value), w.heap[g]? = some (.cells cur e (0, 0)) → o + vs.length ≤ cur.size →
      ∃ cur', (w.setCells g o vs).heap[g]? = some (.cells cur' e (0, 0)) ∧ cur'.size = cur.size ∧ cur'.toList = cur.toList.take o ++ vs ++ cur.toList.drop (o + vs.length) ∧ w.grownBy (w.setCells g o vs) (some g) := by
    intro vs
    induction vs with
    | nil => intro o w cur hg _; exact ⟨cur, hg, rfl, by simp, World.grownBy.refl _ _⟩
    | cons u vs ih =>
      intro o w cur hg hlen
      obtain ⟨cur', h1, h2, h3, h4⟩ := ih (o + 1) (w.setCell ⟨g, o, none⟩ u) (cur.setIfInBounds o u) (heap_setCell_same w g o cur e u hg) (by simp at hlen ⊢; omega)
      refine ⟨cur', h1, by rw [h2]; simp, ?_, grown_trans (setCell_grown w g o u) h4⟩
      rw [h3]
      have := list_seg_step cur.toList o u vs (by simp at hlen ⊢; omega)
      simpa [Array.toList_setIfInBounds, Nat.add_assoc] using this
  rcases h.2.2.2 with ⟨h', _⟩ | ⟨g', cap', cur, h', hb, hg, hnc, hcm, hcs, htake⟩
  · simp at h'
  · simp only [Value.slice.injEq, Option.some.injEq, Addr.mk.injEq, and_true] at h'
    obtain ⟨rfl, rfl, rfl⟩ := h'
    have hle : i * size + size ≤ L.length * size := by rw [← Nat.succ_mul]; exact Nat.mul_le_mul_right _ hi
    have hle2 : L.length * size ≤ cur.size := by rw [hcs]; exact Nat.mul_le_mul_right _ hnc
    obtain ⟨cur', h1, h2, h3, h4⟩ := key (f x) (i * size) w cur hg (by rw [hx]; omega)
    refine ⟨⟨fun y hy => ?_, fun y hy z hz => ?_, ?_, .inr ⟨g, cap, cur', by rw [List.length_set], hb, h1, by rw [List.length_set]; exact hnc, hcm, by rw [h2]; exact hcs, ?_⟩⟩, h4⟩
    · rcases List.mem_or_eq_of_mem_set hy with hy | rfl
      · exact h.1 y hy
      · exact hx
    · rcases List.mem_or_eq_of_mem_set hy with hy | rfl
      · exact h.2.1 y hy z hz
      · exact hu z hz
    · rw [flatMap_len (size := size) _ (fun y hy => by
        rcases List.mem_or_eq_of_mem_set hy with hy | rfl
        · exact h.1 y hy
        · exact hx)]
    · rw [h3, List.length_set, ← flatMap_splice L h.1 i hi x hx, ← htake, hx]
      have e1 : (cur.toList.take (L.length * size)).take (i * size) = cur.toList.take (i * size) := by rw [List.take_take, Nat.min_eq_left (by omega)]
      have e2 : (cur.toList.take (i * size) ++ f x).length = i * size + size := by simp [hx]; omega
      rw [e1, List.take_append, e2, List.drop_take]
      rw [List.take_of_length_le (by rw [e2]; omega)]
end

theorem setRow_grown (w : World) (g : Nat) (cs : Array Value) : w.grownBy (w.setRow g cs) (some g) :=
  ⟨rfl, rfl, rfl, by simp, fun k _ hk => setRow_other w g k cs (fun e => hk (by rw [e]))⟩

/-! ### a region that draws its order: reads, then the rest in order -/
theorem region_still_tail {P : Program} {id : Nat} {Q : Exit → Act → World → Prop} {a : Act} {w : World} {l : List Oper} (n : Nat) (hm : P.follows .mixedOrders = true) (hB : Region.lexTailB .any l.toArray n = true)
    (h : wpStill P l.toArray w.drew (fun a' => wpList P l.toArray Q (l.drop n) a' w.drew) (l.take n) a) : (Code.region id l.toArray true).wp P Q a w := wp_region_still_tail n hm hB h

theorem still_load_mid {P : Program} {ops : Array Oper} {rest : List Oper} {o : Oper} {a : Act} {w : World} {Q : Act → Prop} (hgd : o.guard = none) (ty : TypeId) (x : Operand) (ho : o.op = .load ty x)
    (b off : Nat) (hx : a.eval x = .pointer (some ⟨b, off, none⟩)) (cs : List Value) (d : TypeDesc) (hc : w.rangeAt b off cs)
    (hu : P.underlying ty = some d) (hd : d.isRow = true) (hi : (P.info? ty).map (·.size) = some cs.length)
    (h : wpStill P ops w Q rest (a.put o.dst (.agg cs.toArray))) : wpStill P ops w Q (o :: rest) a := by
  unfold wpStill
  have hw : Region.wanted o (yielded ops a.tmps) = true := by simp [Region.wanted, hgd]
  rw [if_pos hw]
  unfold Oper.still execOp
  simp only [ho, hx, Instr.loadAt, Instr.sureAddr, Sem.run_bind, Sem.run_pure, Result.andThen_ok, run_loadVar_mid w b off ty cs d hc hu hd hi]
  rw [Oper.stillUpon_value]
  exact h

/-- records laid behind records of the call's own -/
theorem wp_append_recs {α : Type} {f : α → List Value} {P : Program} {w : World} {o : Oper} {a : Act} {K : Act → World → Prop} {Q : Exit → Act → World → Prop} (s x : Operand) (t : TypeId)
    (ho : o.op = .call { callee := .builtin .append, args := #[s, x], argTypes := #[t, t] })
    (e : TypeId) (i : TypeInfo) (z : Value) (size bytes : Nat) (ht : P.underlying t = some (.slice e)) (hi : P.info? e = some i) (hz : i.zero = some z)
    (hsize : i.size = size) (hby : i.bytes = bytes) (hzs : z.cells.size = size) (hsz : 0 < size)
    (v : Value) (L : List α) (hs : a.eval s = v) (hown : Recs f w e size v L)
    (ad : Addr) (m c : Nat) (M : List α) (hx : a.eval x = .slice (some ad) m c) (hm : M.length = m) (hM : ∀ y ∈ M, (f y).length = size) (hM1 : ∀ y ∈ M, ∀ u ∈ f y, u.oneCell' = true)
    (hnews : ∀ j u, (M.flatMap f)[j]? = some u → w.cell? (ad.add j) = some u)
    (h63 : L.length + m ≤ maxLen) (hbytes : (L.length + m) * bytes ≤ 140737488355328)
    (h : ∀ v' w', Recs f w' e size v' (L ++ M) → w.grownBy w' v.ownBlock → (v'.ownBlock = v.ownBlock ∨ v'.ownBlock = some w.heap.size) → K (a.put o.dst v') w') :
    Oper.wp P o a w K Q := by
  subst hm
  obtain ⟨v', w', hr, h2, h3, h4, h5⟩ := run_append_own_at (P := P) w 0 t o.type e i z size bytes ht hi hz hsize hby hzs hsz v L.length (L.flatMap f) hown.2.2 ad M.length c (M.flatMap f) (flatMap_len M hM) hnews (fun u hu => by
    obtain ⟨y, hy, hyu⟩ := List.mem_flatMap.1 hu
    exact hM1 y hy u hyu) h63 hbytes (Nat.zero_le _)
  unfold Oper.wp execOp
  simp only [ho, resolve, invoke, builtin, Sem.run_bind, Sem.run_pure, Result.andThen_ok, List.map_toArray, List.map_cons, List.map_nil, hs, hx, hr]
  refine h v' w' ⟨fun y hy => ?_, fun y hy => ?_, by rw [List.length_append, List.flatMap_append]; exact h2⟩ h3 h5
  · rcases List.mem_append.1 hy with hy | hy
    · exact hown.1 y hy
    · exact hM y hy
  · rcases List.mem_append.1 hy with hy | hy
    · exact hown.2.1 y hy
    · exact hM1 y hy

theorem wpList_append_recs {α : Type} {f : α → List Value} {P : Program} {w : World} {ops : Array Oper} {rest : List Oper} {o : Oper} {a : Act} {Q : Exit → Act → World → Prop} (hgd : o.guard = none) (s x : Operand) (t : TypeId)
    (ho : o.op = .call { callee := .builtin .append, args := #[s, x], argTypes := #[t, t] })
    (e : TypeId) (i : TypeInfo) (z : Value) (size bytes : Nat) (ht : P.underlying t = some (.slice e)) (hi : P.info? e = some i) (hz : i.zero = some z)
    (hsize : i.size = size) (hby : i.bytes = bytes) (hzs : z.cells.size = size) (hsz : 0 < size)
    (v : Value) (L : List α) (hs : a.eval s = v) (hown : Recs f w e size v L)
    (ad : Addr) (m c : Nat) (M : List α) (hx : a.eval x = .slice (some ad) m c) (hm : M.length = m) (hM : ∀ y ∈ M, (f y).length = size) (hM1 : ∀ y ∈ M, ∀ u ∈ f y, u.oneCell' = true)
    (hnews : ∀ j u, (M.flatMap f)[j]? = some u → w.cell? (ad.add j) = some u)
    (h63 : L.length + m ≤ maxLen) (hbytes : (L.length + m) * bytes ≤ 140737488355328)
    (h : ∀ v' w', Recs f w' e size v' (L ++ M) → w.grownBy w' v.ownBlock → (v'.ownBlock = v.ownBlock ∨ v'.ownBlock = some w.heap.size) → wpList P ops Q rest (a.put o.dst v') w') : wpList P ops Q (o :: rest) a w :=
  wpList_plain hgd fun _ hK => wp_append_recs s x t ho e i z size bytes ht hi hz hsize hby hzs hsz v L hs hown ad m c M hx hm hM hM1 hnews h63 hbytes fun v' w' h1 h2 h3 => hK _ _ (h v' w' h1 h2 h3)

/-- one record, in a block of its own: what append reads -/
theorem one_rec {α : Type} {f : α → List Value} {w : World} {B : Nat} {x : α} {t : TypeId} {fr : Nat × Nat} (h : w.heap[B]? = some (.cells (f x).toArray t fr)) : ∀ j u, ([x].flatMap f)[j]? = some u → w.cell? ((⟨B, 0, none⟩ : Addr).add j) = some u := by
  intro j u hj
  rw [Addr.add_mid, Nat.zero_add, cell_of_row _ _ _ _ _ _ h, ← Array.getElem?_toList, List.toList_toArray]
  simpa using hj

end Go.Proofs.YtjcmphjjkeigjaaGreat

namespace Go.Proofs.YtjcmphjjkeigjaaGreat
set_option linter.unusedVariables false
set_option linter.unusedSimpArgs false

structure Dk where
  secs : List (List UInt8)
  waits : List (Nat × List UInt8)
  power : Bool
  budget : Int

namespace Dk

def new (n : Nat) : Dk := ⟨List.replicate n (List.replicate 128 0), [], true, -1⟩

structure Ok (D : Dk) : Prop where
  sec : ∀ s ∈ D.secs, s.length = 128
  wait : ∀ x ∈ D.waits, x.1 < D.secs.length ∧ x.2.length = 128
  low : -1 ≤ D.budget
  high : D.budget ≤ 9223372036854775807
  one : 1 ≤ D.secs.length
  many : D.secs.length ≤ 2048
  few : D.waits.length ≤ 1073741824

theorem ok_new (n : Nat) (h1 : 1 ≤ n) (h2 : n ≤ 2048) : (new n).Ok :=
  ⟨fun s hs => by simp only [new, List.mem_replicate] at hs; rw [hs.2]; simp, by simp [new], by simp [new], by simp [new], by simpa [new] using h1, by simpa [new] using h2, by simp [new]⟩

/-- what is read of sector i, when these writes wait over what it has -/
def over (ws : List (Nat × List UInt8)) (i : Nat) (s : List UInt8) : List UInt8 := ws.foldl (fun s x => if x.1 = i then x.2 else s) s
def content (D : Dk) (i : Nat) : List UInt8 := over D.waits i (D.secs.getD i [])

theorem over_append (a b : List (Nat × List UInt8)) (i : Nat) (s : List UInt8) : over (a ++ b) i s = over b i (over a i s) := by simp [over]
theorem over_snoc (a : List (Nat × List UInt8)) (x : Nat × List UInt8) (i : Nat) (s : List UInt8) : over (a ++ [x]) i s = if x.1 = i then x.2 else over a i s := by simp [over]
theorem over_none (b : List (Nat × List UInt8)) (i : Nat) (s : List UInt8) (h : ∀ x ∈ b, x.1 ≠ i) : over b i s = s := by
  induction b generalizing s with
  | nil => rfl
  | cons x b ih =>
    have hx := h x (by simp)
    show over b i (if x.1 = i then x.2 else s) = s
    rw [if_neg hx]; exact ih s (fun y hy => h y (by simp [hy]))
theorem over_hit (a b : List (Nat × List UInt8)) (x : Nat × List UInt8) (i : Nat) (s : List UInt8) (hx : x.1 = i) (h : ∀ y ∈ b, y.1 ≠ i) : over (a ++ x :: b) i s = x.2 := by
  rw [show a ++ x :: b = (a ++ [x]) ++ b by simp, over_append, over_none b _ _ h, over_snoc, if_pos hx]
theorem over_length (ws : List (Nat × List UInt8)) (i : Nat) (s : List UInt8) (h : ∀ x ∈ ws, x.2.length = 128) (hs : s.length = 128) : (over ws i s).length = 128 := by
  induction ws generalizing s with
  | nil => exact hs
  | cons x b ih =>
    show (over b i (if x.1 = i then x.2 else s)).length = 128
    refine ih _ (fun y hy => h y (by simp [hy])) ?_
    split
    · exact h x (by simp)
    · exact hs
theorem Ok.getD {D : Dk} (h : D.Ok) (i : Nat) (hi : i < D.secs.length) : (D.secs.getD i []).length = 128 := by
  rw [List.getD, List.getElem?_eq_getElem hi]; exact h.sec _ (List.getElem_mem hi)
theorem Ok.content {D : Dk} (h : D.Ok) (i : Nat) (hi : i < D.secs.length) : (D.content i).length = 128 := over_length _ _ _ (fun x hx => (h.wait x hx).2) (h.getD i hi)

/-- is a write or a flush done? -/
def can (D : Dk) : Bool := D.power && !(D.budget == 0)
def off (D : Dk) : Dk := { D with power := false }
def paid (D : Dk) : Dk := { D with budget := if D.budget = -1 then -1 else D.budget - 1 }
def put (D : Dk) (i : Nat) (s : List UInt8) : Dk := { D.paid with waits := D.waits ++ [(i, s)] }

/-- the writes that are kept, laid over the sectors -/
def laid (K : Nat → Bool) (ws : List (Nat × List UInt8)) (s : List (List UInt8)) : List (List UInt8) := ws.zipIdx.foldl (fun s x => if K x.2 then s.set x.1.1 x.1.2 else s) s
theorem laid_snoc (K : Nat → Bool) (ws : List (Nat × List UInt8)) (x : Nat × List UInt8) (s : List (List UInt8)) :
    laid K (ws ++ [x]) s = if K ws.length then (laid K ws s).set x.1 x.2 else laid K ws s := by
  simp [laid, List.zipIdx_append]
theorem laid_take (K : Nat → Bool) (ws : List (Nat × List UInt8)) (s : List (List UInt8)) (k : Nat) (hk : k < ws.length) :
    laid K (ws.take (k + 1)) s = if K k then (laid K (ws.take k) s).set ws[k].1 ws[k].2 else laid K (ws.take k) s := by
  rw [List.take_succ_eq_append_getElem hk, laid_snoc, List.length_take, Nat.min_eq_left (by omega)]
theorem snoc_ind {α : Type} {P : List α → Prop} (h0 : P []) (h1 : ∀ l x, P l → P (l ++ [x])) (l : List α) : P l := by
  have : ∀ n (l : List α), l.length = n → P l := by
    intro n
    induction n with
    | zero => intro l hl; rw [List.eq_nil_of_length_eq_zero hl]; exact h0
    | succ n ih =>
      intro l hl
      have hne : l ≠ [] := by intro h; subst h; simp at hl
      rw [← List.dropLast_concat_getLast hne]
      exact h1 _ _ (ih _ (by simp [hl]))
  exact this _ l rfl
theorem laid_length (K : Nat → Bool) (ws : List (Nat × List UInt8)) (s : List (List UInt8)) : (laid K ws s).length = s.length := by
  induction ws using snoc_ind with
  | h0 => rfl
  | h1 l x ih => rw [laid_snoc]; split <;> simp [ih]
theorem laid_mem (K : Nat → Bool) (ws : List (Nat × List UInt8)) (s : List (List UInt8)) (hs : ∀ t ∈ s, t.length = 128) (hw : ∀ x ∈ ws, x.2.length = 128) : ∀ t ∈ laid K ws s, t.length = 128 := by
  induction ws using snoc_ind with
  | h0 => exact hs
  | h1 l x ih =>
    rw [laid_snoc]
    have ih := ih (fun y hy => hw y (by simp [hy]))
    split
    · intro t ht
      rcases List.mem_or_eq_of_mem_set ht with ht | rfl
      · exact ih t ht
      · exact hw x (by simp)
    · exact ih

def settle (D : Dk) (K : Nat → Bool) : Dk := { D with secs := laid K D.waits D.secs, waits := [] }
def flushed (D : Dk) : Dk := D.paid.settle fun _ => true
def keeps (keep : List Bool) (k : Nat) : Bool := keep.getD k false
def cut (D : Dk) (keep : List Bool) : Dk := { D.settle (keeps keep) with power := false }
def on (D : Dk) : Dk := { D.settle (fun _ => false) with power := true, budget := -1 }

theorem Ok.settle {D : Dk} (h : D.Ok) (K : Nat → Bool) : (D.settle K).Ok :=
  ⟨laid_mem K _ _ h.sec (fun x hx => (h.wait x hx).2), by simp [Dk.settle], h.low, h.high, by simpa [Dk.settle, laid_length] using h.one, by simpa [Dk.settle, laid_length] using h.many, by simp [Dk.settle]⟩
theorem Ok.off {D : Dk} (h : D.Ok) : D.off.Ok := ⟨h.sec, h.wait, h.low, h.high, h.one, h.many, h.few⟩
theorem Ok.cut {D : Dk} (h : D.Ok) (keep : List Bool) : (D.cut keep).Ok := (h.settle (keeps keep)).off
theorem Ok.on {D : Dk} (h : D.Ok) : D.on.Ok := by
  have := h.settle (fun _ => false)
  exact ⟨this.sec, this.wait, by simp [Dk.on], by simp [Dk.on], this.one, this.many, this.few⟩
theorem Ok.setBudget {D : Dk} (h : D.Ok) (b : Int) (h1 : -1 ≤ b) (h2 : b ≤ 9223372036854775807) : ({ D with budget := b } : Dk).Ok := ⟨h.sec, h.wait, h1, h2, h.one, h.many, h.few⟩
theorem Ok.paid {D : Dk} (h : D.Ok) (hc : D.can = true) : D.paid.Ok := by
  have hb : D.budget ≠ 0 := by simp [can] at hc; exact hc.2
  have := h.low; have := h.high
  refine ⟨h.sec, h.wait, ?_, ?_, h.one, h.many, h.few⟩ <;> simp only [Dk.paid] <;> split <;> omega
theorem Ok.put {D : Dk} (h : D.Ok) (hc : D.can = true) (i : Nat) (s : List UInt8) (hi : i < D.secs.length) (hs : s.length = 128) (hf : D.waits.length < 1073741824) : (D.put i s).Ok := by
  have hp := h.paid hc
  refine ⟨hp.sec, fun x hx => ?_, hp.low, hp.high, hp.one, hp.many, by simp [Dk.put]; omega⟩
  simp only [Dk.put, List.mem_append, List.mem_singleton] at hx
  rcases hx with hx | rfl
  · exact h.wait x hx
  · exact ⟨hi, hs⟩
theorem Ok.flushed {D : Dk} (h : D.Ok) (hc : D.can = true) : D.flushed.Ok := (h.paid hc).settle _

theorem laid_getD (ws : List (Nat × List UInt8)) (s : List (List UInt8)) (j : Nat) (hj : j < s.length) : (laid (fun _ => true) ws s).getD j [] = over ws j (s.getD j []) := by
  induction ws using snoc_ind with
  | h0 => rfl
  | h1 l x ih =>
    rw [laid_snoc, if_pos rfl, over_snoc, List.getD, List.getElem?_set]
    by_cases h : x.1 = j
    · rw [if_pos h, if_pos h, laid_length, if_pos (by omega)]; rfl
    · rw [if_neg h, if_neg h, ← ih]; rfl
end Dk
end Go.Proofs.YtjcmphjjkeigjaaGreat

namespace Go.Proofs.YtjcmphjjkeigjaaGreat
open Go.RowKit
set_option linter.unusedVariables false
set_option linter.unusedSimpArgs false

def waitC (x : Nat × List UInt8) : List Value := .int .i64 x.1 :: vals x.2

def diskC (vs vw : Value) (D : Dk) : Array Value := #[vs, vw, .bool D.power, .int .i64 D.budget]

/-- the disk at block g is D, its two slices are vs and vw; all that it has lies in S -/
structure DiskIs (w : World) (S : Nat → Prop) (g : Nat) (D : Dk) (vs vw : Value) : Prop where
  ok : D.Ok
  lt : ∀ k, S k → k < w.heap.size
  self : S g
  blk : w.heap[g]? = some (.cells (diskC vs vw D) 87 (0, 0))
  secs : Recs vals w 138 128 vs D.secs
  waits : Recs waitC w 141 129 vw D.waits
  inS : ∀ k, vs.ownBlock = some k → S k
  inW : ∀ k, vw.ownBlock = some k → S k

/-- the disk at block g is D; all that it has lies in S -/
def DiskAt (w : World) (S : Nat → Prop) (g : Nat) (D : Dk) : Prop := ∃ vs vw, DiskIs w S g D vs vw

theorem DiskAt.ok {w : World} {S : Nat → Prop} {g : Nat} {D : Dk} (h : DiskAt w S g D) : D.Ok := by obtain ⟨_, _, h⟩ := h; exact h.ok
theorem DiskAt.lt {w : World} {S : Nat → Prop} {g : Nat} {D : Dk} (h : DiskAt w S g D) : ∀ k, S k → k < w.heap.size := by obtain ⟨_, _, h⟩ := h; exact h.lt
theorem DiskAt.self {w : World} {S : Nat → Prop} {g : Nat} {D : Dk} (h : DiskAt w S g D) : S g := by obtain ⟨_, _, h⟩ := h; exact h.self
theorem DiskAt.ex {w : World} {S : Nat → Prop} {g : Nat} {D : Dk} (h : DiskAt w S g D) : ∃ vs vw, w.heap[g]? = some (.cells (diskC vs vw D) 87 (0, 0)) ∧ Recs vals w 138 128 vs D.secs ∧ Recs waitC w 141 129 vw D.waits ∧ (∀ k, vs.ownBlock = some k → S k) ∧ (∀ k, vw.ownBlock = some k → S k) := by
  obtain ⟨vs, vw, h⟩ := h
  exact ⟨vs, vw, h.blk, h.secs, h.waits, h.inS, h.inW⟩

theorem DiskIs.keep {w w' : World} {S : Nat → Prop} {g : Nat} {D : Dk} {vs vw : Value} (h : DiskIs w S g D vs vw) (hs : w.heap.size ≤ w'.heap.size) (hk : ∀ k, S k → w'.heap[k]? = w.heap[k]?) : DiskIs w' S g D vs vw :=
  ⟨h.ok, fun k hS => Nat.lt_of_lt_of_le (h.lt k hS) hs, h.self, (hk g h.self).trans h.blk, h.secs.keep fun k hv => hk k (h.inS k hv), h.waits.keep fun k hv => hk k (h.inW k hv), h.inS, h.inW⟩
theorem DiskIs.only {w w' : World} {S T : Nat → Prop} {g : Nat} {D : Dk} {vs vw : Value} (h : DiskIs w S g D vs vw) (ho : Only T w w') (hd : ∀ k, S k → ¬ T k) : DiskIs w' S g D vs vw :=
  h.keep ho.size fun k hS => ho.block k (h.lt k hS) (hd k hS)
theorem DiskIs.below {w w' : World} {S : Nat → Prop} {g : Nat} {D : Dk} {vs vw : Value} (h : DiskIs w S g D vs vw) (hb : Below w.heap.size w w') : DiskIs w' S g D vs vw :=
  h.keep hb.size fun k hS => hb.block k (h.lt k hS)
theorem DiskAt.keep {w w' : World} {S : Nat → Prop} {g : Nat} {D : Dk} (h : DiskAt w S g D) (hs : w.heap.size ≤ w'.heap.size) (hk : ∀ k, S k → w'.heap[k]? = w.heap[k]?) : DiskAt w' S g D := by
  obtain ⟨vs, vw, h⟩ := h
  exact ⟨vs, vw, h.keep hs hk⟩
theorem DiskAt.only {w w' : World} {S T : Nat → Prop} {g : Nat} {D : Dk} (h : DiskAt w S g D) (ho : Only T w w') (hd : ∀ k, S k → ¬ T k) : DiskAt w' S g D :=
  h.keep ho.size fun k hS => ho.block k (h.lt k hS) (hd k hS)
theorem DiskAt.below {w w' : World} {S : Nat → Prop} {g : Nat} {D : Dk} (h : DiskAt w S g D) (hb : Below w.heap.size w w') : DiskAt w' S g D :=
  h.keep hb.size fun k hS => hb.block k (h.lt k hS)
theorem DiskAt.drewN {w : World} {S : Nat → Prop} {g : Nat} {D : Dk} (h : DiskAt w S g D) (n : Nat) : DiskAt (w.drewN n) S g D := h.keep (Nat.le_refl _) fun _ _ => rfl

/-- the disk becomes D' -/
def DiskTo (v : Value) (S : Nat → Prop) (g : Nat) (D' : Dk) (w : World) (e : Ending) (w' : World) : Prop :=
  e = .returned v ∧ ∃ S', DiskAt w' S' g D' ∧ Only S w w' ∧ ∀ k, S' k → S k ∨ w.heap.size ≤ k

/-- the cells of the disk, as a walk wants them -/
theorem DiskAt.cells {w : World} {S : Nat → Prop} {g : Nat} {D : Dk} {vs vw : Value} (h : w.heap[g]? = some (.cells (diskC vs vw D) 87 (0, 0))) :
    w.cell? ⟨g, 0, none⟩ = some vs ∧ w.cell? ⟨g, 1, none⟩ = some vw ∧ w.cell? ⟨g, 2, none⟩ = some (.bool D.power) ∧ w.cell? ⟨g, 3, none⟩ = some (.int .i64 D.budget) ∧ ∀ i, w.frozen? ⟨g, i, none⟩ = false :=
  ⟨by rw [cell_of_row w g 0 _ _ _ h]; rfl, by rw [cell_of_row w g 1 _ _ _ h]; rfl, by rw [cell_of_row w g 2 _ _ _ h]; rfl, by rw [cell_of_row w g 3 _ _ _ h]; rfl, fun i => frozen_of_row w g i _ _ h⟩

/-! ### Size, Power, there -/
theorem size_any (g : Nat) (D : Dk) (S : Nat → Prop) (w : World) (h : DiskAt w S g D) :
    Calls Tryz.prog 41 #[.pointer (some ⟨g, 0, none⟩)] w fun e w' => e = .returned (.int .i64 D.secs.length) ∧ w = w' := by
  obtain ⟨vs, vw, h1, h2, h3, h4, h5⟩ := h.ex
  obtain ⟨a, cap, rfl, _, _⟩ := h2.form
  obtain ⟨c0, _⟩ := DiskAt.cells (S := S) h1
  clear h1 h2 h3 h4 h5 h
  go_enter Tryz.func41, Tryz.ntmps41
  go_wp2
  go_ret
  exact ⟨rfl, rfl⟩

theorem power_any (g : Nat) (D : Dk) (S : Nat → Prop) (w : World) (h : DiskAt w S g D) :
    Calls Tryz.prog 65 #[.pointer (some ⟨g, 0, none⟩)] w fun e w' => e = .returned (.bool D.power) ∧ w = w' := by
  obtain ⟨vs, vw, h1, h2, h3, h4, h5⟩ := h.ex
  obtain ⟨_, _, c2, _⟩ := DiskAt.cells (S := S) h1
  clear h1 h2 h3 h4 h5 h
  go_enter Tryz.func65, Tryz.ntmps65
  go_wp2
  go_ret
  exact ⟨rfl, rfl⟩

theorem there_yes (g : Nat) (i : Nat) (D : Dk) (S : Nat → Prop) (w : World) (h : DiskAt w S g D) (hi : i < D.secs.length) :
    Calls Tryz.prog 72 #[.pointer (some ⟨g, 0, none⟩), .int .i64 i] w fun e w' => e = .returned (.bool true) ∧ w = w' := by
  obtain ⟨vs, vw, h1, h2, h3, h4, h5⟩ := h.ex
  obtain ⟨a, cap, rfl, _, _⟩ := h2.form
  obtain ⟨c0, _⟩ := DiskAt.cells (S := S) h1
  clear h1 h2 h3 h4 h5 h
  go_enter Tryz.func72, Tryz.ntmps72
  go_wp2
  go_ret
  exact ⟨rfl, rfl⟩

theorem there_no (g : Nat) (i : Int) (D : Dk) (S : Nat → Prop) (w : World) (h : DiskAt w S g D) (hi : i < 0 ∨ (D.secs.length : Int) ≤ i) :
    Calls Tryz.prog 72 #[.pointer (some ⟨g, 0, none⟩), .int .i64 i] w fun e w' => e = .returned (.bool false) ∧ w = w' := by
  obtain ⟨vs, vw, h1, h2, h3, h4, h5⟩ := h.ex
  obtain ⟨a, cap, rfl, _, _⟩ := h2.form
  obtain ⟨c0, _⟩ := DiskAt.cells (S := S) h1
  clear h1 h2 h3 h4 h5 h
  by_cases h0 : 0 ≤ i
  · have h1 : ¬ i < (D.secs.length : Int) := by omega
    have h1' : (D.secs.length : Int) ≤ i := by omega
    go_enter Tryz.func72, Tryz.ntmps72
    go_wp2
    go_ret
    exact ⟨rfl, rfl⟩
  · go_enter Tryz.func72, Tryz.ntmps72
    go_wp2
    go_ret
    exact ⟨rfl, rfl⟩

/-! ### octets: a sector, in new memory -/
def ReadN (P : Value → Value) (n : Nat) (l : List UInt8) (w : World) (e : Ending) (w' : World) : Prop :=
  ∃ a cap, e = .returned (P (.slice a n cap)) ∧ BytesAt w' a n cap l ∧ Below w.heap.size w w' ∧ ∀ x, a = some x → w.heap.size ≤ x.block ∧ x.block < w'.heap.size
theorem octets_any (l : List UInt8) (w : World) (hl : l.length = 128) :
    Calls Tryz.prog 73 #[.agg (vals l).toArray] w (ReadN id 128 l w) := by
  have hsz : (vals l).toArray.size = 128 := by simp [vals_length, hl]
  go_enter Tryz.func73, Tryz.ntmps73
  go_wp2
  go_ret
  refine ⟨_, _, rfl, ?_, (Below.refl _ _).alloc (Nat.le_refl _) _, fun x hx => by cases hx; simp⟩
  refine BytesAt.of_cells hl (Nat.le_refl _) (by unfold maxLen; omega) fun i hi => ?_
  rw [Nat.zero_add, cell_of_row _ _ i _ _ _ (heap_alloc_new w _), ← Array.getElem?_toList, List.toList_toArray, vals_at _ _ (by omega)]

theorem sizeSec : (Tryz.prog.info? 138).map (·.size) = some 128 := by kernel_rfl

theorem vals_one (l : List UInt8) : (vals l).toArray.all (·.oneCell') = true := all_oneCell_toArray (mem_vals_oneCell l)

/-! ### Has -/
end Go.Proofs.YtjcmphjjkeigjaaGreat

namespace Go.Proofs.YtjcmphjjkeigjaaGreat
open Go.RowKit
set_option linter.unusedVariables false
set_option linter.unusedSimpArgs false

theorem DiskIs.setDisk {w : World} {S : Nat → Prop} {g : Nat} {D D' : Dk} {vs vw : Value} (h : DiskIs w S g D vs vw) (i : Nat) (u : Value) (hok : D'.Ok) (hs : D'.secs = D.secs) (hw : D'.waits = D.waits)
    (hc : (diskC vs vw D).setIfInBounds i u = diskC vs vw D') : DiskIs (w.setCell ⟨g, i, none⟩ u) S g D' vs vw := by
  refine ⟨hok, fun k hk => by simpa [World.setCell] using h.lt k hk, h.self, ?_, ?_, ?_, h.inS, h.inW⟩
  · rw [heap_setCell_same _ _ _ _ _ _ h.blk, hc]
  · rw [hs]; exact h.secs.keep fun k hk => heap_setCell_other _ _ _ _ (h.secs.ne_of h.blk (by decide) k hk)
  · rw [hw]; exact h.waits.keep fun k hk => heap_setCell_other _ _ _ _ (h.waits.ne_of h.blk (by decide) k hk)
theorem DiskAt.setDisk {w : World} {S : Nat → Prop} {g : Nat} {D D' : Dk} (h : DiskAt w S g D) (i : Nat) (u : Value) (hok : D'.Ok) (hs : D'.secs = D.secs) (hw : D'.waits = D.waits)
    (hc : ∀ vs vw, (diskC vs vw D).setIfInBounds i u = diskC vs vw D') : DiskAt (w.setCell ⟨g, i, none⟩ u) S g D' := by
  obtain ⟨vs, vw, h⟩ := h
  exact ⟨vs, vw, h.setDisk i u hok hs hw (hc vs vw)⟩
theorem DiskAt.setPower {w : World} {S : Nat → Prop} {g : Nat} {D : Dk} (h : DiskAt w S g D) (b : Bool) : DiskAt (w.setCell ⟨g, 2, none⟩ (.bool b)) S g { D with power := b } :=
  h.setDisk 2 _ ⟨h.ok.sec, h.ok.wait, h.ok.low, h.ok.high, h.ok.one, h.ok.many, h.ok.few⟩ rfl rfl fun _ _ => rfl
theorem DiskAt.setBudget {w : World} {S : Nat → Prop} {g : Nat} {D : Dk} (h : DiskAt w S g D) (b : Int) (h1 : -1 ≤ b) (h2 : b ≤ 9223372036854775807) : DiskAt (w.setCell ⟨g, 3, none⟩ (.int .i64 b)) S g { D with budget := b } :=
  h.setDisk 3 _ (h.ok.setBudget b h1 h2) rfl rfl fun _ _ => rfl

theorem budget_yes (g : Nat) (n : Int) (D : Dk) (S : Nat → Prop) (w : World) (h : DiskAt w S g D) (hn : -1 ≤ n) (hm : n ≤ 9223372036854775807) :
    Calls Tryz.prog 20 #[.pointer (some ⟨g, 0, none⟩), .int .i64 n] w (DiskTo (.int .i64 0) S g { D with budget := n } w) := by
  have HD := Lib.hid h
  obtain ⟨vs, vw, h1, h2, h3, h4, h5⟩ := h.ex
  obtain ⟨c0, c1, c2, c3, hf⟩ := DiskAt.cells (S := S) h1
  have f3 := hf 3
  clear h1 h2 h3 h4 h5 h hf
  go_enter Tryz.func20, Tryz.ntmps20
  go_wp2
  go_ret
  exact ⟨rfl, S, HD.out.setBudget n hn hm, Only.setCell _ _ _ HD.out.self, fun k hk => .inl hk⟩

theorem spend_no (g : Nat) (D : Dk) (S : Nat → Prop) (w : World) (h : DiskAt w S g D) (hc : D.can = false) :
    Calls Tryz.prog 75 #[.pointer (some ⟨g, 0, none⟩)] w (DiskTo (.int .i64 10) S g D.off w) := by
  have HD := Lib.hid h
  obtain ⟨vs, vw, h1, h2, h3, h4, h5⟩ := h.ex
  obtain ⟨c0, c1, c2, c3, hf⟩ := DiskAt.cells (S := S) h1
  have f2 := hf 2
  by_cases hb : D.budget = 0
  · rw [hb] at c3
    have HB := Lib.hid hb
    clear h1 h2 h3 h4 h5 h hf hc hb
    go_enter Tryz.func75, Tryz.ntmps75
    go_wp2
    go_ret
    exact ⟨rfl, S, HD.out.setPower false, Only.setCell _ _ _ HD.out.self, fun k hk => .inl hk⟩
  · have hp : D.power = false := by simp [Dk.can] at hc; rcases Bool.eq_false_or_eq_true D.power with h | h; exact absurd (hc h) hb; exact h
    have hb' : (D.budget == 0) = false := by simpa using hb
    rw [hp] at c2
    have HP := Lib.hid hp
    clear h1 h2 h3 h4 h5 h hf hc hb hp
    go_enter Tryz.func75, Tryz.ntmps75
    go_wp2
    go_ret
    have : D.off = D := by unfold Dk.off; cases D; simp only [Dk.mk.injEq, true_and, and_true]; exact HP.out.symm
    exact ⟨rfl, S, by rw [this]; exact HD.out, Only.refl _ _, fun k hk => .inl hk⟩

theorem spend_yes (g : Nat) (D : Dk) (S : Nat → Prop) (w : World) (h : DiskAt w S g D) (hc : D.can = true) :
    Calls Tryz.prog 75 #[.pointer (some ⟨g, 0, none⟩)] w (fun e w' => e = .returned (.int .i64 0) ∧ DiskAt w' S g D.paid ∧ Only S w w' ∧ w'.heap.size = w.heap.size) := by
  have HD := Lib.hid h
  obtain ⟨vs, vw, h1, h2, h3, h4, h5⟩ := h.ex
  obtain ⟨c0, c1, c2, c3, hf⟩ := DiskAt.cells (S := S) h1
  have f3 := hf 3
  simp only [Dk.can, Bool.and_eq_true, Bool.not_eq_true'] at hc
  obtain ⟨hp, hb⟩ := hc
  rw [hp] at c2
  have hlo := h.ok.low
  have hhi := h.ok.high
  by_cases hm : D.budget = -1
  · rw [hm] at c3
    have HM := Lib.hid hm
    clear h1 h2 h3 h4 h5 h hf hb hm hp hlo hhi
    go_enter Tryz.func75, Tryz.ntmps75
    go_wp2
    go_ret
    have : D.paid = D := by unfold Dk.paid; rw [if_pos HM.out]; cases D; simp only [Dk.mk.injEq, true_and, and_true]; exact HM.out.symm
    exact ⟨rfl, by rw [this]; exact HD.out, Only.refl _ _, rfl⟩
  · have hb' : (D.budget == -1) = false := by simpa using hm
    have hbn : (D.budget != -1) = true := by simpa using hm
    have HM := Lib.hid hm
    have h0 : D.budget ≠ 0 := by simpa using hb
    have hb1 : 1 ≤ D.budget := by omega
    clear h1 h2 h3 h4 h5 h hf hm hp h0
    go_enter Tryz.func75, Tryz.ntmps75
    go_wp2
    go_ret
    have : D.paid = { D with budget := D.budget - 1 } := by unfold Dk.paid; rw [if_neg HM.out]
    exact ⟨rfl, by rw [this]; exact HD.out.setBudget _ (by omega) (by omega), Only.setCell _ _ _ HD.out.self, by simp [World.setCell]⟩

/-! ### New -/
theorem infoSec : (Tryz.prog.info? 138).map (fun i => (i.zero, i.size, i.bytes)) = some (some (.agg (Array.replicate 128 (.int .u8 0))), 128, 128) := by kernel_rfl

theorem vals_zero : vals (List.replicate 128 0) = List.replicate 128 (.int .u8 0) := by simp [vals]

def FreshDisk (P : Value → Value) (D : Dk) (w : World) (e : Ending) (w' : World) : Prop :=
  ∃ g S, e = .returned (P (.pointer (some ⟨g, 0, none⟩))) ∧ DiskAt w' S g D ∧ Below w.heap.size w w' ∧ ∀ k, S k → w.heap.size ≤ k

theorem madeCells_const (m k j : Nat) (z : Value) (hm : 0 < m) (hj : j < k) : (madeCells (Array.replicate m z) k).toList[j]? = some z := by
  have h := Nat.mod_lt j hm
  simp [madeCells, hj, h]

theorem new_yes (n : Nat) (w : World) (h1 : 1 ≤ n) (h2 : n ≤ 2048) :
    Calls Tryz.prog 7 #[.int .i64 n] w (FreshDisk (fun v => .tuple #[v, .int .i64 0]) (Dk.new n) w) := by
  have hn1 : ¬ (n : Int) < 1 := by omega
  have hn2 : ¬ (2048 : Int) < n := by omega
  obtain ⟨i0, hi, hz0, hz1, hz2⟩ := info_parts infoSec
  have hmk : ∀ u, (Instr.makeSlice 84 (.int .i64 (n : Int)) (.int .i64 (n : Int))).run Tryz.prog u = .ok (.slice (some ⟨u.heap.size, 0, none⟩) n n) (u.alloc (.cells (madeCells (Array.replicate 128 (.int .u8 0)) (n * 128)) 138)) := fun u => by
    have := run_make u 84 138 i0 _ Tryz.underlying84 hi hz0 .i64 .i64 (n : Int) (n : Int) (by omega) (by omega) (by rw [hz2]; omega) (by omega)
    rw [hz1] at this
    simpa [Value.cells] using this
  have hmade : (madeCells (Array.replicate 128 (.int .u8 0)) (n * 128)).toList = (Dk.new n).secs.flatMap vals := by
    have h1 : ∀ x ∈ (Dk.new n).secs, (vals x).length = 128 := fun x hx => by
      simp only [Dk.new, List.mem_replicate] at hx; rw [hx.2, vals_length]; simp
    apply List.ext_getElem?
    intro j
    by_cases hj : j < n * 128
    · obtain ⟨q, r, hq, hr, rfl⟩ : ∃ q r, q < n ∧ r < 128 ∧ j = q * 128 + r := ⟨j / 128, j % 128, by omega, by omega, by omega⟩
      rw [flatMap_at (size := 128) _ h1 q r (List.replicate 128 0) (by simp only [Dk.new]; rw [List.getElem?_replicate, if_pos hq]) hr, vals_zero, madeCells_const _ _ _ _ (by omega) hj, List.getElem?_replicate, if_pos hr]
    · rw [List.getElem?_eq_none (by simp [size_madeCells]; omega), List.getElem?_eq_none (by rw [flatMap_len _ h1]; simp [Dk.new]; omega)]
  have hsz := size_madeCells (Array.replicate 128 (.int .u8 0)) (n * 128)
  have HM := Lib.hid hmade
  have HS := Lib.hid hsz
  clear hmade hsz hi hz0 hz1 hz2
  generalize madeCells (Array.replicate 128 (.int .u8 0)) (n * 128) = C at *
  go_enter Tryz.func7, Tryz.ntmps7
  go_wp2
  go_ret2
  have hall : ∀ x ∈ (Dk.new n).secs, x = List.replicate 128 0 := fun x hx => by
    simp only [Dk.new, List.mem_replicate] at hx; exact hx.2
  refine ⟨w.heap.size + 1, (fun k => k = w.heap.size ∨ k = w.heap.size + 1), rfl, ⟨.slice (some ⟨w.heap.size, 0, none⟩) n n, .slice none 0 0, Dk.ok_new n h1 h2, ?_, .inr rfl, ?_, ?_, Recs.nil _ _ _ _, ?_, ?_⟩, ?_, ?_⟩
  · rintro k (rfl | rfl) <;> (simp only [World.size_alloc]; omega)
  · exact heap_alloc2_new w _ _
  · refine ⟨fun x hx => ?_, fun x hx => ?_, ?_⟩
    · rw [hall x hx, vals_length]; simp
    · exact mem_vals_oneCell x
    · refine ⟨?_, .inr ⟨w.heap.size, n, C, ?_, Nat.zero_le _, heap_alloc2_old w _ _, ?_, ?_, HS.out, ?_⟩⟩
      · rw [← HM.out]; simp [HS.out, Dk.new]
      · simp [Dk.new]
      · simp [Dk.new]
      · unfold maxLen; omega
      · rw [← HM.out, List.take_of_length_le]; simp [HS.out, Dk.new]
  · intro k hk; simp [Value.ownBlock] at hk; exact .inl hk.symm
  · intro k hk; simp [Value.ownBlock] at hk
  · exact ((Below.refl _ _).alloc (Nat.le_refl _) _).alloc (by simp) _
  · rintro k (rfl | rfl) <;> omega

end Go.Proofs.YtjcmphjjkeigjaaGreat

namespace Go.Proofs.YtjcmphjjkeigjaaGreat
open Go.RowKit
set_option linter.unusedVariables false
set_option linter.unusedSimpArgs false

theorem infoWait : (Tryz.prog.info? 141).map (fun i => (i.zero, i.size, i.bytes)) = some (some (.agg (#[.int .i64 0] ++ Array.replicate 128 (.int .u8 0))), 129, 136) := by kernel_rfl
theorem sizeWait : (Tryz.prog.info? 141).map (·.size) = some 129 := by kernel_rfl
theorem infoWait' : (Tryz.prog.info? 141).map (fun i => (i.zero, i.size)) = some (some (.agg (#[.int .i64 0] ++ Array.replicate 128 (.int .u8 0))), 129) := by kernel_rfl
theorem infoSec' : (Tryz.prog.info? 138).map (fun i => (i.zero, i.size)) = some (some (.agg (Array.replicate 128 (.int .u8 0))), 128) := by kernel_rfl
theorem zeroWait : ∃ Z : Array Value, Z.size = 129 ∧ ∀ w, (zeroValue 141).run Tryz.prog w = .ok (.agg Z) w := ⟨_, by simp, (zero_of_info infoWait').1⟩
theorem zeroSec : ∃ Z : Array Value, Z.size = 128 ∧ ∀ w, (zeroValue 138).run Tryz.prog w = .ok (.agg Z) w := ⟨_, by simp, (zero_of_info infoSec').1⟩

theorem waitC_length (x : Nat × List UInt8) (h : x.2.length = 128) : (waitC x).length = 129 := by simp [waitC, vals_length, h]
theorem waitC_one (x : Nat × List UInt8) : ∀ u ∈ waitC x, u.oneCell' = true := by
  intro u hu
  simp only [waitC, List.mem_cons] at hu
  rcases hu with rfl | hu
  · rfl
  · exact mem_vals_oneCell _ u hu

/-- a write that waits, in a box of its own -/
theorem box_wait {w : World} {B : Nat} {x : Nat × List UInt8} (h : w.heap[B]? = some (.cells (waitC x).toArray 141 (0, 0))) :
    w.cell? ⟨B, 0, none⟩ = some (.int .i64 x.1) ∧ w.rangeAt B 1 (vals x.2) :=
  ⟨by rw [cell_of_row _ _ _ _ _ _ h]; simp [waitC], fun j u hu => by rw [cell_of_row _ _ _ _ _ _ h, ← Array.getElem?_toList, List.toList_toArray, waitC, Nat.add_comm, List.getElem?_cons_succ, hu]⟩

theorem Only.setCells {S : Nat → Prop} {w : World} {g o : Nat} {vs : List Value} (h : w.grownBy (w.setCells g o vs) (some g)) (hg : S g) : Only S w (w.setCells g o vs) :=
  Only.of_grown h fun k hk => by simp at hk; rw [← hk]; exact hg

/-- two blocks of different types differ -/
theorem Recs.ne_own {α β : Type} {f : α → List Value} {f' : β → List Value} {w : World} {e e' : TypeId} {n n' : Nat} {v v' : Value} {L : List α} {L' : List β} (h : Recs f w e n v L) (h' : Recs f' w e' n' v' L') (he : e ≠ e') (k : Nat) (hk : v.ownBlock = some k) : v'.ownBlock ≠ some k := by
  intro hk'
  obtain ⟨c, hc⟩ := h.blk k hk
  exact h'.ne_of hc (fun x => he x.symm) k hk' rfl

theorem DiskIs.putSec {w : World} {S : Nat → Prop} {g gs n caps : Nat} {D : Dk} {vw : Value} (h : DiskIs w S g D (.slice (some ⟨gs, 0, none⟩) n caps) vw) (i : Nat) (l : List UInt8) (hi : i < D.secs.length) (hl : l.length = 128) :
    DiskIs (w.setCells gs (i * 128) (vals l)) S g { D with secs := D.secs.set i l } (.slice (some ⟨gs, 0, none⟩) n caps) vw ∧ Only S w (w.setCells gs (i * 128) (vals l)) := by
  have hp := h.secs.put i hi l (by rw [vals_length]; exact hl) (mem_vals_oneCell l)
  have hgs : S gs := h.inS gs rfl
  have hne : g ≠ gs := fun e => h.secs.ne_of h.blk (by decide) gs rfl e.symm
  have hok : ({ D with secs := D.secs.set i l } : Dk).Ok := by
    refine ⟨fun s hs => ?_, fun x hx => ?_, h.ok.low, h.ok.high, by simpa using h.ok.one, by simpa using h.ok.many, h.ok.few⟩
    · rcases List.mem_or_eq_of_mem_set hs with hs | rfl
      · exact h.ok.sec s hs
      · exact hl
    · simpa using h.ok.wait x hx
  refine ⟨⟨hok, fun k hk => Nat.lt_of_lt_of_le (h.lt k hk) hp.2.size, h.self, ?_, hp.1, ?_, h.inS, h.inW⟩, Only.setCells hp.2 hgs⟩
  · rw [hp.2.block g (h.lt g h.self) (by simpa using hne)]; exact h.blk
  · exact h.waits.keep fun k hk => hp.2.block k (h.waits.lt k hk) (fun e => by
      injection e with e; subst e
      exact h.waits.ne_own h.secs (by decide) k hk rfl)

theorem DiskIs.noWaits {w : World} {S : Nat → Prop} {g : Nat} {D : Dk} {vs vw : Value} (h : DiskIs w S g D vs vw) (hok : ({ D with waits := [] } : Dk).Ok) : DiskIs (w.setCell ⟨g, 1, none⟩ (.slice none 0 0)) S g { D with waits := [] } vs (.slice none 0 0) := by
  refine ⟨hok, fun k hk => by simpa [World.setCell] using h.lt k hk, h.self, ?_, ?_, Recs.nil _ _ _ _, h.inS, fun k hk => by simp [Value.ownBlock] at hk⟩
  · rw [heap_setCell_same _ _ _ _ _ _ h.blk]; rfl
  · exact h.secs.keep fun k hk => heap_setCell_other _ _ _ _ (h.secs.ne_of h.blk (by decide) k hk)

set_option maxHeartbeats 1000000 in
set_option maxRecDepth 100000 in
theorem settle_any (F : FuncId) (cap : Array Value) (K : Nat → Bool) (g : Nat) (D : Dk) (S : Nat → Prop) (w : World) (h : DiskAt w S g D)
    (hE : ∀ args u, (callFunc F args).run Tryz.prog u = .ok (.enter F args) u)
    (hF : ∀ (k : Nat) u, k < D.waits.length → Only S w u → Calls Tryz.prog F (#[.int .i64 k] ++ cap) u fun e w' => e = .returned (.bool (K k)) ∧ u = w') :
    Calls Tryz.prog 69 #[.pointer (some ⟨g, 0, none⟩), .func (.func F) #[] cap] w (DiskTo (.tuple #[]) S g (D.settle K) w) := by
  obtain ⟨vs, vw, h⟩ := h
  have HD := Lib.hid h
  have HF := Lib.hid hF
  obtain ⟨c0, c1, c2, c3, hf⟩ := DiskAt.cells (S := S) h.blk
  obtain ⟨av, capv, rfl, hvl, hvm⟩ := h.waits.form
  obtain ⟨Z, hZ, hz⟩ := zeroWait
  have hmax : D.waits.length ≤ 1073741824 := h.ok.few
  have HZ := Lib.hid hZ
  clear h hF hf c0 c2 c3 hZ hvm
  go_enter Tryz.func69, Tryz.ntmps69
  go_wp2
  go_loopw [11] (fun i wr => ∃ k : Nat, k ≤ D.waits.length ∧ i = .int .i64 k ∧ DiskIs wr S g { D with secs := Dk.laid K (D.waits.take k) D.secs } vs (.slice av D.waits.length capv) ∧ Only S w wr) (fun i _ => D.waits.length - (intOf i).toNat)
  case atStart => exact ⟨0, Nat.zero_le _, rfl, HD.out, Only.refl _ _⟩
  case round =>
    obtain ⟨k, hk, rfl, hd, ho⟩ := hrel
    have HK := Lib.hid hd
    have HO := Lib.hid ho
    clear hd ho
    by_cases hlt : k < D.waits.length
    · obtain ⟨gw, capw, hv, _, _, hgw⟩ := HK.out.waits.form' (by exact Nat.lt_of_le_of_lt (Nat.zero_le _) hlt)
      simp only [Value.slice.injEq, true_and] at hv
      obtain ⟨rfl, rfl⟩ := hv
      have hx : D.waits[k]? = some D.waits[k] := List.getElem?_eq_getElem hlt
      have hr := HK.out.waits.rangeAt k _ hx
      have hlen := waitC_length D.waits[k] (HD.out.ok.wait _ (List.getElem_mem hlt)).2
      have HR := Lib.hid hr
      have HLEN := Lib.hid hlen
      have hlti : (k : Int) < (D.waits.length : Int) := by omega
      clear hr hlen hx
      have HZW := Lib.hid (show Z.size = (waitC D.waits[k]).toArray.size by rw [List.size_toArray]; exact HZ.out.trans HLEN.out.symm)
      have HSW := Lib.hid (show (Tryz.prog.info? 141).map (·.size) = some (waitC D.waits[k]).toArray.size by rw [List.size_toArray, HLEN.out]; exact sizeWait)
      have HSL := Lib.hid (show (Tryz.prog.info? 141).map (·.size) = some (waitC D.waits[k]).length by rw [HLEN.out]; exact sizeWait)
      go_upto_region 3 with (first
        | (refine wpList_load_mid rfl 141 _ rfl gw (k * 129) rfl (waitC D.waits[k]) _ HR.out Tryz.underlying141 rfl HSL.out ?_)
        | (refine wpList_store_row rfl 141 _ _ rfl wr.heap.size (waitC D.waits[k]).toArray rfl rfl 141 Z (heap_alloc_new wr _) HSW.out HZW.out (all_oneCell_toArray (waitC_one _)) ?_))
      have hbox := heap_setRow_same (wr.alloc (.cells Z 141)) wr.heap.size (waitC D.waits[k]).toArray Z 141 (heap_alloc_new wr _)
      have hbel : Below wr.heap.size wr ((wr.alloc (.cells Z 141)).setRow wr.heap.size (waitC D.waits[k]).toArray) := below_setRow ((Below.refl _ _).alloc (Nat.le_refl _) _) (Nat.le_refl _) _
      obtain ⟨cb0, rb1⟩ := box_wait hbox
      have HB := Lib.hid hbel
      have HR1 := Lib.hid rb1
      have HO1 := Lib.hid (HO.out.trans (Only.of_below (S := S) hbel) (fun i _ hi => hi))
      have HK1 := Lib.hid (HK.out.below hbel)
      clear hbox hbel rb1
      generalize (wr.alloc (.cells Z 141)).setRow wr.heap.size (waitC D.waits[k]).toArray = w1 at *
      have CF := Lib.hid (HF.out k w1 hlt HO1.out)
      have hwt := HD.out.ok.wait _ (List.getElem_mem hlt)
      have hlt2 := Dk.laid_take K D.waits D.secs k hlt
      cases hK : K k with
      | false =>
        rw [hK, if_neg (by simp)] at hlt2
        rw [hK] at CF
        have HLT := Lib.hid hlt2
        clear hK hlt2 hwt
        go_wp2_with fail
        refine (CF.out).mono ?_
        rintro e w2 ⟨rfl, rfl⟩
        go_wp2
        go_roundw
        case rel => exact ⟨k + 1, by omega, by go_num, by rw [HLT.out]; exact HK1.out, HO1.out⟩
        case measure => simp [intOf]; omega
      | true =>
        rw [hK, if_pos rfl] at hlt2
        rw [hK] at CF
        have HLT := Lib.hid hlt2
        have hsl : (vals D.waits[k].2).length = 128 := by rw [vals_length]; exact hwt.2
        have hat : D.waits[k].1 < (Dk.laid K (D.waits.take k) D.secs).length := by rw [Dk.laid_length]; exact hwt.1
        have HAT := Lib.hid hat
        obtain ⟨gs, caps, rfl, _, _, hgs⟩ := HK1.out.secs.form' (by exact Nat.lt_of_le_of_lt (Nat.zero_le _) hat)
        obtain ⟨d0, d1, _, _, df⟩ := DiskAt.cells (S := S) HK1.out.blk
        have hth := HK1.out.secs.there _ hat
        have HTH := Lib.hid hth
        have HSL := Lib.hid (show (Tryz.prog.info? 138).map (·.size) = some (vals D.waits[k].2).toArray.size by rw [List.size_toArray, hsl]; exact sizeSec)
        have hwa : (D.waits[k].1 : Int) < ((Dk.laid K (D.waits.take k) D.secs).length : Int) := by omega
        have HV := Lib.hid hsl
        have HWT := Lib.hid hwt.2
        clear hK hlt2 hwt hsl hat hth df
        generalize D.waits[k] = x at *
        obtain ⟨xa, xs⟩ := x
        dsimp only at *
        go_wp2_with fail
        refine (CF.out).mono ?_
        rintro e w2 ⟨rfl, rfl⟩
        go_wp2
        refine region_still_tail 9 (by kernel_rfl) (by kernel_rfl) ?_
        simp only [List.take_succ_cons, List.take_zero, List.drop_succ_cons, List.drop_zero]
        iterate 7 still_step
        refine still_load_mid rfl 138 _ rfl wr.heap.size 1 rfl (vals xs) _ (by simpa using HR1.out) Tryz.underlying138 rfl (by rw [HV.out]; exact sizeSec) ?_
        still_step
        refine wpStill_nil ?_
        go_wp2_with (refine wpList_store_mid rfl 138 _ _ rfl gs (xa * 128) (vals xs).toArray rfl rfl (by rw [List.size_toArray, HV.out]; simpa using HTH.out) HSL.out (vals_one _) ?_)
        go_roundw
        case rel =>
          refine ⟨k + 1, by omega, by go_num, ?_, ?_⟩
          · rw [HLT.out]
            exact ((HK1.out.below ((Below.refl _ _).drew)).putSec xa xs HAT.out HWT.out).1
          · exact (HO1.out.trans ((Only.drew (S := S) _).trans ((HK1.out.below ((Below.refl _ _).drew)).putSec xa xs HAT.out HWT.out).2 (fun _ _ h => h)) (fun _ _ h => h))
        case measure => simp [intOf]; omega
    · obtain rfl : k = D.waits.length := by omega
      obtain ⟨d0, d1, _, _, df⟩ := DiskAt.cells (S := S) HK.out.blk
      have df1 := df 1
      have HTK := Lib.hid (List.take_length (l := D.waits))
      clear df
      go_wp2
      go_end0
      have hd := HK.out
      rw [HTK.out] at hd
      exact ⟨rfl, S, ⟨_, _, hd.noWaits (HD.out.ok.settle K)⟩, HO.out.trans (Only.setCell _ _ _ hd.self) (fun _ _ h => h), fun i hi => .inl hi⟩

end Go.Proofs.YtjcmphjjkeigjaaGreat

namespace Go.Proofs.YtjcmphjjkeigjaaGreat
open Go.RowKit
set_option linter.unusedVariables false
set_option linter.unusedSimpArgs false

/-- a slice (address, length, capacity) reads as the records L -/
def CameAt {α : Type} (f : α → List Value) (size : Nat) (w : World) (a : Option Addr) (n cap : Nat) (L : List α) : Prop :=
  L.length = n ∧ n ≤ cap ∧ cap ≤ maxLen ∧ (∀ x ∈ L, (f x).length = size) ∧
    ((a = none ∧ n = 0 ∧ cap = 0) ∨ ∃ p, a = some p ∧ ∀ i j x, L[i]? = some x → j < size → w.cell? (p.add (i * size + j)) = (f x)[j]?)

section
variable {α : Type} {f : α → List Value} {size : Nat} {w w' : World} {a : Option Addr} {n cap : Nat} {L : List α}
theorem CameAt.nil (f : α → List Value) (size : Nat) (w : World) : CameAt f size w none 0 0 ([] : List α) := ⟨rfl, Nat.le_refl _, by simp, by simp, .inl ⟨rfl, rfl, rfl⟩⟩
theorem CameAt.keep (h : CameAt f size w a n cap L) (hs : 0 < size) (hk : ∀ p, a = some p → 0 < n → p.block < w.heap.size → w'.heap[p.block]? = w.heap[p.block]?) : CameAt f size w' a n cap L := by
  obtain ⟨h1, h2, h3, h4, h5⟩ := h
  refine ⟨h1, h2, h3, h4, ?_⟩
  rcases h5 with h5 | ⟨p, rfl, hp⟩
  · exact .inl h5
  · refine .inr ⟨p, rfl, fun i j x hi hj => ?_⟩
    have hc := hp i j x hi hj
    have hl := h4 x (List.mem_of_getElem? hi)
    rw [List.getElem?_eq_getElem (by omega)] at hc
    have hlt := block_lt hc
    rw [add_block] at hlt
    rw [World.cell?_of_block (w := w) (by rw [add_block]; exact hk p rfl (by have := (List.getElem?_eq_some_iff.1 hi).1; omega) hlt)]
    exact hp i j x hi hj
theorem CameAt.below (h : CameAt f size w a n cap L) (hs : 0 < size) (hb : Below w.heap.size w w') : CameAt f size w' a n cap L := h.keep hs fun p _ _ hlt => hb.block _ hlt
theorem CameAt.only {S : Nat → Prop} (h : CameAt f size w a n cap L) (hs : 0 < size) (ho : Only S w w') (hS : ∀ p, a = some p → 0 < n → ¬ S p.block) : CameAt f size w' a n cap L :=
  h.keep hs fun p hp hn hlt => ho.block _ hlt (hS p hp hn)
theorem CameAt.at (h : CameAt f size w a n cap L) (hn : 0 < n) (hs : 0 < size) :
    ∃ b off, a = some ⟨b, off, none⟩ ∧ b < w.heap.size ∧ ∀ i j x, L[i]? = some x → j < size → w.cell? ⟨b, off + (i * size + j), none⟩ = (f x)[j]? := by
  obtain ⟨h1, h2, h3, h4, h5⟩ := h
  rcases h5 with ⟨_, h0, _⟩ | ⟨p, rfl, hp⟩
  · omega
  · obtain ⟨b, off, spot⟩ := p
    have hx : L[0]? = some L[0] := List.getElem?_eq_getElem (by omega)
    have hc := hp 0 0 L[0] hx hs
    have hl := h4 L[0] (List.getElem_mem _)
    rw [List.getElem?_eq_getElem (by omega), Nat.zero_mul] at hc
    have hsp : spot = none := by simpa [Addr.add] using World.cell?_spot hc
    have hb := block_lt hc
    subst hsp
    refine ⟨b, off, rfl, by simpa [Addr.add] using hb, fun i j x hi hj => ?_⟩
    rw [← Addr.add_mid]
    exact hp i j x hi hj
end

/-! ### truth values -/
def boolC (b : Bool) : List Value := [.bool b]
def BoolsAt := CameAt boolC 1
theorem BoolsAt.cell {w : World} {a : Option Addr} {n cap : Nat} {L : List Bool} (h : BoolsAt w a n cap L) (hn : 0 < n) :
    ∃ b off, a = some ⟨b, off, none⟩ ∧ b < w.heap.size ∧ ∀ i, i < n → w.cell? ⟨b, off + i, none⟩ = some (.bool (L.getD i false)) := by
  obtain ⟨b, off, h1, h2, h3⟩ := CameAt.at h hn (by omega)
  refine ⟨b, off, h1, h2, fun i hi => ?_⟩
  have hx : L[i]? = some (L.getD i false) := by rw [List.getD, List.getElem?_eq_getElem (by have := h.1; omega)]; rfl
  have := h3 i 0 _ hx (by omega)
  simpa [boolC] using this

end Go.Proofs.YtjcmphjjkeigjaaGreat

namespace Go.Proofs.YtjcmphjjkeigjaaGreat
open Go.RowKit
set_option linter.unusedVariables false
set_option linter.unusedSimpArgs false

/-- the parts lie side by side from o on -/
def SideBy (pl : Nat → Option (Nat × Nat)) : Nat → List (Nat × Value) → Prop
  | _, [] => True
  | o, (i, v) :: r => pl i = some (o, v.cells.size) ∧ SideBy pl (o + v.cells.size) r

theorem fill_side (pl : Nat → Option (Nat × Nat)) : ∀ (parts : List (Nat × Value)) (pre old : List Value), SideBy pl pre.length parts → (parts.flatMap (·.2.cells.toList)).length ≤ old.length →
    Instr.fill pl (pre ++ old).toArray parts = some (pre ++ parts.flatMap (·.2.cells.toList) ++ old.drop (parts.flatMap (·.2.cells.toList)).length).toArray
  | [], pre, old, _, _ => by simp [Instr.fill]
  | (i, v) :: r, pre, old, h, hl => by
    obtain ⟨h1, h2⟩ := h
    simp only [List.flatMap_cons, List.length_append, Array.length_toList] at hl
    unfold Instr.fill
    rw [h1]
    simp only
    rw [if_neg (by simp; omega)]
    have hcs : (v.cells.zipIdx.foldl (fun cs (x : Value × Nat) => cs.setIfInBounds (pre.length + x.2) x.1) (pre ++ old).toArray) = ((pre ++ v.cells.toList) ++ old.drop v.cells.size).toArray := by
      rw [← Array.foldl_toList, Array.toList_zipIdx]
      obtain ⟨g1, g2⟩ := Great.foldl_set pre.length v.cells.toList 0 (pre ++ old).toArray
      apply Array.ext_getElem?
      intro k
      rw [g2 k]
      simp only [Nat.add_zero, Array.length_toList, List.size_toArray, List.length_append, List.getElem?_toArray]
      by_cases hk : k < pre.length
      · rw [if_neg (by omega), List.getElem?_append_left hk, List.append_assoc, List.getElem?_append_left hk]
      · by_cases hk2 : k < pre.length + v.cells.size
        · rw [if_pos ⟨by omega, hk2, by omega⟩, List.getElem?_append_left (by simp; omega), List.getElem?_append_right (by omega)]
        · rw [if_neg (by omega), List.getElem?_append_right (by omega), List.getElem?_append_right (by simp; omega), List.getElem?_drop]
          congr 1
          simp; omega
    rw [hcs]
    have := fill_side pl r (pre ++ v.cells.toList) (old.drop v.cells.size) (by simpa using h2) (by rw [List.length_drop]; omega)
    rw [this]
    simp [List.flatMap_cons, List.drop_drop]

theorem fill_whole (pl : Nat → Option (Nat × Nat)) (cells : Array Value) (parts : List (Nat × Value)) (h : SideBy pl 0 parts) (hl : (parts.flatMap (·.2.cells.toList)).length = cells.size) :
    Instr.fill pl cells parts = some (parts.flatMap (·.2.cells.toList)).toArray := by
  have := fill_side pl parts [] cells.toList h (by simp only [Array.length_toList]; omega)
  simp only [List.nil_append, Array.toArray_toList] at this
  rw [this, hl, List.drop_eq_nil_of_le (by simp), List.append_nil]

/-- a struct out of all its fields -/
theorem run_build_side {P : Program} (w : World) (t : TypeId) (parts : Array (Nat × Value)) (fields : Array Field) (places : List (Nat × Nat)) (it : TypeInfo) (z : Value)
    (hi : P.info? t = some it) (hz : it.zero = some z) (hu : P.underlying t = some (.struct fields))
    (hp : fields.toList.mapM (fun f => (P.info? f.type).map fun i => (f.offset, i.size)) = some places)
    (hs : SideBy (places.toArray[·]?) 0 parts.toList) (hl : (parts.toList.flatMap (·.2.cells.toList)).length = z.cells.size) :
    (Instr.build t parts).run P w = .ok (.agg (parts.toList.flatMap (·.2.cells.toList)).toArray) w := by
  refine run_build w _ _ _ ?_
  unfold Program.built
  simp only [hi, hu, hz, hp]
  exact fill_whole _ _ _ hs hl

/-- a slice of one element -/
theorem run_buildSlice_one {P : Program} (w : World) (t e : TypeId) (X : Array Value) (ie : TypeInfo) (z : Value) (n : Nat) (hu : P.underlying t = some (.slice e)) (hie : P.info? e = some ie) (hz : ie.zero = some z) (hn : ie.size = n)
    (hX : X.size = n) (hpos : 0 < n) (hsmall : n ≤ 2 ^ 24) :
    (Instr.buildSlice t 1 #[(0, .agg X)]).run P w = .ok (.slice (some ⟨w.heap.size, 0, none⟩) 1 1) (w.alloc (.cells X e)) := by
  subst hn
  refine run_buildSlice w t e 1 _ X ie z hu hie hz (by omega) (by omega) ?_
  have := fill_whole (fun i => some (i * ie.size, ie.size)) ((Array.range (1 * ie.size)).map (z.cells[· % z.cells.size]!)) [(0, .agg X)] ⟨by simp [Value.cells, hX], trivial⟩ (by simp [Value.cells, hX])
  simpa [Value.cells] using this

end Go.Proofs.YtjcmphjjkeigjaaGreat
