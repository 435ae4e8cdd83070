/-
  A piece of the proof, laid together by program: Rnd HtV PutRow HtX RefOct TrN JnRefC JnRefE JnEval Few JnPlay JnAll.
-/
import Derived.Test.YtjcmphjjkeigjaaGreatPbA
import Derived.Test.YtjcmphjjkeigjaaGreatPbB
import Derived.Test.YtjcmphjjkeigjaaGreatPbE
import Derived.Test.YtjcmphjjkeigjaaGreatPbG
import Derived.Test.YtjcmphjjkeigjaaGreatPbJ
import Derived.Test.YtjcmphjjkeigjaaGreatPbK
import Derived.Test.YtjcmphjjkeigjaaGreatPbL
import Derived.Test.YtjcmphjjkeigjaaGreatPbM
import Derived.RangeFuncCalls
import Derived.TacticsInMore
import Derived.OrdersIn
import Derived.Sort.CutIn
import Derived.Deep.Grids

namespace Go.Proofs.YtjcmphjjkeigjaaGreat
open Go.RowKit
set_option linter.unusedVariables false
set_option linter.unusedSimpArgs false

section
variable {P : Program} {ops : Array Oper} {Q : Exit → Act → World → Prop} {md : Region.Mode} {S : World → Prop}

theorem rows_wide {n : Nat} {row : String} {args : Array Value} {w : World} {R : Value → World → Prop} (l : Nat) (h : Rows P row args w R) : Go.RowsIn (Fence.wide.inRound l) n P row args w R := fun c cs _ => by
  obtain ⟨v, w', r, s⟩ := h c cs
  exact ⟨v, w', r, stepsIn_wide.2 s⟩
theorem wp_inRound {o : Oper} {a : Act} {w : World} {K : Act → World → Prop} (l n : Nat) (hd : ∀ c, o.op ≠ .defer c) (h : o.wp P a w K Q) : o.wpIn (Fence.wide.inRound l) n P a w K Q := by
  refine ⟨fun _ _ => trivial, ?_⟩
  rw [Fence.inRound_round, Oper.semAt_some _ _ _ hd]
  unfold Oper.wp at h
  generalize (execOp a.eval o).run P w = r at *
  cases r with
  | ok x w' =>
    cases x with
    | value v => exact h
    | skip => exact h
    | defer d => exact h
    | enter f args => exact ⟨fun hh => by simp [Fence.wide] at hh, CallsIn.inRound l (callsIn_wide.2 h)⟩
    | row r args => exact ⟨fun hh => by simp [Fence.wide] at hh, rows_wide l h⟩
    | _ => exact (h : False).elim
  | halt x w' =>
    cases x with
    | panic v => exact h
    | _ => exact (h : False).elim
theorem wpOp_inRound {i : Nat} {a : Act} {w : World} {K K' : Act → World → Prop} (l n : Nat) (hd : ∀ (j : Nat) (o : Oper) c, ops[j]? = some o → o.op ≠ .defer c) (hl : ¬ LetsOut Q) (hK : ∀ a w, K a w → K' a w)
    (h : wpOp P ops Q i K a w) : wpOpIn (Fence.wide.inRound l) n P ops Q i K' a w := by
  unfold wpOp at h
  unfold wpOpIn
  split
  · rename_i ho
    simp only [ho] at h
    exact hK _ _ h
  · rename_i o ho
    simp only [ho] at h
    split
    · rename_i hw
      simp only [hw, if_true] at h
      rcases h with h | ⟨_, h⟩
      · exact wp_inRound l n (fun c => hd i o c ho) (Oper.wp_mono hK h)
      · exact (hl h).elim
    · rename_i hw
      simp only [hw] at h
      exact ⟨fun _ _ => trivial, hK _ _ h⟩
theorem wpAny_inRound (l n : Nat) (hd : ∀ (j : Nat) (o : Oper) c, ops[j]? = some o → o.op ≠ .defer c) (hl : ¬ LetsOut Q) : ∀ (f : Nat) (listed : Array Bool) (a : Act) (w : World), wpAny P md ops Q f listed a w → wpAnyIn (Fence.wide.inRound l) n P md ops Q f listed a w
  | 0, _, _, _, h => h
  | f + 1, _, _, _, h => ⟨h.1, fun i hi => wpOp_inRound l n hd hl (fun a w hh => wpAny_inRound l n hd hl f _ a w hh) (h.2 i hi)⟩

def noDefer (l : List Oper) : Bool := l.all fun o => match o.op with
  | .defer _ => false
  | _ => true
theorem noDefer_spec {l : List Oper} (h : noDefer l = true) : ∀ (j : Nat) (o : Oper) c, l.toArray[j]? = some o → o.op ≠ .defer c := by
  intro j o c hj hc
  have hm : o ∈ l := by
    have : l[j]? = some o := by simpa using hj
    exact List.mem_of_getElem? this
  have := List.all_eq_true.1 h o hm
  rw [hc] at this
  cases this

theorem wpList_inRound (rl n : Nat) (hl : ¬ LetsOut Q) : ∀ (l : List Oper) (a : Act) (w : World), noDefer l = true → wpList P ops Q l a w → wpListIn (Fence.wide.inRound rl) n P ops Q l a w
  | [], _, _, _, h => h
  | o :: l, a, w, hd, h => by
    have hd1 : ∀ c, o.op ≠ .defer c := fun c hc => by
      have := List.all_eq_true.1 hd o List.mem_cons_self
      rw [hc] at this
      cases this
    have hd2 : noDefer l = true := List.all_eq_true.2 fun x hx => List.all_eq_true.1 hd x (List.mem_cons_of_mem _ hx)
    unfold wpList at h
    unfold wpListIn
    split
    · rename_i hw
      rw [if_pos hw] at h
      rcases h with h | ⟨_, h⟩
      · exact wp_inRound rl n hd1 (Oper.wp_mono (fun a w hh => wpList_inRound rl n hl l a w hd2 hh) h)
      · exact (hl h).elim
    · rename_i hw
      rw [if_neg hw] at h
      exact ⟨fun _ _ => trivial, wpList_inRound rl n hl l _ w hd2 h⟩
/-- a region that does not draw, within a round, walked as elsewhere -/
theorem region_list_in {id : Nat} {a : Act} {w : World} {l : List Oper} (rl rn : Nat) (hl : ¬ LetsOut Q) (hdf : noDefer l = true) (h : wpList P l.toArray Q l a w) : (Code.region id l.toArray false).wpIn (Fence.wide.inRound rl) rn P Q a w :=
  wpIn_region_lit (wpList_inRound rl rn hl l a w hdf h)
/-- an operation that yields a value -/
theorem wpList_value {rest : List Oper} {o : Oper} {a : Act} {w : World} (hg : o.guard = none) (v : Value) (hv : (execOp a.eval o).run P w = .ok (.value v) w) (h : wpList P ops Q rest (a.put o.dst v) w) : wpList P ops Q (o :: rest) a w :=
  wpList_plain hg fun K hK => by
    unfold Oper.wp
    rw [hv]
    exact hK _ _ h
theorem exec_slice {o : Oper} {a : Act} {w : World} (t : TypeId) (x : Operand) (lo hi : Option Operand) (ho : o.op = .slice t x lo hi none) (v r : Value) (hx : a.eval x = v) (l' h' : Option Value) (hl : lo.map a.eval = l') (hh : hi.map a.eval = h')
    (hr : (Instr.sliceAt t v l' h' none).run P w = .ok r w) : (execOp a.eval o).run P w = .ok (.value r) w := by
  unfold execOp
  simp only [ho, hx, hl, hh, Option.map_none, Sem.run_bind, hr, Result.andThen_ok]
  rfl

/-- THE LAW, within a round -/
theorem region_head_in {id : Nat} {a : Act} {w : World} {l : List Oper} (rl rn : Nat) (n : Nat) (order M : List Nat) (S : World → Prop) (hl : ¬ LetsOut Q) (hdf : noDefer l = true) (hm : P.follows .mixedOrders = true) (hB : headB .any l.toArray n order M = true) (hS : S w.drew)
    (h : wpSeqH P l.toArray Q S M (fun a' w' => wpList P l.toArray Q (l.drop n) a' w') (pickO l order) a w.drew) : (Code.region id l.toArray true).wpIn (Fence.wide.inRound rl) rn P Q a w := by
  simp only [headB, Bool.and_eq_true, decide_eq_true_eq, List.all_eq_true, List.mem_range, Bool.or_eq_true] at hB
  obtain ⟨⟨⟨⟨hB1, hB2⟩, hlen⟩, hB3⟩, hB4⟩ := hB
  have hn : n ≤ l.length := by simpa using hB2
  have hg : l.toArray.size = n + (l.toArray.size - n) := by simp; omega
  have key : wpAny P .any l.toArray Q (n + (l.toArray.size - n)) (Array.replicate l.toArray.size false) a w.drew := by
    refine wpAny_of_hd (n := n) (S := S) (L := fun listed' a' w' => Region.seqB .any l.toArray (l.toArray.size - n) n listed' = true ∧ wpList P l.toArray Q (l.drop n) a' w') ?_ n _ a _ ?_
    · intro listed a' w' ⟨h1, h2⟩
      have hd : (l.drop n).length = l.toArray.size - n := by simp
      rw [← hd] at h1 ⊢
      exact wpAny_of_seq (l.drop n) n listed a' w' (fun j => by simp [List.getElem?_drop]) h1 h2
    · have := wpHd_lex (P := P) (Q := Q) (S := S) (n := n) (g := l.toArray.size - n) (M := M) (Lq := fun a' w' => wpList P l.toArray Q (l.drop n) a' w') (md := .any) (ops := l.toArray) (l0 := l) rfl hB2 hB1
        (fun i hi t ht1 ht2 => ((hB3 t ht2).resolve_left (by omega)) i hi) order (Array.replicate l.toArray.size false) a w.drew hS hB4 h
      rw [hlen] at this
      exact this
  rw [← hg] at key
  exact wpIn_region_any hm (wpAny_inRound rl rn (noDefer_spec hdf) hl _ _ _ _ key)
end

end Go.Proofs.YtjcmphjjkeigjaaGreat

namespace Go.Proofs.YtjcmphjjkeigjaaGreat
open Go.RowKit
set_option linter.unusedVariables false
set_option linter.unusedSimpArgs false
set_option maxRecDepth 100000

theorem sizeInt : ∀ w, (sizeOf 3).run Tryz.prog w = .ok 1 w := fun w => by
  obtain ⟨i0, hi, _, hz1, _⟩ := info_parts infoIntS
  simp [sizeOf, typeInfo, hi, hz1]
theorem elemInt : Tryz.prog.underlying 78 = some (.slice (Tryz.prog.elem 78)) := by kernel_rfl
theorem addr_add (p : Addr) (k j : Nat) : (p.add k).add j = p.add (k + j) := by
  unfold Addr.add
  by_cases hk : k = 0 <;> by_cases hj : j = 0 <;> simp [hk, hj, Nat.add_assoc]
theorem ints_cut {w : World} {a : Option Addr} {n cap m : Nat} {L : List Int} (k : Nat) (h : IntsAt w a n cap L) (hm : k + m ≤ n) {a' : Option Addr} {c' : Nat} (ha : ∀ p, a = some p → ∃ q, a' = some q ∧ q.block = p.block ∧ ∀ j, j < m → q.add j = p.add (k + j)) (hn : a = none → a' = none ∧ c' = 0) (hc : m ≤ c') (hc2 : c' ≤ maxLen) : IntsAt w a' m c' ((L.drop k).take m) := by
  obtain ⟨h1, h2, h3, h4, h5⟩ := h
  refine ⟨by rw [List.length_take, List.length_drop]; omega, hc, hc2, fun x hx => h4 x (List.mem_of_mem_drop (List.mem_of_mem_take hx)), ?_⟩
  rcases h5 with ⟨rfl, h5, h6⟩ | ⟨p, rfl, h5⟩
  · have := hn rfl
    exact .inl ⟨this.1, by omega, this.2⟩
  · obtain ⟨q, rfl, hq, hadd⟩ := ha p rfl
    refine .inr ⟨q, rfl, fun i j x hx hj => ?_⟩
    have hj0 : j = 0 := by omega
    subst hj0
    have hi := (List.getElem?_eq_some_iff.1 hx).1
    rw [List.length_take, List.length_drop] at hi
    have hx2 : L[k + i]? = some x := by
      rw [List.getElem?_take] at hx
      split at hx
      · rwa [List.getElem?_drop] at hx
      · cases hx
    have := h5 (k + i) 0 x hx2 (by omega)
    rw [show i * 1 + 0 = i by omega, hadd i (by omega)]
    rw [show (k + i) * 1 + 0 = k + i by omega] at this
    exact this
theorem ints_from {w : World} {a : Option Addr} {n cap : Nat} {L : List Int} (k : Nat) (h : IntsAt w a n cap L) (hk : k ≤ n) :
    ∃ a' c', (∀ u, (Instr.sliceAt 78 (.slice a n cap) (some (.int .i64 k)) none none).run Tryz.prog u = .ok (.slice a' (n - k) c') u) ∧ (∀ u, IntsAt u a n cap L → IntsAt u a' (n - k) c' (L.drop k)) ∧ ∀ p, a' = some p → ∃ q, a = some q ∧ p.block = q.block := by
  refine ⟨if cap = k then a else a.map (·.add (k * 1)), cap - k, fun u => ?_, fun u hu => ?_, fun p hp => ?_⟩
  · rw [run_sliceAt_slice (h := elemInt), run_slice_l (ht := elemInt) (h0 := by omega) (h1 := by omega)]
    show ((sizeOf 3).run Tryz.prog u).andThen _ = _
    rw [sizeInt]
    simp only [Result.andThen, sliced, Int.toNat_natCast]
  · have hL : L.length = n := hu.1
    have hcap := hu.2.1
    have hmx := hu.2.2.1
    have := ints_cut (m := n - k) (a' := if cap = k then a else a.map (·.add (k * 1))) (c' := cap - k) k hu (by omega) (fun p hp => ?_) (fun hn => ?_) (by omega) (by omega)
    · rwa [List.take_of_length_le (by rw [List.length_drop]; omega)] at this
    · split
      · exact ⟨p, hp, rfl, fun j hj => by omega⟩
      · refine ⟨p.add (k * 1), by rw [hp]; rfl, by rw [add_block], fun j hj => ?_⟩
        rw [Nat.mul_one]
        exact addr_add p k j
    · subst hn
      rcases hu.2.2.2.2 with ⟨_, h5, h6⟩ | ⟨x, hx, _⟩
      · exact ⟨by split <;> rfl, by omega⟩
      · cases hx
  · split at hp
    · exact ⟨p, hp, rfl⟩
    · cases a with
      | none => cases hp
      | some q => cases hp; exact ⟨q, rfl, add_block _ _⟩
theorem ints_head {w : World} {a : Option Addr} {n cap : Nat} {L : List Int} (m : Nat) (h : IntsAt w a n cap L) (hm : m ≤ n) :
    ∃ a', (∀ u, (Instr.sliceAt 78 (.slice a n cap) none (some (.int .i64 m)) none).run Tryz.prog u = .ok (.slice a' m cap) u) ∧ (∀ u, IntsAt u a n cap L → IntsAt u a' m cap (L.take m)) ∧ ∀ p, a' = some p → ∃ q, a = some q ∧ p.block = q.block := by
  have hcp := h.2.1
  refine ⟨if cap = 0 then a else a.map (·.add (0 * 1)), fun u => ?_, fun u hu => ?_, fun p hp => ?_⟩
  · rw [run_sliceAt_slice (h := elemInt), run_slice_h (ht := elemInt) (h0 := by omega) (h2 := by omega)]
    show ((sizeOf 3).run Tryz.prog u).andThen _ = _
    rw [sizeInt]
    simp only [Result.andThen, sliced, Int.toNat_natCast, Nat.sub_zero]
  · have := ints_cut (m := m) (a' := if cap = 0 then a else a.map (·.add (0 * 1))) (c' := cap) 0 hu (by omega) (fun p hp => ?_) (fun hn => ?_) (by omega) hu.2.2.1
    · rwa [List.drop_zero] at this
    · split
      · exact ⟨p, hp, rfl, fun j hj => by rw [Nat.zero_add]⟩
      · refine ⟨p.add (0 * 1), by rw [hp]; rfl, by rw [add_block], fun j hj => ?_⟩
        rw [Nat.mul_one]
        exact addr_add p 0 j
    · subst hn
      rcases hu.2.2.2.2 with ⟨_, h5, h6⟩ | ⟨x, hx, _⟩
      · exact ⟨by split <;> rfl, by omega⟩
      · cases hx
  · split at hp
    · exact ⟨p, hp, rfl⟩
    · cases a with
      | none => cases hp
      | some q => cases hp; exact ⟨q, rfl, add_block _ _⟩

end Go.Proofs.YtjcmphjjkeigjaaGreat

namespace Go.Proofs.YtjcmphjjkeigjaaGreat
open Go.RowKit
set_option linter.unusedVariables false
set_option linter.unusedSimpArgs false

section
variable {w wr w1 w2 : World} {v v' : Value} {M : List PutM}
end

/-- one put in a block of its own: what append reads -/
theorem put_news {w : World} {B : Nat} {i : Int} {a : Option Addr} {n cap : Nat} {l : List UInt8} {t : TypeId} {fr : Nat × Nat} (h : w.heap[B]? = some (.cells (putV i a n cap) t fr)) : ∀ j u, ([(⟨i, a, n, cap, l⟩ : PutM)].flatMap putC)[j]? = some u → w.cell? ((⟨B, 0, none⟩ : Addr).add j) = some u := by
  intro j u hj
  rw [Addr.add_mid, Nat.zero_add, cell_of_row _ _ _ _ _ _ h]
  simpa [putC, putV] using hj

end Go.Proofs.YtjcmphjjkeigjaaGreat

namespace Go.Proofs.YtjcmphjjkeigjaaGreat
open Go.RowKit Go.Shelf
set_option linter.unusedVariables false
set_option linter.unusedSimpArgs false
set_option maxRecDepth 100000
attribute [local go_sem] Oper.semAt_some

/-- what a round keeps: what lay below n₀, the two boxes of the iterator -/
def KpC (n₀ Bs Bn : Nat) (W W' : World) : Prop := Below n₀ W W' ∧ W'.heap[Bs]? = W.heap[Bs]? ∧ W'.heap[Bn]? = W.heap[Bn]?
theorem kpc_refl (n₀ Bs Bn : Nat) (W : World) : KpC n₀ Bs Bn W W := ⟨Below.refl _ _, rfl, rfl⟩
theorem kpc_t {n₀ Bs Bn : Nat} {A B C : World} (h : KpC n₀ Bs Bn A B) (k : KpC n₀ Bs Bn B C) : KpC n₀ Bs Bn A C := ⟨h.1.trans k.1, k.2.1.trans h.2.1, k.2.2.trans h.2.2⟩
theorem kpc_b {n₀ Bs Bn : Nat} {w : World} (hn : n₀ ≤ w.heap.size) (hB : Bs < w.heap.size) (hN : Bn < w.heap.size) (W : World) (l : Nat) (o o' : Obj) (hl : w.heap.size ≤ l) (h : W.heap[l]? = some o) (h1 : o.isCells = false) (h2 : o.isWalk = false) : KpC n₀ Bs Bn W (W.putObj l o') :=
  ⟨belowK_b (w := w) hn W l o o' hl h h1 h2, World.putObj_heap_other (by omega), World.putObj_heap_other (by omega)⟩

set_option maxHeartbeats 2000000 in
/-- the parts, one by one: for every loop body that keeps what lay below n₀ -/
theorem chunkC1_in (n' : Nat) (hn : 1 ≤ n') (l Bs Bn n₀ b off n cap m : Nat) (hm : 0 < m) (hm2 : m ≤ 200) (h0n : 0 < n) (hnm : n ≤ 100000) (hcap : n ≤ cap) (hcm : cap ≤ maxLen) (J Jx : List (Fin (cntP n m)) → World → Prop)
    (hY : ∀ pre (x : Fin (cntP n m)) W, J pre W → pre.length < cntP n m → YieldAt Fence.wide (n' - 1) Tryz.prog l #[prtBV b off n m x.1] W fun e W' =>
      (e = .returned (.bool true) ∧ J (pre ++ [x]) W' ∧ KpC n₀ Bs Bn W W') ∨ (e = .returned (.bool false) ∧ Jx (pre ++ [x]) W'))
    (W : World) (hJ : AbidesFrom W.heap.size J) (hBs : W.heap[Bs]? = some (.cells #[.slice (some ⟨b, off, none⟩) n cap] 49 (0, 0))) (hBn : W.heap[Bn]? = some (.cells #[.int .i64 (m : Int)] 3 (0, 0)))
    (h0 : J [] W) :
    CallsIn Fence.wide n' Tryz.prog 173 #[.func (.yield l) #[] #[], .pointer (some ⟨Bs, 0, none⟩), .pointer (some ⟨Bn, 0, none⟩)] W fun e W' => (∃ v, e = .returned v) ∧
      ((∃ ys : List (Fin (cntP n m)), ys.map (·.1) = List.range (cntP n m) ∧ J ys W') ∨ (∃ pre : List (Fin (cntP n m)), True ∧ Jx pre W')) := by
  have HY := Lib.hid hY
  have HJ := Lib.hid hJ
  have HC := Lib.hid (fun j => cntP_lt (n := n) (m := m) (j := j) hm)
  have HBS := Lib.hid hBs
  have HBN := Lib.hid hBn
  unfold maxLen at hcm
  clear hY hJ hBs hBn
  have f34 : Fence.wide.fn 173 := trivial
  refine callsIn_of_wp Tryz.func173 rfl f34 ?_ rfl
  simp only [Tryz.ntmps173, List.size_toArray, List.length_cons, List.length_nil, Nat.reduceAdd, Nat.reduceSub, Array.replicate_succ, Array.replicate_zero, List.push_toArray, List.append_toArray, List.nil_append, List.cons_append]
  gi_wp2
  gi_loopw [4] (fun i wr => ∃ (q j : Nat) (pre : List (Fin (cntP n m))), q = m * j ∧ j ≤ cntP n m ∧ i = .int .i64 (q : Int) ∧ pre.map (·.1) = List.range j ∧ J pre wr ∧ KpC n₀ Bs Bn W wr ∧ W.heap.size ≤ wr.heap.size)
    (fun i _ => n + m - (intOf i).toNat)
  case atStart => exact ⟨0, 0, [], rfl, Nat.zero_le _, rfl, rfl, h0, kpc_refl _ _ _ _, Nat.le_refl _⟩
  case round =>
    obtain ⟨q, j, pre, hq, hj, rfl, hpre, hJs, hb, hsz⟩ := hrel
    have bS := hb.2.1.trans HBS.out
    have bN := hb.2.2.trans HBN.out
    have cS : wr.cell? ⟨Bs, 0, none⟩ = some (.slice (some ⟨b, off, none⟩) n cap) := by rw [cell_of_row _ _ _ _ _ _ bS]; rfl
    have cN : wr.cell? ⟨Bn, 0, none⟩ = some (.int .i64 (m : Int)) := by rw [cell_of_row _ _ _ _ _ _ bN]; rfl
    have HP := Lib.hid hpre
    have HQ := Lib.hid hq
    have HB := Lib.hid hb
    have HJs := Lib.hid hJs
    clear bS bN hpre hb hq hJs
    by_cases hlt : q < n
    · have hjc : j < cntP n m := (HC.out j).2 (by rw [← HQ.out]; exact hlt)
      have hqi : (q : Int) < n := by omega
      obtain ⟨d, hd⟩ : ∃ d, min m (n - q) = d := ⟨_, rfl⟩
      have hd1 : 1 ≤ d ∧ d ≤ m ∧ q + d ≤ n := by omega
      have hd2 : min (m : Int) ((n : Int) - (q : Int)) = (d : Int) := by omega
      have hpv : prtBV b off n m j = .slice (some ⟨b, off + q, none⟩) d d := by unfold prtBV; rw [← HQ.out, hd]
      have hJ2 : J pre wr.drew := HJ.out pre wr wr.drew none HJs.out (grown_below ((Below.refl _ _).drew)) (fun r e => by cases e)
      have hyy := HY.out pre ⟨j, hjc⟩ wr.drew hJ2 (by have h1 := congrArg List.length HP.out; rw [List.length_map, List.length_range] at h1; omega)
      rw [hpv] at hyy
      have HYY := Lib.hid hyy
      have HD2 := Lib.hid hd2
      have HD := Lib.hid hd
      clear hd2 hd hyy hpv hJ2
      gi_wp2
      refine wpIn_wide.2 ?_
      refine region_head 7 [0, 1, 2, 3, 4, 5, 6] [] (fun u => u.cell? ⟨Bs, 0, none⟩ = some (.slice (some ⟨b, off, none⟩) n cap) ∧ u.cell? ⟨Bn, 0, none⟩ = some (.int .i64 (m : Int))) (by kernel_rfl) (by kernel_rfl) ⟨cS, cN⟩ ?_
      simp only [pickO, List.filterMap_cons, List.filterMap_nil, List.getElem?_cons_zero, List.getElem?_cons_succ, Option.map_some, List.drop_succ_cons, List.drop_zero]
      have hqn : q ≤ n := by omega
      have hcq : ¬ cap = q := by omega
      have hdN : min (m : Int) (((n - q : Nat)) : Int) = (d : Int) := by have := HD2.out; omega
      iterate 3
        refine seqH_read _ rfl rfl (by rintro u ⟨hu1, hu2⟩; go_simp; with_reducible rfl) ?_
        try simp only [Act.put, List.setIfInBounds_toArray, List.set_cons_zero, List.set_cons_succ]
      refine seqH_read (.slice (some ⟨b, off + q, none⟩) (n - q) (cap - q)) rfl rfl (by rintro u ⟨hu1, hu2⟩; go_simp; try rw [if_pos hqn, if_neg hcq]) ?_
      try simp only [Act.put, List.setIfInBounds_toArray, List.set_cons_zero, List.set_cons_succ]
      generalize n - q = r at *
      generalize cap - q = rc at *
      refine seqH_read (.int .i64 (r : Int)) rfl rfl (by rintro u ⟨hu1, hu2⟩; go_simp; try with_reducible rfl) ?_
      try simp only [Act.put, List.setIfInBounds_toArray, List.set_cons_zero, List.set_cons_succ]
      refine seqH_read (.int .i64 (d : Int)) rfl rfl (by rintro u ⟨hu1, hu2⟩; go_simp; try rw [hdN]) ?_
      try simp only [Act.put, List.setIfInBounds_toArray, List.set_cons_zero, List.set_cons_succ]
      refine seqH_read _ rfl rfl (by rintro u ⟨hu1, hu2⟩; go_simp; with_reducible rfl) ?_
      try simp only [Act.put, List.setIfInBounds_toArray, List.set_cons_zero, List.set_cons_succ]
      refine seqH_nil ?_
      have cS2 : wr.drew.cell? ⟨Bs, 0, none⟩ = some (.slice (some ⟨b, off, none⟩) n cap) := cS
      have cN2 : wr.drew.cell? ⟨Bn, 0, none⟩ = some (.int .i64 (m : Int)) := cN
      have hbd : KpC n₀ Bs Bn W wr.drew := ⟨HB.out.1.drew, HB.out.2.1, HB.out.2.2⟩
      have hszd : W.heap.size ≤ wr.drew.heap.size := hsz
      clear hdN cS cN
      generalize wr.drew = wd at *
      obtain ⟨fn, tmps, assign, body, hy, hRn⟩ := HYY.out
      have HBD := Lib.hid hbd
      clear hbd HYY
      have hqd : q ≤ q + d := by omega
      have hqdc : q + d ≤ cap := by omega
      go_wp2
      gi_wp2
      refine hRn.mono ?_
      rintro e W3 (⟨rfl, hJ3, hk3⟩ | ⟨rfl, hJx3⟩)
      · have hb3 := kpc_t HBD.out hk3
        have hs3 : W.heap.size ≤ W3.heap.size := Nat.le_trans hszd hk3.1.size
        have bN := hb3.2.2.trans HBN.out
        have cN : W3.cell? ⟨Bn, 0, none⟩ = some (.int .i64 (m : Int)) := by rw [cell_of_row _ _ _ _ _ _ bN]; rfl
        have HB3 := Lib.hid hb3
        clear hb3 bN cS2 cN2
        gi_wp2
        go_roundw
        case rel => exact ⟨q + m, j + 1, pre ++ [⟨j, hjc⟩], by rw [HQ.out, Nat.mul_add, Nat.mul_one], by omega, by go_num, by rw [List.map_append, HP.out, List.range_succ]; rfl, hJ3, HB3.out, hs3⟩
        case measure => simp [intOf]; omega
      · gi_wp2
        refine bodyPost_ret (results_none rfl _ _ _) rfl ?_
        exact ⟨⟨_, rfl⟩, .inr ⟨_, trivial, hJx3⟩⟩
    · have hjc : j = cntP n m := by
        have : ¬ j < cntP n m := fun h => hlt (by rw [HQ.out]; exact (HC.out j).1 h)
        omega
      subst hjc
      have hqi : ¬ (q : Int) < n := by omega
      gi_wp2
      go_end0
      exact ⟨⟨_, rfl⟩, .inl ⟨pre, HP.out, HJs.out⟩⟩

theorem chunkC_stops (n' : Nat) (hn : 1 ≤ n') (Bs Bn n₀ b off n cap m : Nat) (a : Option Addr) (ha : 0 < n → a = some ⟨b, off, none⟩) (hm : 0 < m) (hm2 : m ≤ 200) (hnm : n ≤ 100000) (hcap : n ≤ cap) (hcm : cap ≤ maxLen) (w : World)
    (hBs : w.heap[Bs]? = some (.cells #[.slice a n cap] 49 (0, 0))) (hBn : w.heap[Bn]? = some (.cells #[.int .i64 (m : Int)] 3 (0, 0))) :
    SeqStopsK Fence.wide n' Tryz.prog 173 #[.pointer (some ⟨Bs, 0, none⟩), .pointer (some ⟨Bn, 0, none⟩)] (fun x : Fin (cntP n m) => #[prtBV b off n m x.1]) (KpC n₀ Bs Bn)
      (fun ys => ys.map (·.1) = List.range (cntP n m)) (fun _ => True) (cntP n m) w := fun l J Jx W hW hJ _ hY h0 => by
  have hbS := (hW.block Bs (Array.getElem?_eq_some_iff.1 hBs).1).trans hBs
  have hbN := (hW.block Bn (Array.getElem?_eq_some_iff.1 hBn).1).trans hBn
  rcases Nat.eq_zero_or_pos n with h | h
  · subst h
    exact chunkB1_none n' hn l Bs Bn cap m a hm J Jx W hbS h0
  · rw [ha h] at hbS
    exact chunkC1_in n' hn l Bs Bn n₀ b off n cap m hm hm2 h hnm hcap hcm J Jx hY W hJ hbS hbN h0

theorem bytes_part {w : World} {b off n cap at_ m : Nat} {l : List UInt8} (h : BytesAt w (some ⟨b, off, none⟩) n cap l) (hm : at_ + m ≤ n) : BytesAt w (some ⟨b, off + at_, none⟩) m m ((l.drop at_).take m) := by
  obtain ⟨h1, h2, h3, h4⟩ := h
  refine ⟨by rw [List.length_take, List.length_drop]; omega, Nat.le_refl _, by omega, .inr ⟨_, rfl, fun i hi => ?_⟩⟩
  rcases h4 with ⟨h4, _⟩ | ⟨x, hx, h4⟩
  · cases h4
  · cases hx
    have := h4 (at_ + i) (by omega)
    rw [Addr.add_mid] at this ⊢
    rw [Nat.add_assoc, this]
    rw [List.getD, List.getD, List.getElem?_take, if_pos hi, List.getElem?_drop]
/-- a put of place k with the j-th part -/
def blobPutX (data : List UInt8) (pages : List Nat) (k j : Nat) : Pt := (((42 + pages.getD k 0 : Nat) : Int), padL (leB 2 (linkN (pages.drop (k + 1))) ++ (data.drop (126 * j)).take 126))
theorem blobPutX_same (data : List UInt8) (pages : List Nat) (k : Nat) : blobPutX data pages k k = blobPut data pages k := rfl
def putsX (data : List UInt8) (pages : List Nat) (js : List Nat) : List Pt := js.zipIdx.map fun x => blobPutX data pages x.2 x.1
theorem putsX_snoc (data : List UInt8) (pages : List Nat) (js : List Nat) (j : Nat) : putsX data pages (js ++ [j]) = putsX data pages js ++ [blobPutX data pages js.length j] := by
  unfold putsX
  rw [List.zipIdx_append, List.map_append]
  simp
theorem putsX_all (data : List UInt8) (pages : List Nat) (n : Nat) : putsX data pages (List.range n) = (List.range n).map (blobPut data pages) := by
  unfold putsX
  refine List.ext_getElem (by simp) fun i h1 h2 => ?_
  simp [blobPutX_same]

theorem recs_kept {α : Type} {f : α → List Value} {X Y : World} {row : Option Nat} {e : TypeId} {sz : Nat} {v : Value} {L : List α} (h : Recs f X e sz v L) (hg : X.grownBy Y row) (hr : ∀ r, row = some r → ∃ o : Obj, X.heap[r]? = some o ∧ o.isCells = false) : Recs f Y e sz v L :=
  h.keep fun k hk => by
    obtain ⟨cur, hc⟩ := h.blk k hk
    refine hg.block k (h.lt k hk) fun e => ?_
    obtain ⟨o, ho, hno⟩ := hr k e.symm
    rw [hc] at ho; cases ho; cases hno
theorem recs_putObj {α : Type} {f : α → List Value} {X : World} {e : TypeId} {sz : Nat} {v : Value} {L : List α} {D : Nat} {o o' : Obj} (h : Recs f X e sz v L) (hD : X.heap[D]? = some o) (hno : o.isCells = false) : Recs f (X.putObj D o') e sz v L :=
  h.keep fun k hk => by
    obtain ⟨cur, hc⟩ := h.blk k hk
    refine World.putObj_heap_other fun e => ?_
    subst e
    rw [hD] at hc; cases hc; cases hno
structure BpI (w : World) (pa : Option Addr) (pn pc : Nat) (data : List UInt8) (pages : List Nat) (c : Nat) (pre : List (Fin c)) (W : World) : Prop where
  x0 : W.heap[w.heap.size]? = some (.cells #[.slice pa pn pc] 78 (0, 0))
  out : ∃ av cv N, W.heap[w.heap.size + 1]? = some (.cells #[.slice av pre.length cv] 104 (0, 0)) ∧ PutsO W (w.heap.size + 4) (.slice av pre.length cv) N ∧ N.map PutM.pt = putsX data pages (pre.map (·.1))
  bel : Below w.heap.size w W
  sz : w.heap.size + 4 ≤ W.heap.size
theorem BpI.own {w : World} {B0 : Nat} {pa : Option Addr} {pn pc : Nat} {data : List UInt8} {pages : List Nat} {c : Nat} (hB : w.heap.size ≤ B0) : OwnFrom B0 (BpI w pa pn pc data pages c) := by
  intro pre X Y row h hg hr
  have hr' : ∀ r, row = some r → ∃ o : Obj, X.heap[r]? = some o ∧ o.isCells = false := fun r e => (hr r e).2
  obtain ⟨av, cv, N, h5, h6, h7⟩ := h.out
  exact ⟨cells_kept h.x0 hg hr', ⟨av, cv, N, cells_kept h5 hg hr', ⟨recs_kept h6.recs hg hr', h6.own, fun x hx => recs_kept (h6.oct x hx) hg hr'⟩, h7⟩, h.bel.grown hg h.bel.size (fun k e => Nat.le_trans hB (hr k e).1), Nat.le_trans h.sz hg.size⟩

theorem keepsFrom_below {B : Nat} {W W' : World} (h : Below W.heap.size W W') : KeepsFrom B W W' := ⟨h.size, fun k o _ hk _ => (h.block k (Array.getElem?_eq_some_iff.1 hk).1).trans hk⟩
theorem keepsFrom_recs {α : Type} {f : α → List Value} {B : Nat} {X Y : World} {e : TypeId} {sz : Nat} {v : Value} {L : List α} (h : Recs f X e sz v L) (hg : X.grownBy Y v.ownBlock) : KeepsFrom B X Y :=
  ⟨hg.size, fun k o _ hk hc => (hg.block k (Array.getElem?_eq_some_iff.1 hk).1 fun e => by
    obtain ⟨cur, hcur⟩ := h.blk k e.symm
    rw [hk] at hcur; cases hcur; cases hc).trans hk⟩

set_option maxHeartbeats 4000000 in
theorem blobPuts_any (a : Option Addr) (n cap : Nat) (data : List UInt8) (pa : Option Addr) (pn pc : Nat) (pages : List Nat) (w : World) (h : BytesAt w a n cap data) (hn : n ≤ 4032) (hp : IntsAt w pa pn pc (pagesI pages)) (hpl : ∀ p ∈ pages, p < 2006) (hlen : pages.length = pfor n) :
    Calls Tryz.prog 100 #[.slice a n cap, .slice pa pn pc] w (PutsTo (blobPuts data pages) w) := by
  have hdl : data.length = n := h.1
  have hcap := h.2.1
  have hcm := h.2.2.1
  have hpn : pages.length = pn := by have h1 := hp.1; unfold pagesI at h1; rwa [List.length_map] at h1
  obtain ⟨b, off, hab⟩ : ∃ b off, 0 < n → a = some ⟨b, off, none⟩ := by
    rcases Nat.eq_zero_or_pos n with h0 | h0
    · exact ⟨0, 0, fun h => by omega⟩
    · obtain ⟨b, off, e, _⟩ := h.at h0
      exact ⟨b, off, fun _ => e⟩
  have H := Lib.hid h
  have HP := Lib.hid hp
  have HPL := Lib.hid hpl
  have HPN := Lib.hid hpn
  have HLEN := Lib.hid hlen
  have HDL := Lib.hid hdl
  have HAB := Lib.hid hab
  clear h hp hpl hpn hlen hdl hab
  refine (callsIn_wide (n := 6)).1 ?_
  refine callsIn_of_wp_marks Tryz.func100 rfl trivial ?_ rfl
  simp only [Tryz.ntmps100, List.size_toArray, List.length_cons, List.length_nil, Nat.reduceAdd, Nat.reduceSub, Array.replicate_succ, Array.replicate_zero, List.push_toArray, List.append_toArray, List.nil_append, List.cons_append]
  gi_wp2
  refine ⟨trivial, ?_⟩
  refine (chunkB_in 5 a n cap 126 _ (by omega)).mono ?_
  rintro e u1 ⟨rfl, rfl⟩
  gi_wp2
  have hu1 : Below w.heap.size w (w.alloc (.cells #[.slice pa pn pc] 78)) := (Below.refl _ _).alloc (Nat.le_refl _) _
  have hx1 := heap_alloc_new w (.cells #[.slice pa pn pc] 78)
  have hz1 : (w.alloc (.cells #[.slice pa pn pc] 78)).heap.size = w.heap.size + 1 := by simp
  generalize w.alloc (.cells #[.slice pa pn pc] 78) = u1 at *
  have hu2 : Below u1.heap.size u1 (u1.alloc (.cells #[.slice none 0 0] 104)) := (Below.refl _ _).alloc (Nat.le_refl _) _
  have hx2 := heap_alloc_new u1 (.cells #[.slice none 0 0] 104)
  have hz2 : (u1.alloc (.cells #[.slice none 0 0] 104)).heap.size = u1.heap.size + 1 := by simp
  generalize u1.alloc (.cells #[.slice none 0 0] 104) = u2 at *
  have hu3 : Below u2.heap.size u2 (u2.alloc (.cells #[.slice a n cap] 49)) := (Below.refl _ _).alloc (Nat.le_refl _) _
  have hx3 := heap_alloc_new u2 (.cells #[.slice a n cap] 49)
  have hz3 : (u2.alloc (.cells #[.slice a n cap] 49)).heap.size = u2.heap.size + 1 := by simp
  generalize u2.alloc (.cells #[.slice a n cap] 49) = u3 at *
  have hu4 : Below u3.heap.size u3 (u3.alloc (.cells #[.int .i64 126] 3)) := (Below.refl _ _).alloc (Nat.le_refl _) _
  have hx4 := heap_alloc_new u3 (.cells #[.int .i64 126] 3)
  have hz4 : (u3.alloc (.cells #[.int .i64 126] 3)).heap.size = u3.heap.size + 1 := by simp
  generalize u3.alloc (.cells #[.int .i64 126] 3) = u4 at *
  have hb34 := hu3.trans (hu4.mono (by omega))
  have hb24 := hu2.trans (hb34.mono (by omega))
  have hb4 : Below w.heap.size w u4 := hu1.trans (hb24.mono (by omega))
  have g0 : u4.heap[w.heap.size]? = some (.cells #[.slice pa pn pc] 78 (0, 0)) := (hb24.block _ (by omega)).trans hx1
  have g1 : u4.heap[w.heap.size + 1]? = some (.cells #[.slice none 0 0] 104 (0, 0)) := by rw [← hz1]; exact (hb34.block _ (by omega)).trans hx2
  have g2 : u4.heap[w.heap.size + 1 + 1]? = some (.cells #[.slice a n cap] 49 (0, 0)) := by rw [← hz1, ← hz2]; exact (hu4.block _ (by omega)).trans hx3
  have g3 : u4.heap[w.heap.size + 1 + 1 + 1]? = some (.cells #[.int .i64 126] 3 (0, 0)) := by rw [← hz1, ← hz2, ← hz3]; exact hx4
  have hsz : u4.heap.size = w.heap.size + 4 := by omega
  have h0 : BpI w pa pn pc data pages (cntP n 126) [] u4 := ⟨g0, ⟨none, 0, [], g1, PutsO.nil _ _, rfl⟩, hb4, by omega⟩
  have HSTOP := chunkC_stops 5 (by omega) (w.heap.size + 1 + 1) (w.heap.size + 1 + 1 + 1) w.heap.size b off n cap 126 a HAB.out (by omega) (by omega) (by omega) hcap hcm u4 g2 g3
  clear hu1 hx1 hz1 hu2 hx2 hz2 hu3 hx3 hz3 hu4 hx4 hz4 hb34 hb24 g0 g1 g2 g3
  refine wpIn_rangeFunc_ownG (encs := fun x : Fin (cntP n 126) => #[prtBV b off n 126 x.1]) (w0 := u4) rfl (by omega) (gf := 173) (lb := #[.pointer (some ⟨w.heap.size + 1 + 1, 0, none⟩), .pointer (some ⟨w.heap.size + 1 + 1 + 1, 0, none⟩)]) rfl trivial (enters_of Tryz.func173 (by kernel_rfl) rfl)
    HSTOP kpc_t (kpc_b (by omega) (by omega) (by omega)) (Below.refl _ _) (fun _ => rfl)
    (BpI w pa pn pc data pages (cntP n 126))
    (fun _ _ _ => False)
    (BpI.own (by omega)) (fun _ _ _ _ _ hs _ _ => hs) h0
    (fun x => { tmps := #[.slice a n cap, .slice pa pn pc, undef, .pointer (some ⟨w.heap.size, 0, none⟩), .slice none 0 0, .pointer (some ⟨w.heap.size + 1, 0, none⟩), prtBV b off n 126 x.1, undef, undef, undef, .slice a n cap, .func (.func 173) #[] #[.pointer (some ⟨w.heap.size + 1 + 1, 0, none⟩), .pointer (some ⟨w.heap.size + 1 + 1 + 1, 0, none⟩)], prtBV b off n 126 x.1, undef, undef, undef, undef, undef, undef, undef, undef, undef, undef, undef, undef, undef, undef, undef, undef, undef, undef, undef, undef, undef, undef, undef, undef, undef], defers := [] }) ?assign ?body ?fin ?stop
  case assign =>
    intro l x W K hK
    gi_wp2
    exact hK
  case fin =>
    rintro D ys W hD hys hI hK
    obtain ⟨av, cv, N, h5, h6, h7⟩ := hI.out
    have c5 : W.cell? ⟨w.heap.size + 1, 0, none⟩ = some (.slice av ys.length cv) := by rw [cell_of_row _ _ _ _ _ _ h5]; rfl
    gi_wp2
    refine ⟨by simp, .inl ⟨_, _, rfl, run_takeDeferred hK, ?_⟩⟩
    have hlen : (blobPuts data pages).length = ys.length := by
      have h1 := congrArg List.length hys
      rw [List.length_map, List.length_range] at h1
      unfold blobPuts
      rw [List.length_map, List.length_range, h1, HDL.out]
      rfl
    have hpp : N.map PutM.pt = blobPuts data pages := by
      rw [h7, hys, putsX_all]
      unfold blobPuts
      rw [HDL.out]
      rfl
    have hfin := hI.bel.trans (belowK_b (w := w) (Nat.le_refl _) W D _ (.deferred none) (by omega) hK rfl rfl)
    refine ⟨_, results_tmp rfl _ _ _, av, cv, N, by rw [hlen]; rfl, hpp, ?_, hfin⟩
    rw [hlen]
    exact ⟨recs_putObj h6.recs hK rfl, fun q hq => Nat.le_trans (by omega) (h6.own q hq), fun y hy => recs_putObj (h6.oct y hy) hK rfl⟩
  case stop =>
    rintro D c pre W _ _ h _
    exact h.elim
  case body =>
    rintro l pre x W hI hlt
    dsimp only
    obtain ⟨av, cv, N, h1, hN, hNp⟩ := hI.out
    obtain ⟨k, hk⟩ : ∃ k, k = pre.length := ⟨_, rfl⟩
    rw [← hk] at h1 hN hlt
    have c0 : W.cell? ⟨w.heap.size, 0, none⟩ = some (.slice pa pn pc) := by rw [cell_of_row _ _ _ _ _ _ hI.x0]; rfl
    have c1 : W.cell? ⟨w.heap.size + 1, 0, none⟩ = some (.slice av k cv) := by rw [cell_of_row _ _ _ _ _ _ h1]; rfl
    have hkp : k < pn := by have := HPN.out; have := HLEN.out; have : cntP n 126 = pfor n := rfl; omega
    have hk40 : k < 100 := by have := HPN.out; have h1 := HLEN.out; unfold pfor at h1; omega
    have hIW : IntsAt W pa pn pc (pagesI pages) := CameAt.below HP.out (by omega) hI.bel
    obtain ⟨a', c', hs1, hs2, _⟩ := ints_from (k + 1) hIW (by omega)
    have hs3 : ∀ u, (Instr.sliceAt 78 (.slice pa pn pc) (some (.int .i64 ((k : Int) + 1))) none none).run Tryz.prog u = .ok (.slice a' (pn - (k + 1)) c') u := hs1
    have hdr : IntsAt W a' (pn - (k + 1)) c' (pagesI (pages.drop (k + 1))) := by have := hs2 W hIW; unfold pagesI at this ⊢; rwa [← List.map_drop] at this
    obtain ⟨bp, offp, rfl, hbp, hcs⟩ := IntsAt.cell HP.out (by omega)
    have hbw : bp < w.heap.size := hbp
    obtain ⟨p, hp⟩ : ∃ p, pages[k]? = some p := ⟨_, List.getElem?_eq_getElem (by have := HPN.out; omega)⟩
    have hck := hcs k hkp
    rw [show (pagesI pages).getD k 0 = (p : Int) by unfold pagesI; rw [List.getD, List.getElem?_map, hp]; rfl] at hck
    have hp6 := HPL.out p (List.mem_of_getElem? hp)
    have hcell : ∀ u : World, Below w.heap.size w u → u.cell? ⟨bp, offp + k, none⟩ = some (.int .i64 p) := fun u hu => by rw [World.cell?_of_block (w := w) (hu.block bp hbw)]; exact hck
    have hx126 : 126 * x.1 < n := (cntP_lt (by omega)).1 x.2
    obtain ⟨d, hd⟩ : ∃ d, d = min 126 (n - 126 * x.1) := ⟨_, rfl⟩
    have hpv : prtBV b off n 126 x.1 = .slice (some ⟨b, off + 126 * x.1, none⟩) d d := by unfold prtBV; rw [← hd]
    have hpc : BytesAt W (some ⟨b, off + 126 * x.1, none⟩) d d ((data.drop (126 * x.1)).take 126) := by
      have h2 := H.out.below hI.bel
      rw [HAB.out (by omega)] at h2
      have h3 := bytes_part (at_ := 126 * x.1) (m := d) h2 (by omega)
      have h4 : (data.drop (126 * x.1)).take d = (data.drop (126 * x.1)).take 126 := by
        rw [hd, List.take_eq_take_iff, List.length_drop, HDL.out]
        omega
      rwa [h4] at h3
    have hchl : ((data.drop (126 * x.1)).take 126).length = d := hpc.1
    have hd1 : 1 ≤ d ∧ d ≤ 126 := by omega
    have HXY := Lib.hid (show blobPutX data pages k x.1 = (42 + (p : Int), padL (leB 2 (linkN (pages.drop (k + 1))) ++ (data.drop (126 * x.1)).take 126)) by
      unfold blobPutX; rw [List.getD, hp]; simp)
    have hlk : linkN (pages.drop (k + 1)) ≤ 2006 := linkN_lt fun q hq => HPL.out q (List.mem_of_mem_drop hq)
    have CL := Lib.hid (linkTo_any a' (pn - (k + 1)) c' (pages.drop (k + 1)) W hdr fun q hq => by have := HPL.out q (List.mem_of_mem_drop hq); omega)
    generalize (data.drop (126 * x.1)).take 126 = ch at *
    generalize linkN (pages.drop (k + 1)) = lk at *
    generalize pn - (k + 1) = dn at *
    have HI := Lib.hid hI
    have H1 := Lib.hid h1
    have HN := Lib.hid hN
    have HNP := Lib.hid hNp
    have HK := Lib.hid hk
    have HPC := Lib.hid hpc
    have HCELL := Lib.hid hcell
    have HCHL := Lib.hid hchl
    rw [hpv]
    clear hI h1 hN hNp hk hpc hcell hchl hs1 hs2 hdr hd hpv hcs hck hp hIW hlt HSTOP h0
    gi_upto_region 5 with (fail)
    refine region_list_in _ _ (by rintro ⟨_, _, hh⟩; exact hh) (by kernel_rfl) ?_
    go_wp2_with (refine wpList_value rfl (.slice a' dn c') (exec_slice 78 _ _ _ rfl _ _ rfl _ _ rfl rfl (hs3 W)) ?_)
    refine CL.out.mono ?_
    rintro e w1 ⟨rfl, hw1⟩
    rw [hw1]
    clear CL hs3 hw1
    go_wp2_with fail
    refine (hnumber_any lk W (by omega)).mono ?_
    rintro e w2 ⟨a2, c2, rfl, ho2, hb2⟩
    have BO2 := Lib.hid (BytesAt.owned ho2)
    have BC2 := Lib.hid (HPC.out.below hb2)
    have HB2 := Lib.hid hb2
    clear ho2 hb2
    go_wp2_with (refine wpList_buildSliceV rfl 190 2 _ rfl #[(0, .slice a2 2 c2), (1, .slice (some ⟨b, off + 126 * x.1, none⟩) d d)] (by simp [go_sem]) _ _ (built2 _ _ _ _ _ _ _) ?_)
    have hba : Below w2.heap.size w2 (w2.alloc (.cells #[.slice a2 2 c2, .slice (some ⟨b, off + 126 * x.1, none⟩) d d] 49)) := (Below.refl _ _).alloc (Nat.le_refl _) _
    have C3 := Lib.hid (concat_to (some ⟨w2.heap.size, 0, none⟩) 2 2 (2 + d) [leB 2 lk, ch] (leB 2 lk ++ ch) _ (rows2 (heap_alloc_new w2 (.cells #[.slice a2 2 c2, .slice (some ⟨b, off + 126 * x.1, none⟩) d d] 49)) (BO2.out.below hba) (BC2.out.below hba)) (by simp) (by rw [List.length_append, leB_length, HCHL.out]) (by omega) (by omega))
    have HBA := Lib.hid (HB2.out.trans (hba.mono HB2.out.size))
    clear hba
    refine (C3.out).mono ?_
    rintro e w3 ⟨a3, c3, rfl, ho3, hb3⟩
    have HB3 := Lib.hid (HBA.out.trans (hb3.mono HBA.out.size))
    have C4 := Lib.hid (pad_ok a3 (2 + d) c3 (leB 2 lk ++ ch) 128 w3 (by omega) (by omega) (BytesAt.owned ho3))
    have e4 : leB 2 lk ++ ch ++ List.replicate (128 - (2 + d)) 0 = padL (leB 2 lk ++ ch) := by
      unfold padL; rw [List.length_append, leB_length, HCHL.out]
    rw [e4] at C4
    rw [← e4] at HXY
    clear ho3 hb3 C3 BO2 BC2 HB2 HBA
    dsimp only [id]
    go_wp2_with fail
    refine (C4.out).mono ?_
    rintro e w4 ⟨a4, c4, rfl, ho4, hb4⟩
    rw [e4] at HXY
    have HB4 := Lib.hid (HB3.out.trans (hb4.mono HB3.out.size))
    have HO4 := Lib.hid (octO_of ho4).1
    clear ho4 hb4 C4 HB3 e4
    generalize padL (leB 2 lk ++ ch) = pd at *
    go_wp2
    gi_upto_region 6 with (fail)
    have hWs := HI.out.sz
    have key : ∀ u : World, Below W.heap.size W u → u.cell? ⟨w.heap.size + 1, 0, none⟩ = some (.slice av k cv) ∧ u.cell? ⟨w.heap.size, 0, none⟩ = some (.slice (some ⟨bp, offp, none⟩) pn pc) ∧ u.cell? ⟨bp, offp + k, none⟩ = some (.int .i64 p) := fun u hu =>
      ⟨by rw [cell_of_row _ _ _ _ _ _ ((hu.block _ (by omega)).trans H1.out)]; rfl, by rw [cell_of_row _ _ _ _ _ _ ((hu.block _ (by omega)).trans HI.out.x0)]; rfl, HCELL.out u (HI.out.bel.trans (hu.mono (by omega)))⟩
    have CPP := Lib.hid (pagePut_any p (.slice a4 128 c4) w4.drew (by omega) ⟨a4, 128, c4, rfl⟩)
    have KEY := Lib.hid key
    have hS0 := key w4.drew HB4.out.drew
    clear key c0 c1
    refine region_head_in _ _ 9 [0, 1, 2, 3, 4, 5, 6, 7, 8] [6, 7, 8] (fun u => u.cell? ⟨w.heap.size + 1, 0, none⟩ = some (.slice av k cv) ∧ u.cell? ⟨w.heap.size, 0, none⟩ = some (.slice (some ⟨bp, offp, none⟩) pn pc) ∧ u.cell? ⟨bp, offp + k, none⟩ = some (.int .i64 p)) (by rintro ⟨_, _, hh⟩; exact hh) (by kernel_rfl) (by kernel_rfl) (by kernel_rfl) hS0 ?_
    simp only [pickO, List.filterMap_cons, List.filterMap_nil, List.getElem?_cons_zero, List.getElem?_cons_succ, Option.map_some, List.drop_succ_cons, List.drop_zero]
    clear hS0
    iterate 6
      refine seqH_read _ rfl rfl (by rintro u ⟨hu1, hu2, hu3⟩; go_simp; with_reducible rfl) ?_
      try simp only [Act.put, List.setIfInBounds_toArray, List.set_cons_zero, List.set_cons_succ]
    refine seqH_move rfl rfl (fun Kk hK => ?_)
    go_simp
    refine CPP.out.mono ?_
    rintro e w5 ⟨rfl, hb5⟩
    have hb5w : Below W.heap.size W w5 := HB4.out.drew.trans (hb5.mono HB4.out.size)
    refine hK _ _ (KEY.out w5 hb5w) ?_
    clear hK Kk CPP
    try simp only [Act.put, List.setIfInBounds_toArray, List.set_cons_zero, List.set_cons_succ]
    have HB5 := Lib.hid hb5w
    have HO5 := Lib.hid (show OctO w5 (.slice a4 128 c4) pd from (HO4.out.keep (w' := w4.drew) fun _ _ => rfl).below hb5)
    clear hb5 hb5w HO4
    have hcst : ((42 + p : Nat) : Int) = 42 + (p : Int) := by omega
    rw [hcst]
    clear hcst
    generalize 42 + (p : Int) = pp at *
    refine seqH_move rfl rfl (fun Kk hK => ?_)
    refine wp_buildSliceV 104 1 _ rfl #[(0, .agg (putV pp a4 128 c4))] (by simp [go_sem, putV]) _ _ (built_put _ _ _ _ _) ?_
    have hal : Below w5.heap.size w5 (w5.alloc (.cells (putV pp a4 128 c4) 118)) := (Below.refl _ _).alloc (Nat.le_refl _) _
    have hb6w : Below W.heap.size W (w5.alloc (.cells (putV pp a4 128 c4) 118)) := HB5.out.trans (hal.mono HB5.out.size)
    refine hK _ _ (KEY.out _ hb6w) ?_
    clear hK Kk
    try simp only [Act.put, List.setIfInBounds_toArray, List.set_cons_zero, List.set_cons_succ]
    have hN6 := HN.out.below hb6w
    have hx6 := heap_alloc_new w5 (.cells (putV pp a4 128 c4) 118)
    have HO6 := Lib.hid (HO5.out.below hal)
    have HB6 := Lib.hid hb6w
    clear hal hb6w
    have hNl : N.length = k := by
      have h1 := congrArg List.length HNP.out
      unfold putsX at h1
      rw [List.length_map, List.length_map, List.length_zipIdx, List.length_map] at h1
      rw [h1, HK.out]
    have HNl := Lib.hid hNl
    obtain ⟨i0, hi0, hz0, hz1, hz2⟩ := info_parts infoPut
    have hws6 : w5.heap.size < (w5.alloc (.cells (putV pp a4 128 c4) 118)).heap.size := by simp
    generalize w5.alloc (.cells (putV pp a4 128 c4) 118) = w6 at *
    refine seqH_move rfl rfl (fun Kk hK => ?_)
    refine wp_append_recs (f := putC) _ _ 104 rfl 118 i0 (.agg #[.int .i64 0, .slice none 0 0]) 2 32 Tryz.underlying104 hi0 hz0 hz1 hz2 rfl (by omega) (.slice av k cv) N rfl hN6.recs ⟨w5.heap.size, 0, none⟩ 1 1 [⟨pp, a4, 128, c4, pd⟩] rfl rfl (fun y hy => rfl) (fun y hy => putC_one y) (put_news hx6) (by rw [hNl]; unfold maxLen; omega) (by rw [hNl]; omega) ?_
    intro v7 w7 hr7 hg7 hv7
    obtain ⟨a7, c7, hv0, _, _⟩ := hr7.form
    rw [List.length_append, List.length_singleton, hNl] at hv0
    subst hv0
    have hown : ∀ q, (Value.slice av k cv).ownBlock = some q → w.heap.size + 4 ≤ q := HN.out.own
    have hN7 : PutsO w7 (w.heap.size + 4) (.slice a7 (k + 1) c7) (N ++ [⟨pp, a4, 128, c4, pd⟩]) := hN6.more (fun y hy => by rw [List.mem_singleton.1 hy]; exact HO6.out) hr7 hg7 hv7 (by have := HB6.out.size; omega)
    have hsame : ∀ q, q < w.heap.size + 4 → w7.heap[q]? = w6.heap[q]? := fun q hq => hg7.block q (by have := HB6.out.size; omega) fun e => by have := hown q e.symm; omega
    have hS7 : w7.cell? ⟨w.heap.size + 1, 0, none⟩ = some (.slice av k cv) ∧ w7.cell? ⟨w.heap.size, 0, none⟩ = some (.slice (some ⟨bp, offp, none⟩) pn pc) ∧ w7.cell? ⟨bp, offp + k, none⟩ = some (.int .i64 p) := by
      obtain ⟨k1, k2, k3⟩ := KEY.out w6 HB6.out
      exact ⟨by rw [World.cell?_of_block (w := w6) (hsame _ (by show w.heap.size + 1 < _; omega))]; exact k1, by rw [World.cell?_of_block (w := w6) (hsame _ (by show w.heap.size < _; omega))]; exact k2, by rw [World.cell?_of_block (w := w6) (hsame _ (by show bp < _; omega))]; exact k3⟩
    refine hK _ _ hS7 ?_
    clear hK Kk
    try simp only [Act.put, List.setIfInBounds_toArray, List.set_cons_zero, List.set_cons_succ]
    refine seqH_nil ?_
    have hkf : KeepsFrom u4.heap.size W w7 := (keepsFrom_below HB6.out).trans (keepsFrom_recs hN6.recs hg7)
    have hb1 : w7.heap[w.heap.size + 1]? = some (.cells #[.slice av k cv] 104 (0, 0)) := (hsame _ (by omega)).trans ((HB6.out.block _ (by omega)).trans H1.out)
    have hb0 : w7.heap[w.heap.size]? = some (.cells #[.slice (some ⟨bp, offp, none⟩) pn pc] 78 (0, 0)) := (hsame _ (by omega)).trans ((HB6.out.block _ (by omega)).trans HI.out.x0)
    have hkb : ∀ q, q < w.heap.size + 4 → w7.heap[q]? = W.heap[q]? := fun q hq => (hsame q hq).trans (HB6.out.block _ (by omega))
    have hbl : Below w.heap.size w w7 := (HI.out.bel.trans (HB6.out.mono (by omega))).grown hg7 (by have := HB6.out.size; omega) fun q hq => by have := hown q hq; omega
    have hWw : Below w.heap.size W w7 := (HB6.out.mono (by omega)).grown hg7 (by have := HB6.out.size; omega) fun q hq => by have := hown q hq; omega
    have hs7 : W.heap.size ≤ w7.heap.size := Nat.le_trans HB6.out.size hg7.size
    have hfz : w7.frozen? ⟨w.heap.size + 1, 0, none⟩ = false := frozen_of_row _ _ _ _ _ hb1
    have hc1 := hS7.1
    have HR := Lib.hid (And.intro hN7 (And.intro hkf (And.intro hb1 (And.intro hb0 (And.intro hkb (And.intro hbl (And.intro hWw hs7)))))))
    clear hN7 hkf hb1 hb0 hkb hbl hWw hs7 hsame hr7 hg7 hv7 hS7 hN6 hx6 hi0 hz0 hz1 hz2 hown hNl KEY hws6
    go_wp2
    gi_wp2
    obtain ⟨hN7, hkf, hb1, hb0, hkb, hbl, hWw, hs7⟩ := HR.out
    have hon : Only (fun q => q = w.heap.size + 1) w7 (w7.setCell ⟨w.heap.size + 1, 0, none⟩ (.slice a7 (k + 1) c7)) := Only.setCell (S := fun q => q = w.heap.size + 1) w7 ⟨w.heap.size + 1, 0, none⟩ _ rfl
    have hoth : ∀ q, q ≠ w.heap.size + 1 → q < w.heap.size + 4 → (w7.setCell ⟨w.heap.size + 1, 0, none⟩ (.slice a7 (k + 1) c7)).heap[q]? = W.heap[q]? := fun q h1 h2 => (hon.block q (by omega) h1).trans (hkb q h2)
    have hpl : (pre ++ [x]).length = k + 1 := by rw [List.length_append, HK.out]; rfl
    refine ⟨hkf.trans (keepsFrom_only hon hb1), ⟨hWw.setCell (by simp) _, hoth _ (by omega) (by omega), hoth _ (by omega) (by omega)⟩, ⟨(hoth _ (by omega) (by omega)).trans HI.out.x0, ⟨a7, c7, N ++ [⟨pp, a4, 128, c4, pd⟩], ?_, ⟨?_, ?_, ?_⟩, ?_⟩, hbl.setCell (by simp) _, ?_⟩⟩
    · rw [hpl]; exact heap_setCell_same _ _ _ _ _ _ hb1
    · rw [hpl]; exact hN7.recs.only hon fun q hq e => by have := hN7.own q hq; omega
    · rw [hpl]; exact hN7.own
    · exact fun y hy => (hN7.oct y hy).only hon fun q hq e => (hN7.oct y hy).ne_of hb1 (by decide) q hq e
    · rw [List.map_append, HNP.out, show (pre ++ [x]).map (fun y => y.1) = pre.map (fun y => y.1) ++ [x.1] from by rw [List.map_append]; rfl, putsX_snoc, List.length_map, ← HK.out, HXY.out]; rfl
    · simp [World.setCell]; omega

end Go.Proofs.YtjcmphjjkeigjaaGreat

namespace Go.Proofs.YtjcmphjjkeigjaaGreat
open Go.RowKit
set_option linter.unusedVariables false
set_option linter.unusedSimpArgs false

theorem wrap_u64 (x : Nat) (h : x < 18446744073709551616) : IntKind.u64.wrap (x : Int) = (x : Int) := by
  simp [IntKind.wrap, IntKind.signed, IntKind.bits]; omega

end Go.Proofs.YtjcmphjjkeigjaaGreat

namespace Go.Proofs.YtjcmphjjkeigjaaGreat
open Go.ChangeShapes Go.WideShapes Go.ChangeAt Go.RowKit Go.Deep
set_option linter.unusedVariables false
set_option linter.unusedSimpArgs false
set_option maxRecDepth 100000

section
variable {H : Type} {enc : TypeId × Value → H} {W : World} {held : Bool}
end

theorem mayL_of {L : List (Nat × Nat)} (h : L.Pairwise fun a b => a.1 < b.1) (h6 : L.length ≤ 600) : mayL L = true := by
  have := mayL_iff (L := L) (fun j hj => by
    have := List.pairwise_iff_getElem.1 h j (j + 1) (by omega) hj (by omega)
    simpa [List.getD, List.getElem?_eq_getElem hj, List.getElem?_eq_getElem (show j < L.length by omega)] using this)
  rw [this, decide_eq_true (by omega)]

end Go.Proofs.YtjcmphjjkeigjaaGreat

namespace Go.Proofs.YtjcmphjjkeigjaaGreat
open Go.RowKit
set_option linter.unusedVariables false
set_option linter.unusedSimpArgs false

theorem pair_zero (r : Int × Dk) (h : r.1 = 0) : ((0 : Int), r.2) = r := by rw [← h]
theorem plays_one (s : Stp) (D : Dk) : plays [s] D = s.play D := by
  by_cases h : (s.play D).1 = 0
  · rw [plays_yes _ h]; exact pair_zero _ h
  · rw [plays_no _ h]
theorem wrsOf_one (p : Pt) (D : Dk) : wrsOf D [p] = wrOf D p.1 p.2.length p.2 := by
  by_cases h : (wrOf D p.1 p.2.length p.2).1 = 0
  · simp only [wrsOf]; rw [if_pos h]; exact pair_zero _ h
  · simp only [wrsOf]; rw [if_neg h]

def nextR (r : Int × Dk) (F : Dk → Int × Dk) : Int × Dk := if r.1 = 0 then F r.2 else r
theorem plays_next (s : Stp) (ts : List Stp) (D : Dk) : plays (s :: ts) D = nextR (s.play D) (plays ts) := rfl

def fmtOf (D : Dk) : Int × Dk := nextR (wrOf D 0 128 (sec 0)) flOf
theorem fmtOf_plays (D : Dk) : plays formatR D = fmtOf D := by
  unfold formatR fmtOf
  rw [plays_next, show (plays [Stp.flush]) = flOf from funext fun D => plays_one _ _]
  rw [show (Stp.write [((0 : Int), sec 0)]).play D = wrOf D 0 128 (sec 0) from by
    show wrsOf D [((0 : Int), sec 0)] = _
    rw [wrsOf_one]; dsimp only; rw [sec_length]]
def homeOf (L : List Pt) (D : Dk) : Int × Dk := nextR (wrsOf D L) fun D1 => nextR (flOf D1) fmtOf
theorem homeOf_plays (L : List Pt) (D : Dk) : plays (homeR L) D = homeOf L D := by
  unfold homeR homeOf
  rw [plays_next, show (Stp.write L).play D = wrsOf D L from rfl]
  congr 1
  funext D1
  rw [plays_next, show (Stp.flush).play D1 = flOf D1 from rfl]
  congr 1
  funext D2
  exact fmtOf_plays D2
section
variable {w wi wj : World} {S Si Sj U : Nat → Prop} {g : Nat} {D D' : Dk}
end

open Go.RowKit
end Go.Proofs.YtjcmphjjkeigjaaGreat

namespace Go.Proofs.YtjcmphjjkeigjaaGreat
open Go.RowKit
set_option linter.unusedVariables false
set_option linter.unusedSimpArgs false

open Go.RowKit
theorem hdL_ne (L : List Pt) : hdL L ≠ sec 0 := by
  intro h
  have h1 : (hdL L)[0]? = some 116 := by simp [hdL, sealL, hdRaw, markL]
  rw [h] at h1
  simp [sec] at h1
theorem recR_some {A : List Pt} (h : A ≠ []) : recR A = homeR A := by unfold recR; rw [if_neg h]; rfl
theorem recoverOf_home {D : Dk} (h : 41 < D.secs.length) (hp : D.power = true) {A : List Pt} (hA : begunL (rowsL D) D.secs.length = A) (hne : A ≠ []) :
    recoverOf D = (if (homeOf A D).1 = 0 then (A.length : Int) else 0, homeOf A D) := by
  have hc : D.content 0 ≠ sec 0 := by
    have := (begunL_may (rowsL D) D.secs.length (by rw [hA]; exact hne)).2
    rw [rowsL_head] at this
    rw [← this]; exact hdL_ne _
  rw [recoverOf_some h hp hc, hA, recR_some hne, homeOf_plays]
end Go.Proofs.YtjcmphjjkeigjaaGreat

namespace Go.Proofs.YtjcmphjjkeigjaaGreat
set_option linter.unusedVariables false
set_option linter.unusedSimpArgs false

def pay (b : Int) : Int := if b = -1 then -1 else b - 1
theorem can_rec (s : List (List UInt8)) (ws : List (Nat × List UInt8)) (b : Int) : (⟨s, ws, true, b⟩ : Dk).can = !(b == 0) := by simp [Dk.can]
theorem wr_rec (s : List (List UInt8)) (ws : List (Nat × List UInt8)) (b : Int) (i : Int) (l : List UInt8) (h0 : 0 ≤ i) (h1 : i < (s.length : Int)) (hl : l.length = 128) (hb : b ≠ 0) :
    wrOf ⟨s, ws, true, b⟩ i l.length l = (0, ⟨s, ws ++ [(i.toNat, l)], true, pay b⟩) := by
  unfold wrOf
  rw [if_neg (by show ¬ (i < 0 ∨ (s.length : Int) ≤ i); omega), if_neg (by omega), if_pos (by rw [can_rec]; simpa using hb)]
  rfl
theorem wr_rec_off (s : List (List UInt8)) (ws : List (Nat × List UInt8)) (b : Int) (i : Int) (l : List UInt8) (h0 : 0 ≤ i) (h1 : i < (s.length : Int)) (hl : l.length = 128) (p : Bool) (hc : p = false ∨ b = 0) :
    wrOf ⟨s, ws, p, b⟩ i l.length l = (10, ⟨s, ws, false, b⟩) := by
  unfold wrOf
  rw [if_neg (by show ¬ (i < 0 ∨ (s.length : Int) ≤ i); omega), if_neg (by omega), if_neg (by
    rcases hc with rfl | rfl
    · simp [Dk.can]
    · simp [Dk.can])]
  rfl
theorem fl_rec (s : List (List UInt8)) (ws : List (Nat × List UInt8)) (b : Int) (hb : b ≠ 0) : flOf ⟨s, ws, true, b⟩ = (0, ⟨Dk.laid (fun _ => true) ws s, [], true, pay b⟩) := by
  unfold flOf
  rw [if_pos (by rw [can_rec]; simpa using hb)]
  rfl
theorem fl_rec_off (s : List (List UInt8)) (ws : List (Nat × List UInt8)) (b : Int) (p : Bool) (hc : p = false ∨ b = 0) : flOf ⟨s, ws, p, b⟩ = (10, ⟨s, ws, false, b⟩) := by
  unfold flOf
  rw [if_neg (by
    rcases hc with rfl | rfl
    · simp [Dk.can]
    · simp [Dk.can])]
  rfl
theorem pay_one : pay (-1) = -1 := rfl

/-- where a list of puts lies -/
def asW (L : List Pt) : List (Nat × List UInt8) := L.map fun p => (p.1.toNat, p.2)
def Fits (L : List Pt) (n : Nat) : Prop := ∀ p ∈ L, 0 ≤ p.1 ∧ p.1 < (n : Int) ∧ p.2.length = 128

/-- all writes are done where no budget is -/
theorem wrs_free : ∀ (L : List Pt) (s : List (List UInt8)) (ws : List (Nat × List UInt8)), Fits L s.length → wrsOf ⟨s, ws, true, -1⟩ L = (0, ⟨s, ws ++ asW L, true, -1⟩)
  | [], s, ws, _ => by simp [wrsOf, asW]
  | p :: L, s, ws, h => by
    have hp := h p (by simp)
    have hw := wr_rec s ws (-1) p.1 p.2 hp.1 hp.2.1 hp.2.2 (by omega)
    simp only [wrsOf]
    rw [hw, if_pos rfl, pay_one, wrs_free L s _ (fun q hq => h q (by simp [hq]))]
    simp [asW]

theorem fits_may {L : List Pt} {n : Nat} (h : MayP L n) : Fits L n := fun p hp => by have := h.at p hp; omega
theorem fits_copies {L : List Pt} {n : Nat} (h : MayP L n) (hn : 41 < n) : Fits (copiesL L) n := fun p hp => by
  obtain ⟨x, hx, rfl⟩ := List.mem_map.1 hp
  have hk := List.mem_zipIdx hx
  have := h.few
  have hx1 := List.fst_mem_of_mem_zipIdx hx
  have := h.at x.1 hx1
  refine ⟨by dsimp only; omega, by dsimp only; omega, this.2.2⟩
theorem fits_head (L : List Pt) (n : Nat) (h : L.length ≤ 40) (hn : 41 < n) : Fits [((0 : Int), hdL L)] n := fun p hp => by
  simp only [List.mem_singleton] at hp; subst hp
  exact ⟨by dsimp only; omega, by dsimp only; omega, hdL_length L h⟩
theorem fits_zero (n : Nat) (hn : 41 < n) : Fits [((0 : Int), sec 0)] n := fun p hp => by
  simp only [List.mem_singleton] at hp; subst hp
  exact ⟨by dsimp only; omega, by dsimp only; omega, sec_length 0⟩

def lay (L : List Pt) (s : List (List UInt8)) : List (List UInt8) := Dk.laid (fun _ => true) (asW L) s
theorem lay_len (L : List Pt) (s : List (List UInt8)) : (lay L s).length = s.length := Dk.laid_length _ _ _

theorem play_write_free (L : List Pt) (ts : List Stp) (s : List (List UInt8)) (h : Fits L s.length) : plays (.write L :: .flush :: ts) ⟨s, [], true, -1⟩ = plays ts ⟨lay L s, [], true, -1⟩ := by
  have hw : (Stp.write L).play ⟨s, [], true, -1⟩ = (0, ⟨s, asW L, true, -1⟩) := by show wrsOf _ _ = _; rw [wrs_free L s [] h]; rfl
  have hf : (Stp.flush).play ⟨s, asW L, true, -1⟩ = (0, ⟨lay L s, [], true, -1⟩) := by show flOf _ = _; rw [fl_rec _ _ _ (by omega)]; rfl
  rw [plays_yes _ (by rw [hw]), hw, plays_yes _ (by rw [hf]), hf]

/-- a commit, where no budget is -/
theorem commit_free (L : List Pt) (s : List (List UInt8)) (h : mayB L s.length = true) (hn : 41 < s.length) :
    commitOf ⟨s, [], true, -1⟩ L = (0, ⟨lay [((0 : Int), sec 0)] (lay L (lay [((0 : Int), hdL L)] (lay (copiesL L) s))), [], true, -1⟩) := by
  have hm := (may_iff _ _).1 h
  unfold commitOf
  rw [if_pos h]
  unfold commitR
  rw [play_write_free _ _ _ (fits_copies hm hn), play_write_free _ _ _ (by rw [lay_len]; exact fits_head L _ hm.few hn), play_write_free _ _ _ (by rw [lay_len, lay_len]; exact fits_may hm), play_write_free _ _ _ (by rw [lay_len, lay_len, lay_len]; exact fits_zero _ hn)]
  rfl
theorem format_free (s : List (List UInt8)) (hn : 41 < s.length) : formatOf ⟨s, [], true, -1⟩ = (0, ⟨lay [((0 : Int), sec 0)] s, [], true, -1⟩) := by
  unfold formatOf
  rw [if_pos hn]
  unfold formatR
  rw [play_write_free _ _ _ (fits_zero _ hn)]
  rfl
theorem format_new (n : Nat) (h1 : 41 < n) : formatOf (Dk.new n) = (0, Dk.new n) := by
  have := format_free (List.replicate n (List.replicate 128 0)) (by simpa using h1)
  unfold Dk.new
  rw [this]
  congr 2
  unfold lay asW
  simp only [List.map_cons, List.map_nil, Dk.laid, List.zipIdx_cons, List.zipIdx_nil, List.foldl_cons, List.foldl_nil, if_true]
  apply List.ext_getElem?
  intro i
  rw [List.getElem?_set]
  simp only [Int.toNat_zero, List.length_replicate, List.getElem?_replicate, sec]
  split
  · rename_i h; subst h; simp [show 0 < n by omega]
  · rfl

theorem placesL_append (a b : List Pt) : placesL (a ++ b) = placesL a ++ placesL b := by simp [placesL]
theorem hdL_split (L : List Pt) : hdL L = markL ++ (leB 2 L.length ++ (leB 4 (sumL (bytesL L)) ++ (placesL L ++ (leB 4 (sumL (hdRaw L)) ++ List.replicate (128 - (hdRaw L).length - 4) 0)))) := by
  unfold hdL sealL
  conv => lhs; rw [show hdRaw L = markL ++ (leB 2 L.length ++ (leB 4 (sumL (bytesL L)) ++ placesL L)) from rfl]
  simp only [List.append_assoc]
  rfl
theorem take_left2 (a b : List UInt8) (n : Nat) (h : a.length = n) : (a ++ b).take n = a := by rw [← h, List.take_left]
theorem drop_left2 (a b : List UInt8) (n : Nat) (h : a.length = n) : (a ++ b).drop n = b := by rw [← h, List.drop_left]

theorem head_count (L : List Pt) (h : L.length ≤ 40) : le (((hdL L).drop 4).take 2) = L.length := by
  rw [hdL_split, drop_left2 _ _ 4 rfl, take_left2 _ _ 2 (leB_length _ _)]
  exact le_leB 2 _ (by omega)
theorem head_place (L : List Pt) (k : Nat) (hk : k < L.length) (h0 : 0 ≤ (L.getD k (0, [])).1) (h1 : (L.getD k (0, [])).1 < 65536) :
    ((le (((hdL L).drop (10 + 2 * k)).take 2) : Nat) : Int) = (L.getD k (0, [])).1 := by
  rw [hdL_split, show 10 + 2 * k = 4 + (2 + (4 + 2 * k)) by omega, ← List.drop_drop, drop_left2 _ _ 4 rfl, ← List.drop_drop, drop_left2 _ _ 2 (leB_length _ _), ← List.drop_drop, drop_left2 _ _ 4 (leB_length _ _)]
  have hs : placesL L = placesL (L.take k) ++ (leB 2 (L.getD k (0, [])).1.toNat ++ placesL (L.drop (k + 1))) := by
    conv => lhs; rw [← List.take_append_drop k L, placesL_append]
    congr 1
    rw [List.drop_eq_getElem_cons hk]
    have : L.getD k (0, []) = L[k] := by rw [List.getD, List.getElem?_eq_getElem hk]; rfl
    rw [this]
    rfl
  rw [hs, List.append_assoc, drop_left2 _ _ (2 * k) (by rw [placesL_length, List.length_take]; omega), List.append_assoc, take_left2 _ _ 2 (leB_length _ _), le_leB 2 _ (by omega)]
  omega

theorem named_of (L : List Pt) (size : Int) (R : List (List UInt8)) (hm : MayP L size) (hs : size ≤ 65536) (h0 : R.getD 0 [] = hdL L) (hR : ∀ k, k < L.length → R.getD (1 + k) [] = (L.getD k (0, [])).2) : namedL R = L := by
  unfold namedL
  rw [h0, head_count L hm.few, if_neg (by have := hm.few; omega)]
  apply List.ext_getElem?
  intro k
  by_cases hk : k < L.length
  · rw [List.getElem?_map, List.getElem?_range hk]
    have hx : L.getD k (0, []) ∈ L := by rw [List.getD, List.getElem?_eq_getElem hk]; exact List.getElem_mem hk
    have hb := hm.at _ hx
    simp only [Option.map_some]
    rw [head_place L k hk (by omega) (by omega), hR k hk]
    rw [List.getElem?_eq_getElem hk]
    have : L.getD k (0, []) = L[k] := by rw [List.getD, List.getElem?_eq_getElem hk]; rfl
    rw [this]
  · rw [List.getElem?_eq_none (by simp; omega), List.getElem?_eq_none (by omega)]
theorem begun_of (L : List Pt) (size : Int) (R : List (List UInt8)) (hm : mayB L size = true) (hs : size ≤ 65536) (h0 : R.getD 0 [] = hdL L) (hR : ∀ k, k < L.length → R.getD (1 + k) [] = (L.getD k (0, [])).2) : begunL R size = L := by
  unfold begunL
  rw [named_of L size R ((may_iff _ _).1 hm) hs h0 hR, hm, h0]
  simp

theorem rowsL_getD (D : Dk) (k : Nat) (hk : k < 41) : (rowsL D).getD k [] = D.content k := by simp [rowsL, List.getD, hk]
theorem content_still (s : List (List UInt8)) (p : Bool) (b : Int) (k : Nat) : (⟨s, [], p, b⟩ : Dk).content k = s.getD k [] := rfl

theorem may_ne {L : List Pt} {n : Int} (h : mayB L n = true) : L ≠ [] := by
  intro e; subst e; have := ((may_iff _ _).1 h).one; simp at this

/-- recovering what was begun, where no budget is -/
theorem recover_free (L : List Pt) (s : List (List UInt8)) (hm : mayB L s.length = true) (hn : 41 < s.length) (hs : s.length ≤ 2048) (h0 : s.getD 0 [] = hdL L) (hR : ∀ k, k < L.length → s.getD (1 + k) [] = (L.getD k (0, [])).2) :
    recoverOf ⟨s, [], true, -1⟩ = ((L.length : Int), 0, ⟨lay [((0 : Int), sec 0)] (lay L s), [], true, -1⟩) := by
  have hmp := (may_iff _ _).1 hm
  have hb : begunL (rowsL ⟨s, [], true, -1⟩) s.length = L := begun_of L _ _ hm (by omega) (by rw [rowsL_getD _ _ (by omega)]; exact h0) (fun k hk => by rw [rowsL_getD _ _ (by have := hmp.few; omega)]; exact hR k hk)
  have hA : recR L = [.write L, .flush, .write [((0 : Int), sec 0)], .flush] := by unfold recR; rw [if_neg (may_ne hm)]; rfl
  have hpl : plays (recR L) ⟨s, [], true, -1⟩ = (0, ⟨lay [((0 : Int), sec 0)] (lay L s), [], true, -1⟩) := by
    rw [hA, play_write_free _ _ _ (fits_may hmp), play_write_free _ _ _ (by rw [lay_len]; exact fits_zero _ hn)]
    rfl
  rw [recoverOf_some hn rfl (by rw [content_still, h0]; exact hdL_ne L)]
  show (if (plays (recR (begunL (rowsL ⟨s, [], true, -1⟩) s.length)) ⟨s, [], true, -1⟩).1 = 0 then ((begunL (rowsL ⟨s, [], true, -1⟩) s.length).length : Int) else 0, plays (recR (begunL (rowsL ⟨s, [], true, -1⟩) s.length)) ⟨s, [], true, -1⟩) = _
  rw [hb, hpl]
  rfl

theorem lay_getD (L : List Pt) (s : List (List UInt8)) (j : Nat) (hj : j < s.length) : (lay L s).getD j [] = Dk.over (asW L) j (s.getD j []) := Dk.laid_getD _ _ _ hj

/-! ### the examples -/
def s0 : List (List UInt8) := (Dk.new 43).secs
end Go.Proofs.YtjcmphjjkeigjaaGreat

namespace Go.Proofs.YtjcmphjjkeigjaaGreat
open Go.RowKit
set_option linter.unusedVariables false
set_option maxRecDepth 100000
set_option linter.unusedSimpArgs false

/-- puts that came in -/
structure PutsCame (w : World) (a : Option Addr) (n cap : Nat) (M : List PutM) : Prop where
  came : CameAt putC 2 w a n cap M
  bytes : ∀ x ∈ M, BytesAt w x.a x.n x.cap x.b
theorem PutsCame.below {w w' : World} {a : Option Addr} {n cap : Nat} {M : List PutM} (h : PutsCame w a n cap M) (hb : Below w.heap.size w w') : PutsCame w' a n cap M := ⟨h.came.below (by omega) hb, fun x hx => (h.bytes x hx).below hb⟩
theorem PutsCame.head {w : World} {a : Option Addr} {n cap m : Nat} {M : List PutM} (h : PutsCame w a n cap M) (hm : m ≤ n) : PutsCame w a m cap (M.take m) := ⟨h.came.head hm, fun x hx => h.bytes x (List.mem_of_mem_take hx)⟩

open Go.ChangeShapes Go.WideShapes Go.ChangeAt Go.RowKit Go.Deep
open Go.ChangeMaps (open_string shut_string)
def PutM.Good (W : World) (x : PutM) : Prop := BytesAt W x.a x.n x.cap x.b

section
variable {H : Type} {enc : TypeId × Value → H} {W : World} {held : Bool}

end

end Go.Proofs.YtjcmphjjkeigjaaGreat

namespace Go.Proofs.YtjcmphjjkeigjaaGreat
open Go.ChangeShapes Go.WideShapes Go.ChangeAt Go.RowKit Go.Deep
open Go.ChangeMaps (open_string shut_string)
set_option linter.unusedVariables false
set_option linter.unusedSimpArgs false
set_option maxRecDepth 100000

structure ActJ where
  do_ : Int
  i : Int
  c : UInt8
  la : Option Addr
  ln : Nat
  lc : Nat
  lm : List PutM
  ka : Option Addr
  kn : Nat
  kc : Nat
  keep : List Bool
deriving Inhabited

structure ActJ.Good (W : World) (x : ActJ) : Prop where
  ilo : -9223372036854775808 ≤ x.i
  ihi : x.i ≤ 9223372036854775807
  puts : PutsCame W x.la x.ln x.lc x.lm
  keep : BoolsAt W x.ka x.kn x.kc x.keep

section
variable {H : Type} {enc : TypeId × Value → H} {W : World} {held : Bool}

theorem boolsJ_of {fuel : Nat} {cs : List Value} {y : DataW H × List MemPlace} (h : DataW.trod enc Tryz.prog W 0 (fun _ => true) held fuel 38 cs = some y) :
    ∃ a len cap L, cs = [.slice a len cap] ∧ BoolsAt W a len cap L := by
  rcases open_bools Tryz.underlying38 Tryz.underlying4 (by kernel_rfl) h with ⟨hcs, _⟩ | ⟨x, len, cap, B, hcs, _, hl, hm, _, hcell⟩
  · exact ⟨_, _, _, [], hcs, CameAt.nil _ _ _⟩
  · refine ⟨_, _, _, (List.range len).map B, hcs, by simp, hl, hm, fun _ _ => rfl, .inr ⟨x, rfl, fun i j b hi hj => ?_⟩⟩
    have hil : i < len := by simpa using (List.getElem?_eq_some_iff.1 hi).1
    obtain rfl : j = 0 := by omega
    rw [show i * 1 + 0 = i by omega, hcell i (by omega)]
    simp [hil] at hi
    simp [boolC, hi]

end

section
variable {w0 w w' : World} {S T S' T' : Nat → Prop} {g r B : Nat} {D E D' E' : Dk} {x : ActJ}

end

end Go.Proofs.YtjcmphjjkeigjaaGreat

namespace Go.Proofs.YtjcmphjjkeigjaaGreat
set_option linter.unusedVariables false
set_option linter.unusedSimpArgs false
set_option maxRecDepth 100000

/-! ### writes and flushes on any budget -/
theorem wrs_any : ∀ (L : List Pt) (s : List (List UInt8)) (ws : List (Nat × List UInt8)) (b : Int), Fits L s.length →
    ∃ k r p b', wrsOf ⟨s, ws, true, b⟩ L = (r, ⟨s, ws ++ asW (L.take k), p, b'⟩) ∧ ((r = 0 ∧ k = L.length ∧ p = true) ∨ r = 10)
  | [], s, ws, b, _ => ⟨0, 0, true, b, by simp [wrsOf, asW], .inl ⟨rfl, rfl, rfl⟩⟩
  | p :: L, s, ws, b, h => by
    have hp := h p (by simp)
    by_cases hb : b = 0
    · have hw := wr_rec_off s ws b p.1 p.2 hp.1 hp.2.1 hp.2.2 true (.inr hb)
      refine ⟨0, 10, false, b, ?_, .inr rfl⟩
      simp only [wrsOf]
      rw [hw, if_neg (by simp)]
      simp [asW]
    · have hw := wr_rec s ws b p.1 p.2 hp.1 hp.2.1 hp.2.2 hb
      obtain ⟨k, r, q, b', he, hc⟩ := wrs_any L s (ws ++ [(p.1.toNat, p.2)]) (pay b) (fun x hx => h x (by simp [hx]))
      refine ⟨k + 1, r, q, b', ?_, ?_⟩
      · simp only [wrsOf]
        rw [hw, if_pos rfl, he]
        simp [asW]
      · rcases hc with ⟨h1, h2, h3⟩ | h1
        · exact .inl ⟨h1, by simp [h2], h3⟩
        · exact .inr h1

/-- whatever a cut keeps, C holds then; where the answer is OK, nothing waits, and N holds -/
def EndC (C N : List (List UInt8) → Prop) (x : Int × Dk) : Prop := (∀ K, C (Dk.laid K x.2.waits x.2.secs)) ∧ (x.1 = 0 → x.2.waits = [] ∧ N x.2.secs)

theorem pair_end (C N : List (List UInt8) → Prop) (L : List Pt) (r : List Stp) (s : List (List UInt8)) (b : Int) (hf : Fits L s.length)
    (hC : ∀ K k, C (Dk.laid K (asW (L.take k)) s)) (hr : ∀ b', EndC C N (plays r ⟨lay L s, [], true, b'⟩)) : EndC C N (plays (.write L :: .flush :: r) ⟨s, [], true, b⟩) := by
  obtain ⟨k, q, p, b', he, hc⟩ := wrs_any L s [] b hf
  have hw : (Stp.write L).play ⟨s, [], true, b⟩ = (q, ⟨s, asW (L.take k), p, b'⟩) := by show wrsOf _ _ = _; rw [he]; rfl
  rcases hc with ⟨rfl, rfl, rfl⟩ | rfl
  · rw [plays_yes _ (by rw [hw]), hw]
    rw [List.take_length]
    by_cases hb : b' = 0
    · have hfl : (Stp.flush).play ⟨s, asW L, true, b'⟩ = (10, ⟨s, asW L, false, b'⟩) := fl_rec_off _ _ _ _ (.inr hb)
      rw [plays_no _ (by rw [hfl]; simp), hfl]
      refine ⟨fun K => ?_, fun h => by simp at h⟩
      have := hC K L.length
      rw [List.take_length] at this
      exact this
    · have hfl : (Stp.flush).play ⟨s, asW L, true, b'⟩ = (0, ⟨lay L s, [], true, pay b'⟩) := fl_rec _ _ _ hb
      rw [plays_yes _ (by rw [hfl]), hfl]
      exact hr _
  · rw [plays_no _ (by rw [hw]; simp), hw]
    exact ⟨fun K => hC K k, fun h => by simp at h⟩
theorem none_end (C N : List (List UInt8) → Prop) (s : List (List UInt8)) (b : Int) (hC : C s) (hN : N s) : EndC C N (plays [] ⟨s, [], true, b⟩) := ⟨fun K => hC, fun _ => ⟨rfl, hN⟩⟩

/-! ### what is laid -/
theorem laid_still (K : Nat → Bool) (ws : List (Nat × List UInt8)) (s : List (List UInt8)) (j : Nat) (h : ∀ x ∈ ws, x.1 ≠ j) : (Dk.laid K ws s).getD j [] = s.getD j [] := by
  induction ws using Dk.snoc_ind with
  | h0 => rfl
  | h1 l x ih =>
    have ih := ih (fun y hy => h y (by simp [hy]))
    rw [Dk.laid_snoc]
    split
    · rw [List.getD, List.getElem?_set_ne (h x (by simp))]
      exact ih
    · exact ih
theorem over_in (ws : List (Nat × List UInt8)) (j : Nat) (s t : List UInt8) (h : ∃ x ∈ ws, x.1 = j) : Dk.over ws j s = Dk.over ws j t := by
  induction ws using Dk.snoc_ind with
  | h0 => obtain ⟨x, hx, _⟩ := h; simp at hx
  | h1 l x ih =>
    rw [Dk.over_snoc, Dk.over_snoc]
    by_cases hx : x.1 = j
    · rw [if_pos hx, if_pos hx]
    · rw [if_neg hx, if_neg hx]
      obtain ⟨y, hy, hyj⟩ := h
      simp only [List.mem_append, List.mem_singleton] at hy
      rcases hy with hy | rfl
      · exact ih ⟨y, hy, hyj⟩
      · exact absurd hyj hx

/-! ### the states -/
structure OldS (l : List Pt) (s0 s : List (List UInt8)) : Prop where
  len : s.length = s0.length
  head : s.getD 0 [] = sec 0
  home : ∀ j, 41 ≤ j → s.getD j [] = s0.getD j []
structure RdyS (l : List Pt) (s0 s : List (List UInt8)) : Prop where
  len : s.length = s0.length
  head : s.getD 0 [] = hdL l
  copies : ∀ k, k < l.length → s.getD (1 + k) [] = (l.getD k (0, [])).2
  home : ∀ j, 41 ≤ j → (∃ x ∈ asW l, x.1 = j) ∨ s.getD j [] = s0.getD j []
structure NewS (l : List Pt) (s0 s : List (List UInt8)) : Prop where
  len : s.length = s0.length
  head : s.getD 0 [] = sec 0
  home : ∀ j, 41 ≤ j → j < s0.length → s.getD j [] = Dk.over (asW l) j (s0.getD j [])

/-- what there may be, when a commit has answered e -/
def ClsS (e : Int) (l : List Pt) (s0 s : List (List UInt8)) : Prop := NewS l s0 s ∨ (e ≠ 0 ∧ (OldS l s0 s ∨ RdyS l s0 s))

theorem asW_take_mem (l : List Pt) (k : Nat) : ∀ x ∈ asW (l.take k), x ∈ asW l := by
  intro x hx
  obtain ⟨p, hp, rfl⟩ := List.mem_map.1 hx
  exact List.mem_map.2 ⟨p, List.mem_of_mem_take hp, rfl⟩
theorem copies_mem (L : List Pt) : ∀ x ∈ asW (copiesL L), 1 ≤ x.1 ∧ x.1 ≤ L.length := by
  intro x hx
  obtain ⟨p, hp, rfl⟩ := List.mem_map.1 hx
  obtain ⟨y, hy, rfl⟩ := List.mem_map.1 hp
  have := List.mem_zipIdx hy
  dsimp only
  omega
theorem may_mem {L : List Pt} {n : Int} (h : MayP L n) : ∀ x ∈ asW L, 41 ≤ x.1 := by
  intro x hx
  obtain ⟨p, hp, rfl⟩ := List.mem_map.1 hx
  have := h.at p hp
  dsimp only
  omega

theorem copies_snoc (L : List Pt) (p : Pt) : copiesL (L ++ [p]) = copiesL L ++ [(1 + (L.length : Int), p.2)] := by
  simp [copiesL, List.zipIdx_append]
theorem copies_at (L : List Pt) (k : Nat) (hk : k < L.length) (s : List UInt8) : Dk.over (asW (copiesL L)) (1 + k) s = (L.getD k (0, [])).2 := by
  induction L using Dk.snoc_ind with
  | h0 => simp at hk
  | h1 l p ih =>
    rw [copies_snoc]
    unfold asW at ih ⊢
    rw [List.map_append, List.map_singleton, Dk.over_snoc]
    by_cases h : k < l.length
    · rw [if_neg (by dsimp only; omega), ih h]
      simp [List.getD, List.getElem?_append_left h]
    · have hkl : k = l.length := by simp at hk; omega
      rw [if_pos (by dsimp only; omega)]
      simp [List.getD, hkl]

/-- the last two steps of a transaction, from a state that is ready on -/
theorem home_end (e : Int) (l : List Pt) (s0 s : List (List UInt8)) (b : Int) (hm : MayP l s0.length) (hn : 41 < s0.length) (he : e ≠ 0) (h : RdyS l s0 s) :
    EndC (ClsS e l s0) (NewS l s0) (plays (homeR l) ⟨s, [], true, b⟩) := by
  have hmem := may_mem hm
  have hrdy : ∀ K k, RdyS l s0 (Dk.laid K (asW (l.take k)) s) := fun K k => by
    have hlow : ∀ j, j < 41 → (Dk.laid K (asW (l.take k)) s).getD j [] = s.getD j [] := fun j hj => laid_still _ _ _ _ fun x hx => by have := hmem x (asW_take_mem l k x hx); omega
    refine ⟨(Dk.laid_length _ _ _).trans h.len, ?_, fun i hi => ?_, fun j hj => ?_⟩
    · rw [hlow 0 (by omega)]; exact h.head
    · rw [hlow (1 + i) (by have := hm.few; omega)]; exact h.copies i hi
    · by_cases hx : ∃ x ∈ asW l, x.1 = j
      · exact .inl hx
      · right
        rw [laid_still _ _ _ _ fun x hx' hxj => hx ⟨x, asW_take_mem l k x hx', hxj⟩]
        exact (h.home j hj).resolve_left hx
  have hl : RdyS l s0 (lay l s) := by have := hrdy (fun _ => true) l.length; rw [List.take_length] at this; exact this
  have hhome : ∀ j, 41 ≤ j → j < s0.length → (lay l s).getD j [] = Dk.over (asW l) j (s0.getD j []) := fun j hj hjn => by
    rw [lay_getD _ _ _ (by rw [h.len]; exact hjn)]
    rcases h.home j hj with hx | hx
    · exact over_in _ _ _ _ hx
    · rw [hx]
  have hz : ∀ K : Nat → Bool, Dk.laid K (asW [((0 : Int), sec 0)]) (lay l s) = if K 0 then (lay l s).set 0 (sec 0) else lay l s := fun K => Dk.laid_snoc K [] (0, sec 0) (lay l s)
  have hnew : NewS l s0 ((lay l s).set 0 (sec 0)) := by
    refine ⟨by rw [List.length_set]; exact hl.len, ?_, fun j hj hjn => ?_⟩
    · rw [List.getD, List.getElem?_set_self (by rw [hl.len]; omega)]; rfl
    · rw [List.getD, List.getElem?_set_ne (by omega)]; exact hhome j hj hjn
  unfold homeR
  refine pair_end _ _ _ _ _ _ (by rw [h.len]; exact fits_may hm) (fun K k => .inr ⟨he, .inr (hrdy K k)⟩) fun b' => ?_
  refine pair_end _ _ _ _ _ _ (by rw [hl.len]; exact fits_zero _ hn) (fun K k => ?_) fun b'' => ?_
  · match k with
    | 0 => exact .inr ⟨he, .inr hl⟩
    | k + 1 =>
      rw [show List.take (k + 1) [((0 : Int), sec 0)] = [((0 : Int), sec 0)] by simp, hz]
      split
      · exact .inl hnew
      · exact .inr ⟨he, .inr hl⟩
  · have : lay [((0 : Int), sec 0)] (lay l s) = (lay l s).set 0 (sec 0) := by
      have := hz fun _ => true
      rw [if_pos rfl] at this
      exact this
    rw [this]
    exact none_end _ _ _ _ (.inl hnew) hnew

/-- a commit, from a state with an empty head on -/
theorem commit_end (l : List Pt) (s0 : List (List UInt8)) (b : Int) (hm : mayB l s0.length = true) (hn : 41 < s0.length) (h0 : s0.getD 0 [] = sec 0) :
    EndC (ClsS 1 l s0) (NewS l s0) (commitOf ⟨s0, [], true, b⟩ l) := by
  have hmp := (may_iff _ _).1 hm
  have hfew := hmp.few
  unfold commitOf
  rw [if_pos hm]
  unfold commitR
  have hold : ∀ K k, OldS l s0 (Dk.laid K (asW ((copiesL l).take k)) s0) := fun K k => by
    have hmem := fun x hx => copies_mem l x (asW_take_mem (copiesL l) k x hx)
    refine ⟨Dk.laid_length _ _ _, ?_, fun j hj => ?_⟩
    · rw [laid_still _ _ _ _ fun x hx => by have := hmem x hx; omega]; exact h0
    · rw [laid_still _ _ _ _ fun x hx => by have := hmem x hx; omega]
  have hl : OldS l s0 (lay (copiesL l) s0) := by have := hold (fun _ => true) (copiesL l).length; rw [List.take_length] at this; exact this
  have hcp : ∀ k, k < l.length → (lay (copiesL l) s0).getD (1 + k) [] = (l.getD k (0, [])).2 := fun k hk => by
    rw [lay_getD _ _ _ (by omega)]; exact copies_at l k hk _
  have hz : ∀ K : Nat → Bool, Dk.laid K (asW [((0 : Int), hdL l)]) (lay (copiesL l) s0) = if K 0 then (lay (copiesL l) s0).set 0 (hdL l) else lay (copiesL l) s0 := fun K => Dk.laid_snoc K [] (0, hdL l) (lay (copiesL l) s0)
  have hrdy : RdyS l s0 ((lay (copiesL l) s0).set 0 (hdL l)) := by
    refine ⟨by rw [List.length_set]; exact hl.len, ?_, fun k hk => ?_, fun j hj => .inr ?_⟩
    · rw [List.getD, List.getElem?_set_self (by rw [hl.len]; omega)]; rfl
    · rw [List.getD, List.getElem?_set_ne (by omega)]; exact hcp k hk
    · rw [List.getD, List.getElem?_set_ne (by omega)]; exact hl.home j hj
  refine pair_end _ _ _ _ _ _ (fits_copies hmp hn) (fun K k => .inr ⟨by omega, .inl (hold K k)⟩) fun b' => ?_
  refine pair_end _ _ _ _ _ _ (by rw [lay_len]; exact fits_head l _ hfew hn) (fun K k => ?_) fun b'' => ?_
  · match k with
    | 0 => exact .inr ⟨by omega, .inl hl⟩
    | k + 1 =>
      rw [show List.take (k + 1) [((0 : Int), hdL l)] = [((0 : Int), hdL l)] by simp, hz]
      split
      · exact .inr ⟨by omega, .inr hrdy⟩
      · exact .inr ⟨by omega, .inl hl⟩
  · have : lay [((0 : Int), hdL l)] (lay (copiesL l) s0) = (lay (copiesL l) s0).set 0 (hdL l) := by
      have := hz fun _ => true
      rw [if_pos rfl] at this
      exact this
    rw [this]
    exact home_end 1 l s0 _ b'' hmp hn (by omega) hrdy

theorem cls_end {e : Int} {l : List Pt} {s0 : List (List UInt8)} {x : Int × Dk} (h : EndC (ClsS 1 l s0) (NewS l s0) x) (he : x.1 = e) : ∀ K, ClsS e l s0 (Dk.laid K x.2.waits x.2.secs) := by
  intro K
  subst he
  by_cases h0 : x.1 = 0
  · obtain ⟨hw, hN⟩ := h.2 h0
    rw [hw]
    exact .inl hN
  · rcases h.1 K with h1 | ⟨_, h1⟩
    · exact .inl h1
    · exact .inr ⟨h0, h1⟩

/-- what a disk may have in it, whatever a cut keeps -/
def Loose (e : Int) (l : List Pt) (s0 : List (List UInt8)) (D : Dk) : Prop := ∀ K, ClsS e l s0 (Dk.laid K D.waits D.secs)
theorem loose_commit (l : List Pt) (s0 : List (List UInt8)) (b : Int) (hm : mayB l s0.length = true) (hn : 41 < s0.length) (h0 : s0.getD 0 [] = sec 0) :
    Loose (commitOf ⟨s0, [], true, b⟩ l).1 l s0 (commitOf ⟨s0, [], true, b⟩ l).2 := cls_end (commit_end l s0 b hm hn h0) rfl
theorem loose_cut {e : Int} {l : List Pt} {s0 : List (List UInt8)} {D : Dk} (h : Loose e l s0 D) (keep : List Bool) : Loose e l s0 (D.cut keep) := fun K => h _
theorem loose_still {e : Int} {l : List Pt} {s0 s : List (List UInt8)} {p : Bool} {b : Int} (h : ClsS e l s0 s) : Loose e l s0 ⟨s, [], p, b⟩ := fun K => h

/-- recovering, from a state that is ready on -/
theorem rdy_begun {l : List Pt} {s0 s : List (List UInt8)} {p : Bool} {b : Int} (hm : mayB l s0.length = true) (hn : 41 < s0.length) (hs : s0.length ≤ 2048) (h : RdyS l s0 s) :
    begunL (rowsL ⟨s, [], p, b⟩) s.length = l :=
  begun_of l _ _ (by rw [h.len]; exact hm) (by rw [h.len]; omega) (by rw [rowsL_getD _ _ (by omega)]; exact h.head) (fun k hk => by rw [rowsL_getD _ _ (by have := ((may_iff _ _).1 hm).few; omega)]; exact h.copies k hk)
theorem loose_recover {e : Int} {l : List Pt} {s0 s : List (List UInt8)} {b : Int} (hm : mayB l s0.length = true) (hn : 41 < s0.length) (hs : s0.length ≤ 2048) (h : ClsS e l s0 s) :
    Loose e l s0 (recoverOf ⟨s, [], true, b⟩).2.2 := by
  have hquiet : s.length = s0.length → s.getD 0 [] = sec 0 → Loose e l s0 (recoverOf ⟨s, [], true, b⟩).2.2 := fun hlen hz => by
    rw [recoverOf_none (D := ⟨s, [], true, b⟩) (by show 41 < s.length; omega) rfl hz]
    exact loose_still h
  rcases h with h1 | ⟨he, h1 | h1⟩
  · exact hquiet h1.len h1.head
  · exact hquiet h1.len h1.head
  · rw [recoverOf_home (D := ⟨s, [], true, b⟩) (by show 41 < s.length; rw [h1.len]; exact hn) rfl (rdy_begun hm hn hs h1) (may_ne hm)]
    show Loose e l s0 (homeOf l ⟨s, [], true, b⟩).2
    rw [← homeOf_plays]
    exact (home_end e l s0 s b ((may_iff _ _).1 hm) hn he h1).1

/-- what recovering leaves, where no budget is -/
def DoneS (e : Int) (l : List Pt) (s0 s : List (List UInt8)) : Prop := NewS l s0 s ∨ (e ≠ 0 ∧ OldS l s0 s)
theorem loose_done {e : Int} {l : List Pt} {s0 s : List (List UInt8)} (hm : mayB l s0.length = true) (hn : 41 < s0.length) (hs : s0.length ≤ 2048) (h : ClsS e l s0 s) :
    ∃ n s', recoverOf ⟨s, [], true, -1⟩ = (n, 0, ⟨s', [], true, -1⟩) ∧ recoverOf ⟨s', [], true, -1⟩ = (0, 0, ⟨s', [], true, -1⟩) ∧ DoneS e l s0 s' := by
  have hquiet : s.length = s0.length → s.getD 0 [] = sec 0 → recoverOf ⟨s, [], true, -1⟩ = (0, 0, ⟨s, [], true, -1⟩) := fun hlen hz => recoverOf_none (by show 41 < s.length; omega) rfl hz
  rcases h with h1 | ⟨he, h1 | h1⟩
  · exact ⟨0, s, hquiet h1.len h1.head, hquiet h1.len h1.head, .inl h1⟩
  · exact ⟨0, s, hquiet h1.len h1.head, hquiet h1.len h1.head, .inr ⟨he, h1⟩⟩
  · have hr := recover_free l s (by rw [h1.len]; exact hm) (by rw [h1.len]; exact hn) (by rw [h1.len]; exact hs) h1.head h1.copies
    have hE := home_end e l s0 s (-1) ((may_iff _ _).1 hm) hn he h1
    have h2 := recoverOf_home (D := ⟨s, [], true, -1⟩) (by show 41 < s.length; rw [h1.len]; exact hn) rfl (rdy_begun hm hn hs h1) (may_ne hm)
    rw [← homeOf_plays] at h2
    have h3 : plays (homeR l) ⟨s, [], true, -1⟩ = (0, ⟨lay [((0 : Int), sec 0)] (lay l s), [], true, -1⟩) := by
      have := h2.symm.trans hr
      exact congrArg (·.2) this
    rw [h3] at hE
    have hN := (hE.2 rfl).2
    refine ⟨_, _, hr, ?_, .inl hN⟩
    exact recoverOf_none (by show 41 < (lay _ _).length; rw [lay_len, lay_len, h1.len]; exact hn) rfl hN.head

/-- the state ahead: an empty head, nothing waits -/
structure BaseS (n : Nat) (s : List (List UInt8)) : Prop where
  len : s.length = n
  head : s.getD 0 [] = sec 0
theorem base_commit (n : Nat) (L : List Pt) (s : List (List UInt8)) (h : BaseS n s) (hn : 41 < n) (hm : mayB L (n : Nat) = true) :
    ∃ s', commitOf ⟨s, [], true, -1⟩ L = (0, ⟨s', [], true, -1⟩) ∧ BaseS n s' := by
  have hc := commit_free L s (by rw [h.len]; exact hm) (by rw [h.len]; exact hn)
  have hE := commit_end L s (-1) (by rw [h.len]; exact hm) (by rw [h.len]; exact hn) h.head
  rw [hc] at hE
  have hN := (hE.2 rfl).2
  exact ⟨_, hc, hN.len.trans h.len, hN.head⟩

/-! ### recovering whatever there is, where no budget is -/
open Go.ChangeShapes Go.WideShapes Go.ChangeAt Go.RowKit Go.Deep
open Go.ChangeMaps (open_string shut_string)
structure FailM where
  n : Nat
  ka : Option Addr
  kn : Nat
  kc : Nat
  keep : List Bool
deriving Inhabited

def failC (x : FailM) : List Value := [.int .u16 x.n, .slice x.ka x.kn x.kc]
structure FailM.Good (W : World) (x : FailM) : Prop where
  few : x.n ≤ 65535
  keep : BoolsAt W x.ka x.kn x.kc x.keep

section
variable {H : Type} {enc : TypeId × Value → H} {W : World} {held : Bool}
theorem fail_of {fuel : Nat} {cs : List Value} {y : DataW H × List MemPlace} (h : DataW.trod enc Tryz.prog W 0 (fun _ => true) held fuel 73 cs = some y) : ∃ x : FailM, cs = failC x ∧ x.Good W := by
  obtain ⟨xs, n, _, _, hlen, hxl, hf⟩ := DataW.trod_struct Tryz.underlying73 h
  have h2 : cs.length = 2 := hlen.trans (by kernel_rfl)
  have hx2 : xs.length = 2 := hxl.trans (by simp)
  have c1 : Tryz.prog.cellsOf 71 = 1 := by kernel_rfl
  have c2 : Tryz.prog.cellsOf 38 = 1 := by kernel_rfl
  match cs, h2, xs, hx2 with
  | [v0, v1], _, [y0, y1], _ =>
    have g0 := hf 0 _ rfl
    have g1 := hf 1 _ rfl
    simp only [c1, c2, List.drop_zero, List.drop_succ_cons, List.take_succ_cons, List.take_zero, List.getElem?_cons_zero, List.getElem?_cons_succ] at g0 g1
    obtain ⟨n0, e0, _, w0⟩ := DataW.trod_int Tryz.underlying71 g0
    obtain ⟨a, len, cap, L, e1, hb⟩ := boolsJ_of g1
    obtain ⟨rfl, _⟩ := List.cons.inj e0
    obtain ⟨rfl, _⟩ := List.cons.inj e1
    have r0 : 0 ≤ n0 ∧ n0 ≤ 65535 := by
      simpa [Lit.wf, IntKind.min, IntKind.max, IntKind.signed, IntKind.bits] using w0
    refine ⟨⟨n0.toNat, a, len, cap, L⟩, ?_, by dsimp only; omega, hb⟩
    have : ((n0.toNat : Nat) : Int) = n0 := by omega
    simp only [failC, this]

theorem fails_of {r : Reach} {b0 : Nat} {v : Value} {d : DataW H} {p : List MemPlace} (hv : Value.okWide Tryz.prog W r b0 67 v) (h : DataW.Trod enc Tryz.prog W 0 (fun _ => true) held 67 v d p) :
    ∃ a n cap L, v = .slice a n cap ∧ CameAt failC 2 W a n cap L ∧ ∀ x ∈ L, x.Good W := by
  have c5 : Tryz.prog.cellsOf 73 = 2 := by kernel_rfl
  rcases slice_of Tryz.underlying67 hv h with rfl | ⟨x, len, cap, rfl, hl, hm, hx⟩
  · exact ⟨_, _, _, [], rfl, CameAt.nil _ _ _, by simp⟩
  · obtain ⟨B, hB⟩ := choose_lt (α := FailM) (n := len) (p := fun i y => (∀ j, j < 2 → W.cell? (x.add (i * 2 + j)) = (failC y)[j]?) ∧ y.Good W) (fun i hi => by
      obtain ⟨cs, n, y, h1, h2, h3⟩ := hx i hi
      obtain ⟨z, rfl, hz⟩ := fail_of h3
      rw [c5] at h2
      exact ⟨z, fun j hj => h2 j (by simpa [failC] using hj), hz⟩)
    refine ⟨_, _, _, (List.range len).map B, rfl, ⟨by simp, hl, hm, fun _ _ => rfl, .inr ⟨x, rfl, fun i j y hi hj => ?_⟩⟩, fun y hy => ?_⟩
    · have hil : i < len := by simpa using (List.getElem?_eq_some_iff.1 hi).1
      simp [hil] at hi
      rw [← hi]
      exact (hB i hil).1 j hj
    · simp only [List.mem_map, List.mem_range] at hy
      obtain ⟨i, hi, rfl⟩ := hy
      exact (hB i hi).2
end

section
variable {w0 w w' : World} {S S' U : Nat → Prop} {g n c : Nat} {D D' : Dk} {a : Option Addr} {M : List PutM}
end

section
variable {w0 w w' w'' : World} {S S' U : Nat → Prop} {g n c : Nat} {D D' : Dk} {a : Option Addr} {M : List PutM} {vs vs' : Value} {R : List (List UInt8)} {x : List UInt8}
end

end Go.Proofs.YtjcmphjjkeigjaaGreat
