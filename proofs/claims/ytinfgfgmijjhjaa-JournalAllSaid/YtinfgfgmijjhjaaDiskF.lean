/-
  Contracts of package disk: content (a range over slices.Backward), Read.
-/
import Derived.Test.YtinfgfgmijjhjaaDiskE
import Derived.RangeFuncNested
import Derived.RangeFuncBound
import Derived.RangeFuncCalls
import Derived.RangeFuncLeaves
import Derived.Shelf.Abstract
import Derived.Shelf.RegionOpen
import Derived.OwnWalkIn
import Derived.TacticsInMore
import Derived.LoopNIn
import Derived.LoopIn
namespace Go.Proofs.Ytinfgfgmijjhjaa
open Go.RowKit Go.Shelf
set_option linter.unusedVariables false
set_option linter.unusedSimpArgs false
attribute [local go_sem] Oper.semAt_some

theorem wpListIn_load_mid {F : Fence} {n : Nat} {P : Program} {ops : Array Oper} {rest : List Oper} {o : Oper} {a : Act} {w : World} {Q : Exit → Act → World → Prop} (hgd : o.guard = none) (ty : TypeId) (x : Operand) (ho : o.op = .load ty x)
    (b off : Nat) (hx : a.eval x = .pointer (some ⟨b, off, none⟩)) (cs : List Value) (d : TypeDesc) (hc : w.rangeAt b off cs)
    (hu : P.underlying ty = some d) (hd : d.isRow = true) (hi : (P.info? ty).map (·.size) = some cs.length)
    (h : wpListIn F n P ops Q rest (a.put o.dst (.agg cs.toArray)) w) : wpListIn F n P ops Q (o :: rest) a w := by
  refine wpListIn_plain hgd fun K hK => ?_
  unfold Oper.wpIn
  refine ⟨by simp [Oper.about, ho], ?_⟩
  rw [Oper.semAt_plain F _ _ (by rw [ho]; intro c hc'; cases hc')]
  simp only [execOp, ho, hx, Instr.loadAt, Instr.sureAddr, Sem.run_bind, Sem.run_pure, Result.andThen_ok, run_loadVar_mid w b off ty cs d hc hu hd hi]
  exact hK _ _ h
theorem wpListIn_store_row {F : Fence} {n : Nat} {P : Program} {ops : Array Oper} {rest : List Oper} {o : Oper} {a : Act} {w : World} {Q : Exit → Act → World → Prop} (hgd : o.guard = none) (ty : TypeId) (x y : Operand) (ho : o.op = .store ty x y)
    (g : Nat) (cells : Array Value) (hx : a.eval x = .pointer (some ⟨g, 0, none⟩)) (hy : a.eval y = .agg cells)
    (t : TypeId) (old : Array Value) (hg : w.heap[g]? = some (.cells old t (0, 0))) (hi : (P.info? ty).map (·.size) = some cells.size)
    (hold : old.size = cells.size) (h1 : cells.all (·.oneCell') = true)
    (h : wpListIn F n P ops Q rest (a.put o.dst undef) (w.setRow g cells)) : wpListIn F n P ops Q (o :: rest) a w := by
  refine wpListIn_plain hgd fun K hK => ?_
  unfold Oper.wpIn
  refine ⟨by simp [Oper.about, ho], ?_⟩
  rw [Oper.semAt_plain F _ _ (by rw [ho]; intro c hc'; cases hc')]
  simp only [execOp, ho, hx, hy, Instr.storeAt, Instr.sureAddr, Sem.run_bind, Sem.run_pure, Result.andThen_ok, run_storeVar_row w g t ty old cells hg hi hold h1]
  exact hK _ _ h

def Wt := Nat × List UInt8

set_option maxRecDepth 100000 in
set_option maxHeartbeats 2000000 in
/-- slices.Backward's closure: from the last to the first, for every loop body that keeps what lay below n₀ -/
theorem back1_in (F : Fence) (n : Nat) (hF : F.fn 87) (hro : F.round = none) (hn : 1 ≤ n) (l Bs n₀ : Nat) (v : Value) (T : List (Nat × List UInt8)) (hm : T.length ≤ 1073741824)
    (J Jx : List (Fin T.length) → World → Prop)
    (hY : ∀ pre (x : Fin T.length) W, J pre W → pre.length < T.length → YieldAt F (n - 1) Try.prog l #[.int .i64 (x.1 : Int), .agg (waitC (T[x.1]'x.2)).toArray] W fun e W' =>
      (e = .returned (.bool true) ∧ J (pre ++ [x]) W' ∧ Below n₀ W W') ∨ (e = .returned (.bool false) ∧ Jx (pre ++ [x]) W'))
    (W : World) (hBs : W.cell? ⟨Bs, 0, none⟩ = some v) (hBl : Bs < n₀) (hv : ∀ k, v.ownBlock = some k → k < n₀) (hR : Recs waitC W 108 129 v T) (h0 : J [] W) :
    CallsIn F n Try.prog 87 #[.func (.yield l) #[] #[], .pointer (some ⟨Bs, 0, none⟩)] W fun e W' => (∃ v, e = .returned v) ∧
      ((∃ ys, (∀ j, j ∈ ys) ∧ J ys W') ∨ (∃ pre, (∃ ini k, pre = ini ++ [k] ∧ ∀ j, k < j → j ∈ ini) ∧ Jx pre W')) := by
  obtain ⟨av, capv, rfl, hvl, hvm⟩ := hR.form
  have HR := Lib.hid hR
  have HV := Lib.hid hv
  have HY := Lib.hid hY
  clear hR hv hY hvl hvm
  refine callsIn_of_wp Try.func87 rfl hF ?_ hro
  simp only [Try.ntmps87, List.size_toArray, List.length_cons, List.length_nil, Nat.reduceAdd, Nat.reduceSub, Array.replicate_succ, Array.replicate_zero, List.push_toArray, List.append_toArray, List.nil_append, List.cons_append]
  gi_wp2
  gi_loopw [3] (fun i wr => ∃ (k : Nat) (pre : List (Fin T.length)), k ≤ T.length ∧ i = .int .i64 ((k : Int) - 1) ∧ (∀ j : Fin T.length, k ≤ j.1 → j ∈ pre) ∧ pre.length = T.length - k ∧ J pre wr ∧ Below n₀ W wr)
    (fun i _ => (intOf i + 1).toNat)
  case atStart => exact ⟨T.length, [], Nat.le_refl _, rfl, fun j hj => absurd j.2 (by omega), by simp, h0, Below.refl _ _⟩
  case round =>
    obtain ⟨k, pre, hk, rfl, hpre, hlen, hJ, hb⟩ := hrel
    have HP := Lib.hid hpre
    have HL := Lib.hid hlen
    have HB := Lib.hid hb
    have hcell : wr.cell? ⟨Bs, 0, none⟩ = some (.slice av T.length capv) := (hb.cell (p := ⟨Bs, 0, none⟩) hBl).trans hBs
    have hr : Recs waitC wr 108 129 (.slice av T.length capv) T := HR.out.keep fun k hk => hb.block k (HV.out k hk)
    have HRR := Lib.hid hr
    clear hpre hlen hb hr
    by_cases h1 : 1 ≤ k
    · obtain ⟨q, rfl⟩ : ∃ q, k = q + 1 := ⟨k - 1, by omega⟩
      have hq : q < T.length := by omega
      obtain ⟨gw, capw, hv, _, _, hgw⟩ := HRR.out.form' (by omega)
      simp only [Value.slice.injEq, true_and] at hv
      obtain ⟨rfl, rfl⟩ := hv
      have hr := HRR.out.rangeAt q T[q] (List.getElem?_eq_getElem hq)
      have HRA := Lib.hid hr
      have HSL := Lib.hid (show (Try.prog.info? 108).map (·.size) = some (waitC T[q]).length by rw [HRR.out.1 _ (List.getElem_mem hq)]; exact sizeWait)
      have e1 : ((q + 1 : Nat) : Int) - 1 = (q : Int) := by omega
      rw [e1] at *
      have hq0 : (0 : Int) ≤ (q : Int) := by omega
      have hq1 : (q : Int) < (T.length : Int) := by omega
      have hyy : YieldAt F (n - 1) Try.prog l #[.int .i64 (q : Int), .agg (waitC T[q]).toArray] wr (fun e W' =>
        (e = .returned (.bool true) ∧ J (pre ++ [⟨q, hq⟩]) W' ∧ Below n₀ wr W') ∨ (e = .returned (.bool false) ∧ Jx (pre ++ [⟨q, hq⟩]) W')) := HY.out pre ⟨q, hq⟩ wr hJ (by rw [HL.out]; omega)
      obtain ⟨fn, tmps, assign, body, hy, hRn⟩ := hyy
      clear hr e1
      gi_wp2_with (refine wpListIn_load_mid rfl 108 _ rfl gw (q * 129) rfl (waitC T[q]) _ HRA.out Try.underlying108 rfl HSL.out ?_)
      refine hRn.mono ?_
      rintro e W3 (⟨rfl, hJ3, hk3⟩ | ⟨rfl, hJx3⟩)
      · gi_wp2
        go_roundw
        case rel => exact ⟨q, pre ++ [⟨q, hq⟩], by omega, by simp, fun j hj => by
            by_cases hjq : j.1 = q
            · exact List.mem_append.2 (.inr (by simp; exact Fin.ext hjq))
            · exact List.mem_append.2 (.inl (HP.out j (by omega))), by simp [HL.out]; omega, hJ3, HB.out.trans hk3⟩
        case measure => simp [intOf]
      · gi_wp2
        refine bodyPost_ret (results_none rfl _ _ _) rfl ?_
        exact ⟨⟨_, rfl⟩, .inr ⟨_, ⟨pre, ⟨q, hq⟩, rfl, fun j hj => HP.out j (by have : q < j.1 := hj; omega)⟩, hJx3⟩⟩
    · obtain rfl : k = 0 := by omega
      gi_wp2
      go_end0
      exact ⟨⟨_, rfl⟩, .inl ⟨pre, fun j => HP.out j (Nat.zero_le _), hJ⟩⟩

theorem backward_in (F : Fence) (n : Nat) (hF : F.fn 78) (hro : F.round = none) (a : Option Addr) (len cap : Nat) (w : World) :
    CallsIn F n Try.prog 78 #[.slice a len cap] w fun e w' => e = .returned (.func (.func 87) #[] #[.pointer (some ⟨w.heap.size, 0, none⟩)]) ∧ w' = w.alloc (.cells #[.slice a len cap] 81) := by
  refine callsIn_of_wp Try.func78 rfl hF ?_ hro
  simp only [Try.ntmps78, List.size_toArray, List.length_cons, List.length_nil, Nat.reduceAdd, Nat.reduceSub, Array.replicate_succ, Array.replicate_zero, List.push_toArray, List.append_toArray, List.nil_append, List.cons_append]
  gi_wp2
  go_ret
  exact ⟨rfl, rfl⟩

theorem back_stops (F : Fence) (n : Nat) (hF : F.fn 87) (hro : F.round = none) (hn : 1 ≤ n) (Bs n₀ : Nat) (v : Value) (T : List (Nat × List UInt8)) (hm : T.length ≤ 1073741824)
    (w : World) (hBs : w.cell? ⟨Bs, 0, none⟩ = some v) (hBl : Bs < n₀) (hn₀ : n₀ ≤ w.heap.size) (hv : ∀ k, v.ownBlock = some k → k < n₀) (hR : Recs waitC w 108 129 v T) :
    SeqStopsK F n Try.prog 87 #[.pointer (some ⟨Bs, 0, none⟩)] (fun x : Fin T.length => #[.int .i64 (x.1 : Int), .agg (waitC (T[x.1]'x.2)).toArray]) (Below n₀)
      (fun ys => ∀ j, j ∈ ys) (fun pre => ∃ ini k, pre = ini ++ [k] ∧ ∀ j, k < j → j ∈ ini) T.length w := fun l J Jx W hW _ _ hY h0 =>
  back1_in F n hF hro hn l Bs n₀ v T hm J Jx hY W ((hW.cell (p := ⟨Bs, 0, none⟩) (by show Bs < _; omega)).trans hBs) hBl hv (hR.keep fun k hk => hW.block k (by have := hv k hk; omega)) h0

/-- a block of cells, kept by whatever turns no cells -/
theorem rowed_own {β : Type} (B : Nat) (t : TypeId) (f : β → Array Value) : Own (fun s W => W.heap[B]? = some (.cells (f s) t (0, 0))) := fun s X Y row hs hg hrow => by
  refine (hg.block B (Array.getElem?_eq_some_iff.1 hs).1 (fun e' => ?_)).trans hs
  obtain ⟨o, ho, hc⟩ := hrow B e'.symm
  rw [show X.heap[B]? = _ from hs] at ho
  cases ho
  cases hc

theorem keepsFrom_setRow {B g : Nat} {W : World} {old cs : Array Value} {t : TypeId} {fr : Nat × Nat} (h : W.heap[g]? = some (.cells old t fr)) : KeepsFrom B W (W.setRow g cs) :=
  ⟨by simp, fun k o _ h0 hc => by
    by_cases e : k = g
    · subst e; rw [h] at h0; cases h0; cases hc
    · exact (heap_setRow_other W g k cs e).trans h0⟩
theorem keepsFrom_of_below {B : Nat} {W W' : World} (h : Below W.heap.size W W') : KeepsFrom B W W' :=
  ⟨h.size, fun k o _ h0 _ => (h.block k (Array.getElem?_eq_some_iff.1 h0).1).trans h0⟩

set_option maxRecDepth 100000 in
set_option maxHeartbeats 2000000 in
theorem content_any (g : Nat) (i : Nat) (D : Dk) (S : Nat → Prop) (w : World) (h : DiskAt w S g D) (hi : i < D.secs.length) :
    Calls Try.prog 65 #[.pointer (some ⟨g, 0, none⟩), .int .i64 i] w fun e w' => e = .returned (.agg (vals (D.content i)).toArray) ∧ Below w.heap.size w w' := by
  obtain ⟨vs, vw, h⟩ := h
  have HD := Lib.hid h
  obtain ⟨c0, c1, c2, c3, hf⟩ := DiskAt.cells (S := S) h.blk
  obtain ⟨aw, capw, rfl, _, _⟩ := h.waits.form
  have hgl := h.lt g h.self
  obtain ⟨Z, hZ, hz⟩ := zeroWait
  obtain ⟨Y, hYs, hzs⟩ := zeroSec
  have HZ := Lib.hid hZ
  have HY := Lib.hid hYs
  clear h hf c2 c3 hZ hYs
  refine (callsIn_wide (n := 3)).1 ?_
  refine callsIn_of_wp_marks Try.func65 rfl trivial ?_ rfl
  simp only [Try.ntmps65, List.size_toArray, List.length_cons, List.length_nil, Nat.reduceAdd, Nat.reduceSub, Array.replicate_succ, Array.replicate_zero, List.push_toArray, List.append_toArray, List.nil_append, List.cons_append]
  gi_wp2_with (refine ⟨trivial, ?_⟩; gi_at_call 78; refine (backward_in _ _ trivial rfl _ _ _ _).mono ?_; rintro e w' ⟨rfl, rfl⟩)
  have HBX := Lib.hid (show ((w.alloc (.cells #[.int .i64 (i : Int)] 3)).alloc (.cells Y 106)).heap[w.heap.size]? = some (.cells #[.int .i64 (i : Int)] 3 (0, 0)) from heap_alloc2_old w _ _)
  have hb0 : Below w.heap.size w (((w.alloc (.cells #[.int .i64 (i : Int)] 3)).alloc (.cells Y 106)).alloc (.cells #[.slice aw D.waits.length capw] 81)) := (((Below.refl _ w).alloc (Nat.le_refl _) _).alloc (by simp) _).alloc (by simp; omega) _
  have hbox : (((w.alloc (.cells #[.int .i64 (i : Int)] 3)).alloc (.cells Y 106)).alloc (.cells #[.slice aw D.waits.length capw] 81)).heap[w.heap.size]? = some (.cells #[.int .i64 (i : Int)] 3 (0, 0)) := by
    rw [Below.heap_alloc _ _ _ (by simp; omega)]; exact heap_alloc2_old w _ _
  have hres : (((w.alloc (.cells #[.int .i64 (i : Int)] 3)).alloc (.cells Y 106)).alloc (.cells #[.slice aw D.waits.length capw] 81)).heap[w.heap.size + 1]? = some (.cells Y 106 (0, 0)) := by
    rw [Below.heap_alloc _ _ _ (by simp)]; exact heap_alloc2_new w _ _
  have hslb : (((w.alloc (.cells #[.int .i64 (i : Int)] 3)).alloc (.cells Y 106)).alloc (.cells #[.slice aw D.waits.length capw] 81)).heap[w.heap.size + 1 + 1]? = some (.cells #[.slice aw D.waits.length capw] 81 (0, 0)) := by
    have := heap_alloc_new ((w.alloc (.cells #[.int .i64 (i : Int)] 3)).alloc (.cells Y 106)) (.cells #[.slice aw D.waits.length capw] 81)
    simpa using this
  have hsl : (((w.alloc (.cells #[.int .i64 (i : Int)] 3)).alloc (.cells Y 106)).alloc (.cells #[.slice aw D.waits.length capw] 81)).cell? ⟨w.heap.size + 1 + 1, 0, none⟩ = some (.slice aw D.waits.length capw) := by
    have := cell_of_row _ _ 0 _ _ _ (heap_alloc_new ((w.alloc (.cells #[.int .i64 (i : Int)] 3)).alloc (.cells Y 106)) (.cells #[.slice aw D.waits.length capw] 81))
    simpa using this
  have hsz : (((w.alloc (.cells #[.int .i64 (i : Int)] 3)).alloc (.cells Y 106)).alloc (.cells #[.slice aw D.waits.length capw] 81)).heap.size = w.heap.size + 3 := by simp
  have hd0 := HD.out.below hb0
  generalize ((w.alloc (.cells #[.int .i64 (i : Int)] 3)).alloc (.cells Y 106)).alloc (.cells #[.slice aw D.waits.length capw] 81) = w0 at *
  refine wpIn_rangeFunc_ownH (encs := fun x : Fin D.waits.length => #[.int .i64 (x.1 : Int), .agg (waitC (D.waits[x.1]'x.2)).toArray]) rfl (by omega) (gf := 87) (lb := #[.pointer (some ⟨w.heap.size + 1 + 1, 0, none⟩)]) rfl trivial (enters_of Try.func87 (by kernel_rfl) rfl)
    (back_stops _ _ trivial rfl (by omega) (w.heap.size + 1 + 1) (w.heap.size + 3) _ D.waits hd0.ok.few w0 hsl (by omega) (by omega) (fun k hk => by have := HD.out.lt k (HD.out.inW k hk); omega) hd0.waits) belowK_t (belowK_b (by omega)) (Below.refl _ _) (fun _ => rfl)
    (fun (pre : List (Fin D.waits.length)) W => ((∀ x ∈ pre, (D.waits[x.1]'x.2).1 ≠ i) ∧ W.heap[w.heap.size]? = some (.cells #[.int .i64 (i : Int)] 3 (0, 0)) ∧ W.heap[w.heap.size + 1]? = some (.cells Y 106 (0, 0)) ∧ W.heap[w.heap.size + 1 + 1]? = some (.cells #[.slice aw D.waits.length capw] 81 (0, 0))) ∧ Below w.heap.size w W)
    (fun c (pre : List (Fin D.waits.length)) W => (c = .ret ∧ ∃ (ini : List (Fin D.waits.length)) (last : Fin D.waits.length), pre = ini ++ [last] ∧ (∀ x ∈ ini, (D.waits[x.1]'x.2).1 ≠ i) ∧ (D.waits[last.1]'last.2).1 = i ∧ W.heap[w.heap.size + 1]? = some (.cells (vals (D.waits[last.1]'last.2).2).toArray 106 (0, 0))) ∧ Below w.heap.size w W)
    (OwnFrom.and (Own.from (fun s A B row hs hg hr => ⟨hs.1, rowed_own (β := Unit) w.heap.size 3 (fun _ => #[.int .i64 (i : Int)]) () A B row hs.2.1 hg hr, rowed_own (β := Unit) (w.heap.size + 1) 106 (fun _ => Y) () A B row hs.2.2.1 hg hr, rowed_own (β := Unit) (w.heap.size + 1 + 1) 81 (fun _ => #[.slice aw D.waits.length capw]) () A B row hs.2.2.2 hg hr⟩) _) (ownFrom_below (Nat.le_refl _) (by omega)))
    (fun c => OwnFrom.and (Own.from (fun s A B row hs hg hr => by obtain ⟨hc, ini, last, e1, e2, e3, e4⟩ := hs; exact ⟨hc, ini, last, e1, e2, e3, rowed_own (β := Unit) (w.heap.size + 1) 106 (fun _ => (vals (D.waits[last.1]'last.2).2).toArray) () A B row e4 hg hr⟩) _) (ownFrom_below (Nat.le_refl _) (by omega)))
    ⟨⟨by simp, hbox, hres, hslb⟩, hb0⟩
    (fun (x : Fin D.waits.length) a' W => ∃ Bx, w.heap.size + 3 ≤ Bx ∧ W.heap[Bx]? = some (.cells (waitC (D.waits[x.1]'x.2)).toArray 108 (0, 0)) ∧ a' = { tmps := #[.pointer (some ⟨g, 0, none⟩), .int .i64 (i : Int), undef, .pointer (some ⟨w.heap.size, 0, none⟩), .pointer (some ⟨w.heap.size + 1, 0, none⟩), undef, .pointer (some ⟨Bx, 0, none⟩), .pointer (some ⟨g, 0, none⟩), .pointer (some ⟨g, 0, none⟩), .pointer (some ⟨g, 1, none⟩), .slice aw D.waits.length capw, .func (.func 87) #[] #[.pointer (some ⟨w.heap.size + 1 + 1, 0, none⟩)], .int .i64 (x.1 : Int), .agg (waitC (D.waits[x.1]'x.2)).toArray, undef, undef, undef, undef, undef, undef, undef, undef, undef, undef, undef, undef, undef], defers := [] })
    (fun (x : Fin D.waits.length) a' => Own.from (fun s A B row hs hg hr => by obtain ⟨Bx, h1, h2, h3⟩ := hs; exact ⟨Bx, h1, rowed_own (β := Unit) Bx 108 (fun _ => (waitC (D.waits[x.1]'x.2)).toArray) () A B row h2 hg hr, h3⟩) _) ?assign ?body ?done ?stop
  case assign =>
    rintro l pre x W K ⟨⟨hp, hbx, hrs, hsb⟩, hB⟩ hK
    have hlen := waitC_length (D.waits[x.1]'x.2) (HD.out.ok.wait _ (List.getElem_mem x.2)).2
    have HW := Lib.hid (show W.heap.size ≥ w.heap.size + 3 by have := (Array.getElem?_eq_some_iff.1 hsb).1; omega)
    have HZW := Lib.hid (show Z.size = (waitC (D.waits[x.1]'x.2)).toArray.size by rw [List.size_toArray]; exact HZ.out.trans hlen.symm)
    have HSW := Lib.hid (show (Try.prog.info? 108).map (·.size) = some (waitC (D.waits[x.1]'x.2)).toArray.size by rw [List.size_toArray, hlen]; exact sizeWait)
    have HP := Lib.hid hp
    have HBX := Lib.hid hbx
    have HRS := Lib.hid hrs
    have HSB := Lib.hid hsb
    clear hlen hp hbx hrs hsb
    gi_wp2_with (refine wpListIn_store_row rfl 108 _ _ rfl W.heap.size (waitC (D.waits[x.1]'x.2)).toArray rfl rfl 108 Z (heap_alloc_new W _) HSW.out HZW.out (all_oneCell_toArray (waitC_one _)) ?_)
    have hbel : Below W.heap.size W ((W.alloc (.cells Z 108)).setRow W.heap.size (waitC (D.waits[x.1]'x.2)).toArray) := below_setRow ((Below.refl _ _).alloc (Nat.le_refl _) _) (Nat.le_refl _) _
    exact hK _ _ (keepsFrom_of_below hbel) (hbel.mono HW.out) ⟨⟨HP.out, (hbel.block _ (Array.getElem?_eq_some_iff.1 HBX.out).1).trans HBX.out, (hbel.block _ (Array.getElem?_eq_some_iff.1 HRS.out).1).trans HRS.out, (hbel.block _ (Array.getElem?_eq_some_iff.1 HSB.out).1).trans HSB.out⟩, hB.trans (hbel.mono (by have := HW.out; omega))⟩
      ⟨W.heap.size, HW.out, heap_setRow_same _ _ _ _ _ (heap_alloc_new W _), rfl⟩
  case body =>
    rintro l pre x a' W hl ⟨r, hr⟩ ⟨⟨hp, hbx, hrs, hsb⟩, hB⟩ ⟨Bx, hBx, hwx, rfl⟩ hlt
    obtain ⟨cb0, rb1⟩ := box_wait hwx
    have ci : W.cell? ⟨w.heap.size, 0, none⟩ = some (.int .i64 (i : Int)) := by rw [cell_of_row _ _ _ _ _ _ hbx]; rfl
    have hwt := HD.out.ok.wait _ (List.getElem_mem x.2)
    have HSL := Lib.hid (show (Try.prog.info? 106).map (·.size) = some (vals (D.waits[x.1]'x.2).2).length by rw [vals_length, hwt.2]; exact sizeSec)
    have HSA := Lib.hid (show (Try.prog.info? 106).map (·.size) = some (vals (D.waits[x.1]'x.2).2).toArray.size by rw [List.size_toArray]; exact HSL.out)
    have hsv : (vals (D.waits[x.1]'x.2).2).toArray.size = 128 := by rw [List.size_toArray, vals_length]; exact hwt.2
    have HYS := Lib.hid (HY.out.trans hsv.symm)
    have HP := Lib.hid hp
    have HBX := Lib.hid hbx
    have HRS := Lib.hid hrs
    have HSB := Lib.hid hsb
    have HRB := Lib.hid rb1
    have HB := Lib.hid hB
    clear hp hbx hrs hsb rb1 hwx hwt hB hsv
    by_cases hx : (D.waits[x.1]'x.2).1 = i
    · have HX := Lib.hid hx
      have hxb : (((D.waits[x.1]'x.2).1 : Int) == (i : Int)) = true := by rw [hx]; simp
      clear hx
      gi_wp2_with (first
        | (refine wpListIn_load_mid rfl 106 _ rfl Bx 1 rfl (vals (D.waits[x.1]'x.2).2) _ HRB.out Try.underlying106 rfl HSL.out ?_)
        | (refine wpListIn_store_row rfl 106 _ _ rfl (w.heap.size + 1) (vals (D.waits[x.1]'x.2).2).toArray rfl rfl 106 Y HRS.out HSA.out HYS.out (vals_one _) ?_))
      exact ⟨keepsFrom_setRow HRS.out, ⟨rfl, pre, x, rfl, HP.out, HX.out, heap_setRow_same _ _ _ _ _ HRS.out⟩, below_setRow HB.out (by omega) _⟩
    · have HX := Lib.hid hx
      have hxb : (((D.waits[x.1]'x.2).1 : Int) == (i : Int)) = false := by rw [beq_eq_false_iff_ne]; omega
      clear hx
      gi_wp2
      exact ⟨KeepsFrom.refl _ _, Below.refl _ _, ⟨fun y hy => (List.mem_append.1 hy).elim (HP.out y) (fun e => by simp at e; subst e; exact HX.out), HBX.out, HRS.out, HSB.out⟩, HB.out⟩
  case done =>
    rintro D' ys W hD hall ⟨⟨hne, hbx, hrs, hsb⟩, hB⟩ hK
    have hcon : D.content i = D.secs.getD i [] := Dk.over_none _ _ _ fun x hx => by
      obtain ⟨j, hj, rfl⟩ := List.mem_iff_getElem.1 hx
      exact hne ⟨j, hj⟩ (hall _)
    have hd := HD.out.below hB
    obtain ⟨d0, _⟩ := DiskAt.cells (S := S) hd.blk
    obtain ⟨gs, caps, hvs, _, _, _⟩ := hd.secs.form' (by omega)
    subst hvs
    have hx : D.secs[i]? = some (D.secs.getD i []) := by rw [List.getD, List.getElem?_eq_getElem hi]; rfl
    have hrg := hd.secs.rangeAt i _ hx
    have hll := HD.out.ok.getD i hi
    have ci : W.cell? ⟨w.heap.size, 0, none⟩ = some (.int .i64 (i : Int)) := by rw [cell_of_row _ _ _ _ _ _ hbx]; rfl
    generalize D.secs.getD i [] = sl at *
    have HCON := Lib.hid hcon
    have hsv : (vals sl).toArray.size = 128 := by rw [List.size_toArray, vals_length]; exact hll
    have HSA := Lib.hid (show (Try.prog.info? 106).map (·.size) = some (vals sl).toArray.size by rw [hsv]; exact sizeSec)
    have HSL := Lib.hid (show (Try.prog.info? 106).map (·.size) = some (vals sl).length by rw [vals_length, hll]; exact sizeSec)
    have HYS := Lib.hid (HY.out.trans hsv.symm)
    have HRS := Lib.hid hrs
    have HB' := Lib.hid hB
    have HK := Lib.hid hK
    have HRG := Lib.hid hrg
    have hii : (i : Int) < (D.secs.length : Int) := by omega
    clear hne hbx hsb hB hall hcon hd hx hll hrg hsv hrs hK hsl hd0 hslb hres hbox HBX
    gi_wp2
    refine wpIn_wide.2 ?_
    refine region_head 7 [0, 1, 2, 3, 4, 5, 6] [] (fun u => u.cell? ⟨g, 0, none⟩ = some (.slice (some ⟨gs, 0, none⟩) D.secs.length caps) ∧ u.cell? ⟨w.heap.size, 0, none⟩ = some (.int .i64 (i : Int)) ∧ u.rangeAt gs (i * 128) (vals sl)) (by kernel_rfl) (by kernel_rfl) ⟨d0, ci, HRG.out⟩ ?_
    simp only [pickO, List.filterMap_cons, List.filterMap_nil, List.getElem?_cons_zero, List.getElem?_cons_succ, Option.map_some, List.drop_succ_cons, List.drop_zero]
    clear d0 ci
    iterate 6
      refine seqH_read _ rfl rfl (by rintro u ⟨hu1, hu2, hu3⟩; clear hu3; go_simp; with_reducible rfl) ?_
      try simp only [Act.put, List.setIfInBounds_toArray, List.set_cons_zero, List.set_cons_succ]
    refine seqH_load_mid rfl rfl 106 _ rfl gs (i * 128) rfl (vals sl) _ (fun u hu => hu.2.2) Try.underlying106 rfl HSL.out ?_
    try simp only [Act.put, List.setIfInBounds_toArray, List.set_cons_zero, List.set_cons_succ]
    refine seqH_nil ?_
    go_wp2_with (refine wpList_store_row rfl 106 _ _ rfl (w.heap.size + 1) (vals sl).toArray rfl rfl 106 Y (by exact HRS.out) HSA.out HYS.out (vals_one _) ?_)
    have hK2 : (W.drew.setRow (w.heap.size + 1) (vals sl).toArray).heap[D']? = some (.deferred (some [])) := (heap_setRow_other _ _ _ _ (by omega)).trans HK.out
    have hrs2 : (W.drew.setRow (w.heap.size + 1) (vals sl).toArray).heap[w.heap.size + 1]? = some (.cells (vals sl).toArray 106 (0, 0)) := heap_setRow_same _ _ _ Y _ HRS.out
    have HB2 := Lib.hid (below_setRow (HB'.out.drew) (Nat.le_succ w.heap.size) (vals sl).toArray)
    generalize W.drew.setRow (w.heap.size + 1) (vals sl).toArray = W2 at *
    have HK2 := Lib.hid hK2
    have HRS2 := Lib.hid hrs2
    clear hK2 hrs2
    gi_wp2
    refine ⟨by simp, .inl ⟨_, _, rfl, run_takeDeferred HK2.out, ?_⟩⟩
    have hblk : (W2.putObj D' (.deferred none)).heap[w.heap.size + 1]? = some (.cells (vals sl).toArray 106 (0, 0)) :=
      ((grownBy_putObj' W2 D' (.deferred none)).block _ (Array.getElem?_eq_some_iff.1 HRS2.out).1 (by simp; omega)).trans HRS2.out
    refine ⟨.agg (vals sl).toArray, results_cell_row rfl _ _ (w.heap.size + 1) 106 _ (0, 0) _ rfl hblk Try.underlying106 rfl HSA.out, by rw [HCON.out], ?_⟩
    exact HB2.out.trans (belowK_b (w := w) (Nat.le_refl _) W2 D' _ _ (by omega) HK2.out rfl rfl)
  case stop =>
    rintro D' c pre W hD ⟨ini, k, rfl, hall⟩ ⟨⟨rfl, ini', last, he, hne, hlast, hrs⟩, hB⟩ hK
    obtain ⟨rfl, e5⟩ := List.append_inj' he rfl
    obtain rfl : k = last := by simpa using e5
    have hcon : D.content i = (D.waits[k.1]'k.2).2 := by
      unfold Dk.content
      have hsplit : D.waits = D.waits.take k.1 ++ (D.waits[k.1]'k.2) :: D.waits.drop (k.1 + 1) := by
        rw [← List.drop_eq_getElem_cons k.2, List.take_append_drop]
      conv => lhs; rw [hsplit]
      refine Dk.over_hit _ _ _ _ _ hlast fun y hy => ?_
      obtain ⟨j, hj, rfl⟩ := List.mem_iff_getElem.1 hy
      rw [List.getElem_drop]
      have hj2 : k.1 + 1 + j < D.waits.length := by simp at hj; omega
      exact hne ⟨k.1 + 1 + j, hj2⟩ (hall _ (by show k.1 < _; simp; omega))
    have hwt := HD.out.ok.wait _ (List.getElem_mem k.2)
    gi_wp2
    refine ⟨by simp, .inl ⟨_, _, rfl, run_takeDeferred hK, ?_⟩⟩
    have hblk : (W.putObj D' (.deferred none)).heap[w.heap.size + 1]? = some (.cells (vals (D.waits[k.1]'k.2).2).toArray 106 (0, 0)) :=
      ((grownBy_putObj' W D' (.deferred none)).block _ (Array.getElem?_eq_some_iff.1 hrs).1 (by simp; omega)).trans hrs
    refine ⟨.agg (vals (D.waits[k.1]'k.2).2).toArray, results_cell_row rfl _ _ (w.heap.size + 1) 106 _ (0, 0) _ rfl hblk Try.underlying106 rfl (by rw [List.size_toArray, vals_length, hwt.2]; exact sizeSec), rfl, ?_⟩
    exact hB.trans (belowK_b (w := w) (Nat.le_refl _) W D' _ _ (by omega) hK rfl rfl)

/-! ### Read -/
theorem read_range (g : Nat) (i : Int) (D : Dk) (S : Nat → Prop) (w : World) (h : DiskAt w S g D) (hi : i < 0 ∨ (D.secs.length : Int) ≤ i) :
    Calls Try.prog 32 #[.pointer (some ⟨g, 0, none⟩), .int .i64 i] w fun e w' => e = .returned (.tuple #[.slice none 0 0, .int .i64 4]) ∧ w = w' := by
  have CT := Lib.hid (there_no g i D S w h hi)
  clear h hi
  go_enter Try.func32, Try.ntmps32
  go_wp2_with (go_at_call 58; refine (CT.out).mono ?_; rintro e w1 ⟨rfl, rfl⟩)
  go_ret2
  exact ⟨rfl, rfl⟩

theorem read_off (g : Nat) (i : Nat) (D : Dk) (S : Nat → Prop) (w : World) (h : DiskAt w S g D) (hi : i < D.secs.length) (hp : D.power = false) :
    Calls Try.prog 32 #[.pointer (some ⟨g, 0, none⟩), .int .i64 i] w fun e w' => e = .returned (.tuple #[.slice none 0 0, .int .i64 10]) ∧ w = w' := by
  have CT := Lib.hid (there_yes g i D S w h hi)
  obtain ⟨vs, vw, h⟩ := h
  obtain ⟨_, _, c2, _, _⟩ := DiskAt.cells (S := S) h.blk
  rw [hp] at c2
  clear h hi hp
  go_enter Try.func32, Try.ntmps32
  go_wp2_with (go_at_call 58; refine (CT.out).mono ?_; rintro e w1 ⟨rfl, rfl⟩)
  go_ret2
  exact ⟨rfl, rfl⟩

theorem read_yes (g : Nat) (i : Nat) (D : Dk) (S : Nat → Prop) (w : World) (h : DiskAt w S g D) (hi : i < D.secs.length) (hp : D.power = true) :
    Calls Try.prog 32 #[.pointer (some ⟨g, 0, none⟩), .int .i64 i] w (ReadN (fun v => .tuple #[v, .int .i64 0]) 128 (D.content i) w) := by
  have CT := Lib.hid (there_yes g i D S w h hi)
  have CC := Lib.hid (content_any g i D S w h hi)
  have HL := Lib.hid (h.ok.content i hi)
  obtain ⟨vs, vw, h⟩ := h
  obtain ⟨_, _, c2, _, _⟩ := DiskAt.cells (S := S) h.blk
  rw [hp] at c2
  clear h hi hp
  go_enter Try.func32, Try.ntmps32
  go_wp2_with (first
    | (go_at_call 58; refine (CT.out).mono ?_; rintro e w1 ⟨rfl, rfl⟩)
    | (go_at_call 65; refine (CC.out).mono ?_; rintro e w2 ⟨rfl, hb2⟩)
    | (go_at_call 64; refine (octets_any (D.content i) _ HL.out).mono ?_; rintro e w3 ⟨a3, c3, rfl, hr3, hb3, hn3⟩))
  go_ret2
  exact ⟨a3, c3, rfl, hr3, hb2.trans (hb3.mono hb2.size), fun x hx => ⟨Nat.le_trans hb2.size (hn3 x hx).1, (hn3 x hx).2⟩⟩

end Go.Proofs.Ytinfgfgmijjhjaa
