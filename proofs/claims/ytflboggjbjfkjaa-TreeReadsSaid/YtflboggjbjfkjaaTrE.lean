/-
  Contracts: slices.Chunk, slices.AppendSeq, slices.Collect over pairs; package tree's groups.
-/
import Derived.Test.YtflboggjbjfkjaaTrD
import Derived.RangeFuncNested
import Derived.RangeFuncBound
import Derived.RangeFuncCalls
import Derived.RangeFuncLeaves
import Derived.RangeFuncBox
import Derived.Maps.AppendAt
import Derived.Shelf.Abstract
import Derived.Shelf.RegionOpen
import Derived.OwnWalkIn
import Derived.TacticsInMore
import Derived.LoopNIn
import Derived.LoopIn
import Derived.Lib.MinMax
namespace Go.Proofs.Ytflboggjbjfkjaa
open Go.RowKit Go.Shelf
set_option linter.unusedVariables false
set_option linter.unusedSimpArgs false
set_option maxRecDepth 100000
attribute [local go_sem] Oper.semAt_some

/-- the slice that is the j-th part -/
def prt (b off n m j : Nat) : Hd := (some ⟨b, off + (m * j) * 2, none⟩, min m (n - m * j), min m (n - m * j))
def prtV (b off n m j : Nat) : Value := .slice (some ⟨b, off + (m * j) * 2, none⟩) (min m (n - m * j)) (min m (n - m * j))
def cntP (n m : Nat) : Nat := (n + (m - 1)) / m
theorem cntP_lt {n m j : Nat} (hm : 0 < m) : j < cntP n m ↔ m * j < n := by
  unfold cntP
  rw [Nat.lt_iff_add_one_le, Nat.le_div_iff_mul_le hm, Nat.succ_mul, Nat.mul_comm]
  omega
theorem range_succ' (j : Nat) : List.range (j + 1) = List.range j ++ [j] := List.range_succ

set_option maxHeartbeats 2000000 in
/-- the parts, one by one: for every loop body that keeps what lay below n₀ -/
theorem chunk1_in (n' : Nat) (hn : 1 ≤ n') (l Bs Bn n₀ b off n cap m : Nat) (hm : 0 < m) (hm2 : m ≤ 100) (h0n : 0 < n) (hnm : n ≤ 100000) (hcap : n ≤ cap) (hcm : cap ≤ maxLen) (J Jx : List (Fin (cntP n m)) → World → Prop)
    (hY : ∀ pre (x : Fin (cntP n m)) W, J pre W → pre.length < cntP n m → YieldAt Fence.wide (n' - 1) Try.prog l #[prtV b off n m x.1] W fun e W' =>
      (e = .returned (.bool true) ∧ J (pre ++ [x]) W' ∧ Below n₀ W W') ∨ (e = .returned (.bool false) ∧ Jx (pre ++ [x]) W'))
    (W : World) (hJ : AbidesFrom W.heap.size J) (hBs : W.heap[Bs]? = some (.cells #[.slice (some ⟨b, off, none⟩) n cap] 22 (0, 0))) (hBn : W.heap[Bn]? = some (.cells #[.int .i64 (m : Int)] 3 (0, 0)))
    (hls : Bs < n₀) (hln : Bn < n₀) (hn₀ : n₀ ≤ W.heap.size) (h0 : J [] W) :
    CallsIn Fence.wide n' Try.prog 54 #[.func (.yield l) #[] #[], .pointer (some ⟨Bs, 0, none⟩), .pointer (some ⟨Bn, 0, none⟩)] W fun e W' => (∃ v, e = .returned v) ∧
      ((∃ ys : List (Fin (cntP n m)), ys.map (·.1) = List.range (cntP n m) ∧ J ys W') ∨ (∃ pre : List (Fin (cntP n m)), True ∧ Jx pre W')) := by
  have HY := Lib.hid hY
  have HJ := Lib.hid hJ
  have HC := Lib.hid (fun j => cntP_lt (n := n) (m := m) (j := j) hm)
  have HBS := Lib.hid hBs
  have HBN := Lib.hid hBn
  unfold maxLen at hcm
  clear hY hJ hBs hBn
  have f34 : Fence.wide.fn 54 := trivial
  refine callsIn_of_wp Try.func54 rfl f34 ?_ rfl
  simp only [Try.ntmps54, List.size_toArray, List.length_cons, List.length_nil, Nat.reduceAdd, Nat.reduceSub, Array.replicate_succ, Array.replicate_zero, List.push_toArray, List.append_toArray, List.nil_append, List.cons_append]
  gi_wp2
  gi_loopw [4] (fun i wr => ∃ (q j : Nat) (pre : List (Fin (cntP n m))), q = m * j ∧ j ≤ cntP n m ∧ i = .int .i64 (q : Int) ∧ pre.map (·.1) = List.range j ∧ J pre wr ∧ Below n₀ W wr ∧ W.heap.size ≤ wr.heap.size)
    (fun i _ => n + m - (intOf i).toNat)
  case atStart => exact ⟨0, 0, [], rfl, Nat.zero_le _, rfl, rfl, h0, Below.refl _ _, Nat.le_refl _⟩
  case round =>
    obtain ⟨q, j, pre, hq, hj, rfl, hpre, hJs, hb, hsz⟩ := hrel
    have bS := (hb.block Bs hls).trans HBS.out
    have bN := (hb.block Bn hln).trans HBN.out
    have cS : wr.cell? ⟨Bs, 0, none⟩ = some (.slice (some ⟨b, off, none⟩) n cap) := by rw [cell_of_row _ _ _ _ _ _ bS]; rfl
    have cN : wr.cell? ⟨Bn, 0, none⟩ = some (.int .i64 (m : Int)) := by rw [cell_of_row _ _ _ _ _ _ bN]; rfl
    have HP := Lib.hid hpre
    have HQ := Lib.hid hq
    have HB := Lib.hid hb
    have HJs := Lib.hid hJs
    clear bS bN hpre hb hq hJs
    by_cases hlt : q < n
    · have hjc : j < cntP n m := (HC.out j).2 (by rw [← HQ.out]; exact hlt)
      have hqi : (q : Int) < n := by omega
      obtain ⟨d, hd⟩ : ∃ d, min m (n - q) = d := ⟨_, rfl⟩
      have hd1 : 1 ≤ d ∧ d ≤ m ∧ q + d ≤ n := by omega
      have hd2 : min (m : Int) ((n : Int) - (q : Int)) = (d : Int) := by omega
      have hpv : prtV b off n m j = .slice (some ⟨b, off + q * 2, none⟩) d d := by unfold prtV; rw [← HQ.out, hd]
      have hJ2 : J pre wr.drew := HJ.out pre wr wr.drew none HJs.out (grown_below ((Below.refl _ _).drew)) (fun r e => by cases e)
      have hyy := HY.out pre ⟨j, hjc⟩ wr.drew hJ2 (by have h1 := congrArg List.length HP.out; rw [List.length_map, List.length_range] at h1; omega)
      rw [hpv] at hyy
      have HYY := Lib.hid hyy
      have HD2 := Lib.hid hd2
      have HD := Lib.hid hd
      clear hd2 hd hyy hpv hJ2
      gi_wp2
      refine wpIn_wide.2 ?_
      refine region_head 7 [0, 1, 2, 3, 4, 5, 6] [] (fun u => u.cell? ⟨Bs, 0, none⟩ = some (.slice (some ⟨b, off, none⟩) n cap) ∧ u.cell? ⟨Bn, 0, none⟩ = some (.int .i64 (m : Int))) (by kernel_rfl) (by kernel_rfl) ⟨cS, cN⟩ ?_
      simp only [pickO, List.filterMap_cons, List.filterMap_nil, List.getElem?_cons_zero, List.getElem?_cons_succ, Option.map_some, List.drop_succ_cons, List.drop_zero]
      have hqn : q ≤ n := by omega
      have hcq : ¬ cap = q := by omega
      have hdN : min (m : Int) (((n - q : Nat)) : Int) = (d : Int) := by have := HD2.out; omega
      iterate 3
        refine seqH_read _ rfl rfl (by rintro u ⟨hu1, hu2⟩; go_simp; with_reducible rfl) ?_
        try simp only [Act.put, List.setIfInBounds_toArray, List.set_cons_zero, List.set_cons_succ]
      refine seqH_read (.slice (some ⟨b, off + q * 2, none⟩) (n - q) (cap - q)) rfl rfl (by rintro u ⟨hu1, hu2⟩; go_simp; try rw [if_pos hqn, if_neg hcq]) ?_
      try simp only [Act.put, List.setIfInBounds_toArray, List.set_cons_zero, List.set_cons_succ]
      generalize n - q = r at *
      generalize cap - q = rc at *
      refine seqH_read (.int .i64 (r : Int)) rfl rfl (by rintro u ⟨hu1, hu2⟩; go_simp; try with_reducible rfl) ?_
      try simp only [Act.put, List.setIfInBounds_toArray, List.set_cons_zero, List.set_cons_succ]
      refine seqH_read (.int .i64 (d : Int)) rfl rfl (by rintro u ⟨hu1, hu2⟩; go_simp; try rw [hdN]) ?_
      try simp only [Act.put, List.setIfInBounds_toArray, List.set_cons_zero, List.set_cons_succ]
      refine seqH_read _ rfl rfl (by rintro u ⟨hu1, hu2⟩; go_simp; with_reducible rfl) ?_
      try simp only [Act.put, List.setIfInBounds_toArray, List.set_cons_zero, List.set_cons_succ]
      refine seqH_nil ?_
      have cS2 : wr.drew.cell? ⟨Bs, 0, none⟩ = some (.slice (some ⟨b, off, none⟩) n cap) := cS
      have cN2 : wr.drew.cell? ⟨Bn, 0, none⟩ = some (.int .i64 (m : Int)) := cN
      have hbd : Below n₀ W wr.drew := HB.out.drew
      have hszd : W.heap.size ≤ wr.drew.heap.size := hsz
      clear hdN cS cN
      generalize wr.drew = wd at *
      obtain ⟨fn, tmps, assign, body, hy, hRn⟩ := HYY.out
      have HBD := Lib.hid hbd
      clear hbd HYY
      have hqd : q ≤ q + d := by omega
      have hqdc : q + d ≤ cap := by omega
      go_wp2
      gi_wp2
      refine hRn.mono ?_
      rintro e W3 (⟨rfl, hJ3, hk3⟩ | ⟨rfl, hJx3⟩)
      · have hb3 := HBD.out.trans hk3
        have hs3 : W.heap.size ≤ W3.heap.size := Nat.le_trans hszd hk3.size
        have bN := (hb3.block Bn hln).trans HBN.out
        have cN : W3.cell? ⟨Bn, 0, none⟩ = some (.int .i64 (m : Int)) := by rw [cell_of_row _ _ _ _ _ _ bN]; rfl
        have HB3 := Lib.hid hb3
        clear hb3 bN cS2 cN2
        gi_wp2
        go_roundw
        case rel => exact ⟨q + m, j + 1, pre ++ [⟨j, hjc⟩], by rw [HQ.out, Nat.mul_add, Nat.mul_one], by omega, by go_num, by rw [List.map_append, HP.out, List.range_succ]; rfl, hJ3, HB3.out, hs3⟩
        case measure => simp [intOf]; omega
      · gi_wp2
        refine bodyPost_ret (results_none rfl _ _ _) rfl ?_
        exact ⟨⟨_, rfl⟩, .inr ⟨_, trivial, hJx3⟩⟩
    · have hjc : j = cntP n m := by
        have : ¬ j < cntP n m := fun h => hlt (by rw [HQ.out]; exact (HC.out j).1 h)
        omega
      subst hjc
      have hqi : ¬ (q : Int) < n := by omega
      gi_wp2
      go_end0
      exact ⟨⟨_, rfl⟩, .inl ⟨pre, HP.out, HJs.out⟩⟩


theorem chunk_in (n' : Nat) (a : Option Addr) (n cap m : Nat) (w : World) (hm : 0 < m) :
    CallsIn Fence.wide n' Try.prog 35 #[.slice a n cap, .int .i64 m] w fun e w' => e = .returned (.func (.func 54) #[] #[.pointer (some ⟨w.heap.size, 0, none⟩), .pointer (some ⟨w.heap.size + 1, 0, none⟩)]) ∧ w' = (w.alloc (.cells #[.slice a n cap] 22)).alloc (.cells #[.int .i64 m] 3) := by
  have f28 : Fence.wide.fn 35 := trivial
  have hm1 : ¬ (m : Int) < 1 := by omega
  refine callsIn_of_wp Try.func35 rfl f28 ?_ rfl
  simp only [Try.ntmps35, List.size_toArray, List.length_cons, List.length_nil, Nat.reduceAdd, Nat.reduceSub, Array.replicate_succ, Array.replicate_zero, List.push_toArray, List.append_toArray, List.nil_append, List.cons_append]
  gi_wp2
  go_ret
  exact ⟨rfl, rfl⟩

theorem chunk_stops (n' : Nat) (hn : 1 ≤ n') (Bs Bn n₀ b off n cap m : Nat) (hm : 0 < m) (hm2 : m ≤ 100) (h0n : 0 < n) (hnm : n ≤ 100000) (hcap : n ≤ cap) (hcm : cap ≤ maxLen) (w : World)
    (hBs : w.heap[Bs]? = some (.cells #[.slice (some ⟨b, off, none⟩) n cap] 22 (0, 0))) (hBn : w.heap[Bn]? = some (.cells #[.int .i64 (m : Int)] 3 (0, 0)))
    (hls : Bs < n₀) (hln : Bn < n₀) (hn₀ : n₀ ≤ w.heap.size) :
    SeqStopsK Fence.wide n' Try.prog 54 #[.pointer (some ⟨Bs, 0, none⟩), .pointer (some ⟨Bn, 0, none⟩)] (fun x : Fin (cntP n m) => #[prtV b off n m x.1]) (Below n₀)
      (fun ys => ys.map (·.1) = List.range (cntP n m)) (fun _ => True) (cntP n m) w := fun l J Jx W hW hJ _ hY h0 =>
  chunk1_in n' hn l Bs Bn n₀ b off n cap m hm hm2 h0n hnm hcap hcm J Jx hY W hJ ((hW.block Bs (Array.getElem?_eq_some_iff.1 hBs).1).trans hBs) ((hW.block Bn (Array.getElem?_eq_some_iff.1 hBn).1).trans hBn) hls hln (Nat.le_trans hn₀ hW.size) h0

theorem infoGrp : (Try.prog.info? 22).map (fun i => (i.zero, i.size, i.bytes)) = some (some (.slice none 0 0), 1, 24) := by kernel_rfl
def prtVs (b off n m : Nat) (P : List Nat) : List Value := P.map fun j => prtV b off n m j

set_option maxHeartbeats 2000000 in
theorem appendGrp_in (n' : Nat) (hn : 3 ≤ n') (Bs Bn b off n cap m : Nat) (hm : 0 < m) (hm2 : m ≤ 100) (h0n : 0 < n) (hnm : n ≤ 100000) (hcap : n ≤ cap) (hcm : cap ≤ maxLen) (w : World)
    (hBs : w.heap[Bs]? = some (.cells #[.slice (some ⟨b, off, none⟩) n cap] 22 (0, 0))) (hBn : w.heap[Bn]? = some (.cells #[.int .i64 (m : Int)] 3 (0, 0))) :
    CallsIn Fence.wide n' Try.prog 53 #[.slice none 0 0, .func (.func 54) #[] #[.pointer (some ⟨Bs, 0, none⟩), .pointer (some ⟨Bn, 0, none⟩)]] w fun e W' =>
      ∃ v, e = .returned v ∧ W'.ownsRow w.heap.size 22 1 v (cntP n m) (prtVs b off n m (List.range (cntP n m))) ∧ Below w.heap.size w W' := by
  have h1 : 1 ≤ n' := by omega
  have hro : Fence.wide.round = none := rfl
  have f33 : Fence.wide.fn 53 := trivial
  have f34 : Fence.wide.fn 54 := trivial
  obtain ⟨i0, hi, hz0, hz1, hz2⟩ := info_parts infoGrp
  have hcn : cntP n m ≤ 100100 := by
    have : cntP n m ≤ n + (m - 1) := Nat.div_le_self _ _
    omega
  refine callsIn_of_wp_marks Try.func53 rfl f33 ?_ hro
  simp only [Try.ntmps53, List.size_toArray, List.length_cons, List.length_nil, Nat.reduceAdd, Nat.reduceSub, Array.replicate_succ, Array.replicate_zero, List.push_toArray, List.append_toArray, List.nil_append, List.cons_append]
  gi_wp2
  have bO := Boxed.new w 52 (.slice none 0 0)
  have hB0 : Below w.heap.size w (w.alloc (.cells #[.slice none 0 0] 52)) := (Below.refl _ w).alloc (Nat.le_refl _) _
  have hBl : Bs < w.heap.size := (Array.getElem?_eq_some_iff.1 hBs).1
  have hBnl : Bn < w.heap.size := (Array.getElem?_eq_some_iff.1 hBn).1
  have hBs1 := (hB0.block Bs hBl).trans hBs
  have hBn1 := (hB0.block Bn hBnl).trans hBn
  refine wpIn_rangeFunc_ownG (encs := fun x : Fin (cntP n m) => #[prtV b off n m x.1]) hro h1 (gf := 54) (lb := #[.pointer (some ⟨Bs, 0, none⟩), .pointer (some ⟨Bn, 0, none⟩)]) rfl f34 (enters_of Try.func54 (by kernel_rfl) rfl)
    (chunk_stops (n' - 1) (by omega) Bs Bn w.heap.size b off n cap m hm hm2 h0n hnm hcap hcm _ hBs1 hBn1 hBl hBnl (by simp)) belowK_t (belowK_b (by simp)) (Below.refl _ _) (fun _ => rfl)
    (fun (pre : List (Fin (cntP n m))) W => (∃ v, Boxed W w.heap.size 52 v ∧ W.ownsRow w.heap.size 22 1 v pre.length (prtVs b off n m (pre.map (·.1))) ∧ True) ∧ Below w.heap.size w W)
    (fun _ _ _ => False)
    (OwnFrom.and (Own.from (holdsRow_own w.heap.size w.heap.size 52 22 1 (fun (pre : List (Fin (cntP n m))) => pre.length) (fun (pre : List (Fin (cntP n m))) => prtVs b off n m (pre.map (·.1))) (fun _ _ => True)) _) (ownFrom_below (Nat.le_refl _) (by simp)))
    (fun _ _ _ _ _ hs _ _ => hs)
    ⟨⟨_, bO, World.ownsRow_nil _ _ _ _, trivial⟩, hB0⟩
    (fun x => { tmps := #[.slice none 0 0, .func (.func 54) #[] #[.pointer (some ⟨Bs, 0, none⟩), .pointer (some ⟨Bn, 0, none⟩)], .pointer (some ⟨w.heap.size, 0, none⟩), undef, .slice none 0 0, prtV b off n m x.1, .func (.func 54) #[] #[.pointer (some ⟨Bs, 0, none⟩), .pointer (some ⟨Bn, 0, none⟩)], prtV b off n m x.1, undef, undef, undef, undef, undef], defers := [] }) ?assign ?body ?done ?stop
  case assign =>
    intro l x W K hK
    gi_wp2
    exact hK
  case body =>
    rintro l pre x W ⟨⟨v, hv, hrow, _⟩, hB⟩ hlt2
    have hc := hv.cell
    have hpc : (prtV b off n m x.1).cells = #[prtV b off n m x.1] := rfl
    unfold prtV at hpc ⊢
    gi_wp2_with (gi_at_builtin; refine wpListIn_append_own _ rfl _ _ 52 rfl w.heap.size 22 i0 (.slice none 0 0) 1 24 Try.underlying52 hi hz0 hz1 hz2 rfl (by decide) _ _ _ rfl (hrow.alloc _) ⟨W.heap.size, 0, none⟩ 1 1 [prtV b off n m x.1] rfl rfl (cell_one_new _ _ _) (by simp [prtV, Value.oneCell']) (by unfold maxLen; omega) (by omega) (by have := hB.size; simp; omega) ?_; intro v' w1 hown' hgrow _; obtain ⟨g', cap', rfl⟩ := ownsRow_succ hown'; obtain ⟨hv1, hv2, hr2, hk2, hb2⟩ := hv.appended (by decide) hrow hB.size (Nat.le_refl _) hown' hgrow; have hc1 := hv1.cell; have hf1 := hv1.frozen)
    exact ⟨hk2.from _, hb2, ⟨_, hv2, by simpa [prtVs] using hr2, trivial⟩, hB.trans hb2⟩
  case done =>
    rintro D ys W hD hys ⟨⟨v, hv, hrow, _⟩, hB⟩ hK
    have hc := hv.cell
    gi_wp2
    refine ⟨by simp, .inl ⟨_, _, rfl, run_takeDeferred hK, ?_⟩⟩
    have hl := congrArg List.length hys
    rw [List.length_map, List.length_range] at hl
    rw [hys, hl] at hrow
    exact ⟨_, results_tmp rfl _ _ _, v, rfl, ownsRow_putObj hrow _ hK rfl, hB.trans (belowK_b (w := w) (Nat.le_refl _) W D _ _ (by simp at hD; omega) hK rfl rfl)⟩
  case stop =>
    rintro D c pre W _ _ h _
    exact h.elim


theorem collectGrp_in (n' : Nat) (hn : 4 ≤ n') (Bs Bn b off n cap m : Nat) (hm : 0 < m) (hm2 : m ≤ 100) (h0n : 0 < n) (hnm : n ≤ 100000) (hcap : n ≤ cap) (hcm : cap ≤ maxLen) (w : World)
    (hBs : w.heap[Bs]? = some (.cells #[.slice (some ⟨b, off, none⟩) n cap] 22 (0, 0))) (hBn : w.heap[Bn]? = some (.cells #[.int .i64 (m : Int)] 3 (0, 0))) :
    CallsIn Fence.wide n' Try.prog 34 #[.func (.func 54) #[] #[.pointer (some ⟨Bs, 0, none⟩), .pointer (some ⟨Bn, 0, none⟩)]] w fun e W' =>
      ∃ v, e = .returned v ∧ W'.ownsRow w.heap.size 22 1 v (cntP n m) (prtVs b off n m (List.range (cntP n m))) ∧ Below w.heap.size w W' := by
  have f27 : Fence.wide.fn 34 := trivial
  have CA := Lib.hid (appendGrp_in (n' - 1) (by omega) Bs Bn b off n cap m hm hm2 h0n hnm hcap hcm w hBs hBn)
  clear hBs hBn
  refine callsIn_of_wp Try.func34 rfl f27 ?_ rfl
  simp only [Try.ntmps34, List.size_toArray, List.length_cons, List.length_nil, Nat.reduceAdd, Nat.reduceSub, Array.replicate_succ, Array.replicate_zero, List.push_toArray, List.append_toArray, List.nil_append, List.cons_append]
  gi_wp2
  refine ⟨trivial, fun _ => by omega, ?_⟩
  refine (CA.out).mono ?_
  rintro e w1 ⟨v, rfl, hr, hb⟩
  gi_wp2
  go_ret
  exact ⟨v, rfl, hr, hb⟩

/-- groups of pairs, which lie where the pairs lie, in a row of the call's own -/
def GrpTo (a : Option Addr) (ps : List (List (Nat × Nat))) (w : World) (e : Ending) (w' : World) : Prop :=
  ∃ (v : Value) (Hs : List Hd), e = .returned v ∧ Recs hdC w' 22 1 v Hs ∧ Hs.length = ps.length ∧ (∀ k, v.ownBlock = some k → w.heap.size ≤ k) ∧
    (∀ h ∈ Hs, ∀ p, h.1 = some p → ∃ p0, a = some p0 ∧ p.block = p0.block) ∧ (∀ (i : Nat) (h : Hd) (q : List (Nat × Nat)), Hs[i]? = some h → ps[i]? = some q → PairsAt w' h.1 h.2.1 h.2.2 q) ∧ Below w.heap.size w w'

theorem prt_cells (b off n m : Nat) (P : List Nat) : (P.map (prt b off n m)).flatMap hdC = prtVs b off n m P := by
  induction P with
  | nil => rfl
  | cons j P ih => rw [List.map_cons, List.flatMap_cons, ih]; rfl

theorem groups_some (a : Option Addr) (n cap m : Nat) (L : List (Nat × Nat)) (w : World) (he : PairsAt w a n cap L) (h0 : 0 < n) (hn : n ≤ 100000) (hm : 0 < m) (hm2 : m ≤ 100) :
    Calls Try.prog 20 #[.slice a n cap, .int .i64 m] w (GrpTo a (partsL m L) w) := by
  obtain ⟨b, off, rfl, _, _⟩ := PairsAt.cells he h0
  have HE := Lib.hid he
  have hcp := he.2.1
  have hcm := he.2.2.1
  have hlen := he.1
  have CH := Lib.hid (chunk_in 4 (some ⟨b, off, none⟩) n cap m w hm)
  have hb2 := ((Below.refl w.heap.size w).alloc (Nat.le_refl _) (.cells #[.slice (some ⟨b, off, none⟩) n cap] 22)).alloc (by simp) (.cells #[.int .i64 m] 3)
  have hx1 := heap_alloc2_old w (.cells #[.slice (some ⟨b, off, none⟩) n cap] 22) (.cells #[.int .i64 m] 3)
  have hx2 := heap_alloc2_new w (.cells #[.slice (some ⟨b, off, none⟩) n cap] 22) (.cells #[.int .i64 m] 3)
  have CC := Lib.hid (collectGrp_in 4 (by omega) w.heap.size (w.heap.size + 1) b off n cap m hm hm2 h0 hn hcp hcm _ hx1 hx2)
  have HB2 := Lib.hid hb2
  have hne : ¬ (n : Int) = 0 := by omega
  have hparts : partsL m L = chunk m L := by unfold partsL; rw [if_neg (by omega)]
  have HPT := Lib.hid hparts
  have HLEN := Lib.hid hlen
  clear he hb2 hx1 hx2 hparts hlen
  go_enter Try.func20, Try.ntmps20
  go_wp2_with fail
  refine (callsIn_wide.1 CH.out).mono ?_
  rintro e w2 ⟨rfl, rfl⟩
  go_wp2_with fail
  refine (callsIn_wide.1 CC.out).mono ?_
  rintro e w3 ⟨v, rfl, hr, hb⟩
  go_wp2
  go_ret
  have hb3 : Below w.heap.size w w3 := HB2.out.trans (hb.mono (by simp; omega))
  have he3 := CameAt.below HE.out (Nat.zero_lt_succ 1) hb3
  have hcl : (chunk m L).length = cntP n m := by rw [chunk_length, HLEN.out]; rfl
  refine ⟨v, (List.range (cntP n m)).map (prt b off n m), rfl, ⟨fun _ _ => rfl, fun h _ => hdC_one h, ?_⟩, by rw [HPT.out, hcl]; simp, fun k hk => by have := (hr.lt k hk).1; simp at this; omega, ?_, ?_, hb3⟩
  · rw [prt_cells, List.length_map, List.length_range]
    exact owned_base hr (Nat.zero_le _)
  · intro h hh p hp
    simp only [List.mem_map, List.mem_range] at hh
    obtain ⟨j, _, rfl⟩ := hh
    refine ⟨_, rfl, ?_⟩
    simp only [prt, Option.some.injEq] at hp
    subst hp
    rfl
  · intro i h q hi hq
    rw [HPT.out] at hq
    have hil : i < cntP n m := by
      have := (List.getElem?_eq_some_iff.1 hq).1
      rw [hcl] at this
      exact this
    rw [List.getElem?_map, List.getElem?_range hil] at hi
    obtain rfl : prt b off n m i = h := by simpa using hi
    have hmi := (cntP_lt hm).1 hil
    have hqe : (L.drop (m * i)).take m = q := by
      have hii : i < (L.length + (m - 1)) / m := by rw [HLEN.out]; exact hil
      unfold chunk at hq
      rw [List.getElem?_map, List.getElem?_range hii] at hq
      simpa using hq
    have hpt := CameAt.part he3 (m * i) (min m (n - m * i)) b off rfl (by omega) (by omega)
    have ht : (L.drop (m * i)).take (min m (n - m * i)) = q := by
      rw [← hqe]
      by_cases hle : m ≤ n - m * i
      · rw [Nat.min_eq_left hle]
      · rw [Nat.min_eq_right (by omega), List.take_of_length_le (by rw [List.length_drop, HLEN.out]; omega), List.take_of_length_le (by rw [List.length_drop, HLEN.out]; omega)]
    rw [ht] at hpt
    exact hpt

theorem groups_none (a : Option Addr) (cap m : Nat) (w : World) :
    Calls Try.prog 20 #[.slice a 0 cap, .int .i64 m] w (GrpTo a (partsL m []) w) := by
  obtain ⟨i0, hi, hz0, hz1, hz2⟩ := info_parts infoGrp
  go_enter Try.func20, Try.ntmps20
  go_wp2_with (at_make; refine wpList_make_full _ rfl _ _ 52 rfl w.heap.size 22 i0 (.slice none 0 0) 1 Try.underlying52 hi hz0 hz1 .i64 .i64 _ _ 1 rfl rfl rfl rfl (by rw [hz2]; omega) (by unfold maxLen; omega) (Nat.le_refl _) ?_; intro w1 hown hgrow)
  go_ret
  have hb : Below w.heap.size w w1 := (Below.refl _ _).grown hgrow (Nat.le_refl _) (fun k hk => by cases hk)
  have e : (madeCells (Value.slice none 0 0).cells (1 * 1)).toList = [((none, 0, 0) : Hd)].flatMap hdC := by
    have := toList_madeCells_one (.slice none 0 0) 1
    simpa [Value.cells, hdC] using this
  refine ⟨_, [(none, 0, 0)], rfl, ⟨fun _ _ => rfl, fun h _ => hdC_one h, ?_⟩, rfl, fun k hk => by simp [Value.ownBlock] at hk; omega, ?_, ?_, hb⟩
  · rw [← e]; exact owned_base hown (Nat.zero_le _)
  · intro h hh p hp
    simp only [List.mem_singleton] at hh
    subst hh
    cases hp
  · intro i h q hi hq
    have hp : partsL m [] = [[]] := rfl
    rw [hp] at hq
    match i with
    | 0 => simp at hi hq; subst hi hq; exact CameAt.nil _ _ _
    | i + 1 => simp at hi

theorem groups_any (a : Option Addr) (n cap m : Nat) (L : List (Nat × Nat)) (w : World) (he : PairsAt w a n cap L) (hn : n ≤ 100000) (hm : 0 < m) (hm2 : m ≤ 100) :
    Calls Try.prog 20 #[.slice a n cap, .int .i64 m] w (GrpTo a (partsL m L) w) := by
  by_cases h0 : 0 < n
  · exact groups_some a n cap m L w he h0 hn hm hm2
  · obtain rfl : n = 0 := by omega
    obtain rfl : L = [] := List.eq_nil_of_length_eq_zero he.1
    exact groups_none a cap m w

end Go.Proofs.Ytflboggjbjfkjaa
