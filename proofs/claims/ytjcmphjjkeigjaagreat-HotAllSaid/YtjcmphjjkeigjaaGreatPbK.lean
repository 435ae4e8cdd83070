/-
  A piece of the proof, laid together by program: TrE TrF TrI HtH HtI.
-/
import Derived.Test.YtjcmphjjkeigjaaGreatPbG
import Derived.Test.YtjcmphjjkeigjaaGreatPbI
import Derived.Test.YtjcmphjjkeigjaaGreatPbJ
import Derived.RangeFuncNested
import Derived.RangeFuncBound
import Derived.RangeFuncCalls
import Derived.RangeFuncLeaves
import Derived.RangeFuncBox
import Derived.Maps.AppendAt
import Derived.Shelf.Abstract
import Derived.Shelf.RegionOpen
import Derived.OwnWalkIn
import Derived.TacticsInMore
import Derived.LoopNIn
import Derived.LoopIn
import Derived.Lib.MinMax
import Derived.WideMake

namespace Go.Proofs.YtjcmphjjkeigjaaGreat
open Go.RowKit Go.Shelf
set_option linter.unusedVariables false
set_option linter.unusedSimpArgs false
set_option maxRecDepth 100000
attribute [local go_sem] Oper.semAt_some

/-- the slice that is the j-th part -/
def prt (b off n m j : Nat) : Hd := (some ⟨b, off + (m * j) * 2, none⟩, min m (n - m * j), min m (n - m * j))
def prtV (b off n m j : Nat) : Value := .slice (some ⟨b, off + (m * j) * 2, none⟩) (min m (n - m * j)) (min m (n - m * j))
def cntP (n m : Nat) : Nat := (n + (m - 1)) / m
theorem cntP_lt {n m j : Nat} (hm : 0 < m) : j < cntP n m ↔ m * j < n := by
  unfold cntP
  rw [Nat.lt_iff_add_one_le, Nat.le_div_iff_mul_le hm, Nat.succ_mul, Nat.mul_comm]
  omega
set_option maxHeartbeats 2000000 in
/-- the parts, one by one: for every loop body that keeps what lay below n₀ -/
theorem chunk1_in (n' : Nat) (hn : 1 ≤ n') (l Bs Bn n₀ b off n cap m : Nat) (hm : 0 < m) (hm2 : m ≤ 100) (h0n : 0 < n) (hnm : n ≤ 100000) (hcap : n ≤ cap) (hcm : cap ≤ maxLen) (J Jx : List (Fin (cntP n m)) → World → Prop)
    (hY : ∀ pre (x : Fin (cntP n m)) W, J pre W → pre.length < cntP n m → YieldAt Fence.wide (n' - 1) Tryz.prog l #[prtV b off n m x.1] W fun e W' =>
      (e = .returned (.bool true) ∧ J (pre ++ [x]) W' ∧ Below n₀ W W') ∨ (e = .returned (.bool false) ∧ Jx (pre ++ [x]) W'))
    (W : World) (hJ : AbidesFrom W.heap.size J) (hBs : W.heap[Bs]? = some (.cells #[.slice (some ⟨b, off, none⟩) n cap] 109 (0, 0))) (hBn : W.heap[Bn]? = some (.cells #[.int .i64 (m : Int)] 3 (0, 0)))
    (hls : Bs < n₀) (hln : Bn < n₀) (hn₀ : n₀ ≤ W.heap.size) (h0 : J [] W) :
    CallsIn Fence.wide n' Tryz.prog 205 #[.func (.yield l) #[] #[], .pointer (some ⟨Bs, 0, none⟩), .pointer (some ⟨Bn, 0, none⟩)] W fun e W' => (∃ v, e = .returned v) ∧
      ((∃ ys : List (Fin (cntP n m)), ys.map (·.1) = List.range (cntP n m) ∧ J ys W') ∨ (∃ pre : List (Fin (cntP n m)), True ∧ Jx pre W')) := by
  have HY := Lib.hid hY
  have HJ := Lib.hid hJ
  have HC := Lib.hid (fun j => cntP_lt (n := n) (m := m) (j := j) hm)
  have HBS := Lib.hid hBs
  have HBN := Lib.hid hBn
  unfold maxLen at hcm
  clear hY hJ hBs hBn
  have f34 : Fence.wide.fn 205 := trivial
  refine callsIn_of_wp Tryz.func205 rfl f34 ?_ rfl
  simp only [Tryz.ntmps205, List.size_toArray, List.length_cons, List.length_nil, Nat.reduceAdd, Nat.reduceSub, Array.replicate_succ, Array.replicate_zero, List.push_toArray, List.append_toArray, List.nil_append, List.cons_append]
  gi_wp2
  gi_loopw [4] (fun i wr => ∃ (q j : Nat) (pre : List (Fin (cntP n m))), q = m * j ∧ j ≤ cntP n m ∧ i = .int .i64 (q : Int) ∧ pre.map (·.1) = List.range j ∧ J pre wr ∧ Below n₀ W wr ∧ W.heap.size ≤ wr.heap.size)
    (fun i _ => n + m - (intOf i).toNat)
  case atStart => exact ⟨0, 0, [], rfl, Nat.zero_le _, rfl, rfl, h0, Below.refl _ _, Nat.le_refl _⟩
  case round =>
    obtain ⟨q, j, pre, hq, hj, rfl, hpre, hJs, hb, hsz⟩ := hrel
    have bS := (hb.block Bs hls).trans HBS.out
    have bN := (hb.block Bn hln).trans HBN.out
    have cS : wr.cell? ⟨Bs, 0, none⟩ = some (.slice (some ⟨b, off, none⟩) n cap) := by rw [cell_of_row _ _ _ _ _ _ bS]; rfl
    have cN : wr.cell? ⟨Bn, 0, none⟩ = some (.int .i64 (m : Int)) := by rw [cell_of_row _ _ _ _ _ _ bN]; rfl
    have HP := Lib.hid hpre
    have HQ := Lib.hid hq
    have HB := Lib.hid hb
    have HJs := Lib.hid hJs
    clear bS bN hpre hb hq hJs
    by_cases hlt : q < n
    · have hjc : j < cntP n m := (HC.out j).2 (by rw [← HQ.out]; exact hlt)
      have hqi : (q : Int) < n := by omega
      obtain ⟨d, hd⟩ : ∃ d, min m (n - q) = d := ⟨_, rfl⟩
      have hd1 : 1 ≤ d ∧ d ≤ m ∧ q + d ≤ n := by omega
      have hd2 : min (m : Int) ((n : Int) - (q : Int)) = (d : Int) := by omega
      have hpv : prtV b off n m j = .slice (some ⟨b, off + q * 2, none⟩) d d := by unfold prtV; rw [← HQ.out, hd]
      have hJ2 : J pre wr.drew := HJ.out pre wr wr.drew none HJs.out (grown_below ((Below.refl _ _).drew)) (fun r e => by cases e)
      have hyy := HY.out pre ⟨j, hjc⟩ wr.drew hJ2 (by have h1 := congrArg List.length HP.out; rw [List.length_map, List.length_range] at h1; omega)
      rw [hpv] at hyy
      have HYY := Lib.hid hyy
      have HD2 := Lib.hid hd2
      have HD := Lib.hid hd
      clear hd2 hd hyy hpv hJ2
      gi_wp2
      refine wpIn_wide.2 ?_
      refine region_head 7 [0, 1, 2, 3, 4, 5, 6] [] (fun u => u.cell? ⟨Bs, 0, none⟩ = some (.slice (some ⟨b, off, none⟩) n cap) ∧ u.cell? ⟨Bn, 0, none⟩ = some (.int .i64 (m : Int))) (by kernel_rfl) (by kernel_rfl) ⟨cS, cN⟩ ?_
      simp only [pickO, List.filterMap_cons, List.filterMap_nil, List.getElem?_cons_zero, List.getElem?_cons_succ, Option.map_some, List.drop_succ_cons, List.drop_zero]
      have hqn : q ≤ n := by omega
      have hcq : ¬ cap = q := by omega
      have hdN : min (m : Int) (((n - q : Nat)) : Int) = (d : Int) := by have := HD2.out; omega
      iterate 3
        refine seqH_read _ rfl rfl (by rintro u ⟨hu1, hu2⟩; go_simp; with_reducible rfl) ?_
        try simp only [Act.put, List.setIfInBounds_toArray, List.set_cons_zero, List.set_cons_succ]
      refine seqH_read (.slice (some ⟨b, off + q * 2, none⟩) (n - q) (cap - q)) rfl rfl (by rintro u ⟨hu1, hu2⟩; go_simp; try rw [if_pos hqn, if_neg hcq]) ?_
      try simp only [Act.put, List.setIfInBounds_toArray, List.set_cons_zero, List.set_cons_succ]
      generalize n - q = r at *
      generalize cap - q = rc at *
      refine seqH_read (.int .i64 (r : Int)) rfl rfl (by rintro u ⟨hu1, hu2⟩; go_simp; try with_reducible rfl) ?_
      try simp only [Act.put, List.setIfInBounds_toArray, List.set_cons_zero, List.set_cons_succ]
      refine seqH_read (.int .i64 (d : Int)) rfl rfl (by rintro u ⟨hu1, hu2⟩; go_simp; try rw [hdN]) ?_
      try simp only [Act.put, List.setIfInBounds_toArray, List.set_cons_zero, List.set_cons_succ]
      refine seqH_read _ rfl rfl (by rintro u ⟨hu1, hu2⟩; go_simp; with_reducible rfl) ?_
      try simp only [Act.put, List.setIfInBounds_toArray, List.set_cons_zero, List.set_cons_succ]
      refine seqH_nil ?_
      have cS2 : wr.drew.cell? ⟨Bs, 0, none⟩ = some (.slice (some ⟨b, off, none⟩) n cap) := cS
      have cN2 : wr.drew.cell? ⟨Bn, 0, none⟩ = some (.int .i64 (m : Int)) := cN
      have hbd : Below n₀ W wr.drew := HB.out.drew
      have hszd : W.heap.size ≤ wr.drew.heap.size := hsz
      clear hdN cS cN
      generalize wr.drew = wd at *
      obtain ⟨fn, tmps, assign, body, hy, hRn⟩ := HYY.out
      have HBD := Lib.hid hbd
      clear hbd HYY
      have hqd : q ≤ q + d := by omega
      have hqdc : q + d ≤ cap := by omega
      go_wp2
      gi_wp2
      refine hRn.mono ?_
      rintro e W3 (⟨rfl, hJ3, hk3⟩ | ⟨rfl, hJx3⟩)
      · have hb3 := HBD.out.trans hk3
        have hs3 : W.heap.size ≤ W3.heap.size := Nat.le_trans hszd hk3.size
        have bN := (hb3.block Bn hln).trans HBN.out
        have cN : W3.cell? ⟨Bn, 0, none⟩ = some (.int .i64 (m : Int)) := by rw [cell_of_row _ _ _ _ _ _ bN]; rfl
        have HB3 := Lib.hid hb3
        clear hb3 bN cS2 cN2
        gi_wp2
        go_roundw
        case rel => exact ⟨q + m, j + 1, pre ++ [⟨j, hjc⟩], by rw [HQ.out, Nat.mul_add, Nat.mul_one], by omega, by go_num, by rw [List.map_append, HP.out, List.range_succ]; rfl, hJ3, HB3.out, hs3⟩
        case measure => simp [intOf]; omega
      · gi_wp2
        refine bodyPost_ret (results_none rfl _ _ _) rfl ?_
        exact ⟨⟨_, rfl⟩, .inr ⟨_, trivial, hJx3⟩⟩
    · have hjc : j = cntP n m := by
        have : ¬ j < cntP n m := fun h => hlt (by rw [HQ.out]; exact (HC.out j).1 h)
        omega
      subst hjc
      have hqi : ¬ (q : Int) < n := by omega
      gi_wp2
      go_end0
      exact ⟨⟨_, rfl⟩, .inl ⟨pre, HP.out, HJs.out⟩⟩

theorem chunk_in (n' : Nat) (a : Option Addr) (n cap m : Nat) (w : World) (hm : 0 < m) :
    CallsIn Fence.wide n' Tryz.prog 191 #[.slice a n cap, .int .i64 m] w fun e w' => e = .returned (.func (.func 205) #[] #[.pointer (some ⟨w.heap.size, 0, none⟩), .pointer (some ⟨w.heap.size + 1, 0, none⟩)]) ∧ w' = (w.alloc (.cells #[.slice a n cap] 109)).alloc (.cells #[.int .i64 m] 3) := by
  have f28 : Fence.wide.fn 191 := trivial
  have hm1 : ¬ (m : Int) < 1 := by omega
  refine callsIn_of_wp Tryz.func191 rfl f28 ?_ rfl
  simp only [Tryz.ntmps191, List.size_toArray, List.length_cons, List.length_nil, Nat.reduceAdd, Nat.reduceSub, Array.replicate_succ, Array.replicate_zero, List.push_toArray, List.append_toArray, List.nil_append, List.cons_append]
  gi_wp2
  go_ret
  exact ⟨rfl, rfl⟩

theorem chunk_stops (n' : Nat) (hn : 1 ≤ n') (Bs Bn n₀ b off n cap m : Nat) (hm : 0 < m) (hm2 : m ≤ 100) (h0n : 0 < n) (hnm : n ≤ 100000) (hcap : n ≤ cap) (hcm : cap ≤ maxLen) (w : World)
    (hBs : w.heap[Bs]? = some (.cells #[.slice (some ⟨b, off, none⟩) n cap] 109 (0, 0))) (hBn : w.heap[Bn]? = some (.cells #[.int .i64 (m : Int)] 3 (0, 0)))
    (hls : Bs < n₀) (hln : Bn < n₀) (hn₀ : n₀ ≤ w.heap.size) :
    SeqStopsK Fence.wide n' Tryz.prog 205 #[.pointer (some ⟨Bs, 0, none⟩), .pointer (some ⟨Bn, 0, none⟩)] (fun x : Fin (cntP n m) => #[prtV b off n m x.1]) (Below n₀)
      (fun ys => ys.map (·.1) = List.range (cntP n m)) (fun _ => True) (cntP n m) w := fun l J Jx W hW hJ _ hY h0 =>
  chunk1_in n' hn l Bs Bn n₀ b off n cap m hm hm2 h0n hnm hcap hcm J Jx hY W hJ ((hW.block Bs (Array.getElem?_eq_some_iff.1 hBs).1).trans hBs) ((hW.block Bn (Array.getElem?_eq_some_iff.1 hBn).1).trans hBn) hls hln (Nat.le_trans hn₀ hW.size) h0

theorem infoGrp : (Tryz.prog.info? 109).map (fun i => (i.zero, i.size, i.bytes)) = some (some (.slice none 0 0), 1, 24) := by kernel_rfl
def prtVs (b off n m : Nat) (P : List Nat) : List Value := P.map fun j => prtV b off n m j

set_option maxHeartbeats 2000000 in
theorem appendGrp_in (n' : Nat) (hn : 3 ≤ n') (Bs Bn b off n cap m : Nat) (hm : 0 < m) (hm2 : m ≤ 100) (h0n : 0 < n) (hnm : n ≤ 100000) (hcap : n ≤ cap) (hcm : cap ≤ maxLen) (w : World)
    (hBs : w.heap[Bs]? = some (.cells #[.slice (some ⟨b, off, none⟩) n cap] 109 (0, 0))) (hBn : w.heap[Bn]? = some (.cells #[.int .i64 (m : Int)] 3 (0, 0))) :
    CallsIn Fence.wide n' Tryz.prog 204 #[.slice none 0 0, .func (.func 205) #[] #[.pointer (some ⟨Bs, 0, none⟩), .pointer (some ⟨Bn, 0, none⟩)]] w fun e W' =>
      ∃ v, e = .returned v ∧ W'.ownsRow w.heap.size 109 1 v (cntP n m) (prtVs b off n m (List.range (cntP n m))) ∧ Below w.heap.size w W' := by
  have h1 : 1 ≤ n' := by omega
  have hro : Fence.wide.round = none := rfl
  have f33 : Fence.wide.fn 204 := trivial
  have f34 : Fence.wide.fn 205 := trivial
  obtain ⟨i0, hi, hz0, hz1, hz2⟩ := info_parts infoGrp
  have hcn : cntP n m ≤ 100100 := by
    have : cntP n m ≤ n + (m - 1) := Nat.div_le_self _ _
    omega
  refine callsIn_of_wp_marks Tryz.func204 rfl f33 ?_ hro
  simp only [Tryz.ntmps204, List.size_toArray, List.length_cons, List.length_nil, Nat.reduceAdd, Nat.reduceSub, Array.replicate_succ, Array.replicate_zero, List.push_toArray, List.append_toArray, List.nil_append, List.cons_append]
  gi_wp2
  have bO := Boxed.new w 254 (.slice none 0 0)
  have hB0 : Below w.heap.size w (w.alloc (.cells #[.slice none 0 0] 254)) := (Below.refl _ w).alloc (Nat.le_refl _) _
  have hBl : Bs < w.heap.size := (Array.getElem?_eq_some_iff.1 hBs).1
  have hBnl : Bn < w.heap.size := (Array.getElem?_eq_some_iff.1 hBn).1
  have hBs1 := (hB0.block Bs hBl).trans hBs
  have hBn1 := (hB0.block Bn hBnl).trans hBn
  refine wpIn_rangeFunc_ownG (encs := fun x : Fin (cntP n m) => #[prtV b off n m x.1]) hro h1 (gf := 205) (lb := #[.pointer (some ⟨Bs, 0, none⟩), .pointer (some ⟨Bn, 0, none⟩)]) rfl f34 (enters_of Tryz.func205 (by kernel_rfl) rfl)
    (chunk_stops (n' - 1) (by omega) Bs Bn w.heap.size b off n cap m hm hm2 h0n hnm hcap hcm _ hBs1 hBn1 hBl hBnl (by simp)) belowK_t (belowK_b (by simp)) (Below.refl _ _) (fun _ => rfl)
    (fun (pre : List (Fin (cntP n m))) W => (∃ v, Boxed W w.heap.size 254 v ∧ W.ownsRow w.heap.size 109 1 v pre.length (prtVs b off n m (pre.map (·.1))) ∧ True) ∧ Below w.heap.size w W)
    (fun _ _ _ => False)
    (OwnFrom.and (Own.from (holdsRow_own w.heap.size w.heap.size 254 109 1 (fun (pre : List (Fin (cntP n m))) => pre.length) (fun (pre : List (Fin (cntP n m))) => prtVs b off n m (pre.map (·.1))) (fun _ _ => True)) _) (ownFrom_below (Nat.le_refl _) (by simp)))
    (fun _ _ _ _ _ hs _ _ => hs)
    ⟨⟨_, bO, World.ownsRow_nil _ _ _ _, trivial⟩, hB0⟩
    (fun x => { tmps := #[.slice none 0 0, .func (.func 205) #[] #[.pointer (some ⟨Bs, 0, none⟩), .pointer (some ⟨Bn, 0, none⟩)], .pointer (some ⟨w.heap.size, 0, none⟩), undef, .slice none 0 0, prtV b off n m x.1, .func (.func 205) #[] #[.pointer (some ⟨Bs, 0, none⟩), .pointer (some ⟨Bn, 0, none⟩)], prtV b off n m x.1, undef, undef, undef, undef, undef], defers := [] }) ?assign ?body ?done ?stop
  case assign =>
    intro l x W K hK
    gi_wp2
    exact hK
  case body =>
    rintro l pre x W ⟨⟨v, hv, hrow, _⟩, hB⟩ hlt2
    have hc := hv.cell
    have hpc : (prtV b off n m x.1).cells = #[prtV b off n m x.1] := rfl
    unfold prtV at hpc ⊢
    gi_wp2_with (gi_at_builtin; refine wpListIn_append_own _ rfl _ _ 254 rfl w.heap.size 109 i0 (.slice none 0 0) 1 24 Tryz.underlying254 hi hz0 hz1 hz2 rfl (by decide) _ _ _ rfl (hrow.alloc _) ⟨W.heap.size, 0, none⟩ 1 1 [prtV b off n m x.1] rfl rfl (cell_one_new _ _ _) (by simp [prtV, Value.oneCell']) (by unfold maxLen; omega) (by omega) (by have := hB.size; simp; omega) ?_; intro v' w1 hown' hgrow _; obtain ⟨g', cap', rfl⟩ := ownsRow_succ hown'; obtain ⟨hv1, hv2, hr2, hk2, hb2⟩ := hv.appended (by decide) hrow hB.size (Nat.le_refl _) hown' hgrow; have hc1 := hv1.cell; have hf1 := hv1.frozen)
    exact ⟨hk2.from _, hb2, ⟨_, hv2, by simpa [prtVs] using hr2, trivial⟩, hB.trans hb2⟩
  case done =>
    rintro D ys W hD hys ⟨⟨v, hv, hrow, _⟩, hB⟩ hK
    have hc := hv.cell
    gi_wp2
    refine ⟨by simp, .inl ⟨_, _, rfl, run_takeDeferred hK, ?_⟩⟩
    have hl := congrArg List.length hys
    rw [List.length_map, List.length_range] at hl
    rw [hys, hl] at hrow
    exact ⟨_, results_tmp rfl _ _ _, v, rfl, ownsRow_putObj hrow _ hK rfl, hB.trans (belowK_b (w := w) (Nat.le_refl _) W D _ _ (by simp at hD; omega) hK rfl rfl)⟩
  case stop =>
    rintro D c pre W _ _ h _
    exact h.elim

theorem collectGrp_in (n' : Nat) (hn : 4 ≤ n') (Bs Bn b off n cap m : Nat) (hm : 0 < m) (hm2 : m ≤ 100) (h0n : 0 < n) (hnm : n ≤ 100000) (hcap : n ≤ cap) (hcm : cap ≤ maxLen) (w : World)
    (hBs : w.heap[Bs]? = some (.cells #[.slice (some ⟨b, off, none⟩) n cap] 109 (0, 0))) (hBn : w.heap[Bn]? = some (.cells #[.int .i64 (m : Int)] 3 (0, 0))) :
    CallsIn Fence.wide n' Tryz.prog 190 #[.func (.func 205) #[] #[.pointer (some ⟨Bs, 0, none⟩), .pointer (some ⟨Bn, 0, none⟩)]] w fun e W' =>
      ∃ v, e = .returned v ∧ W'.ownsRow w.heap.size 109 1 v (cntP n m) (prtVs b off n m (List.range (cntP n m))) ∧ Below w.heap.size w W' := by
  have f27 : Fence.wide.fn 190 := trivial
  have CA := Lib.hid (appendGrp_in (n' - 1) (by omega) Bs Bn b off n cap m hm hm2 h0n hnm hcap hcm w hBs hBn)
  clear hBs hBn
  refine callsIn_of_wp Tryz.func190 rfl f27 ?_ rfl
  simp only [Tryz.ntmps190, List.size_toArray, List.length_cons, List.length_nil, Nat.reduceAdd, Nat.reduceSub, Array.replicate_succ, Array.replicate_zero, List.push_toArray, List.append_toArray, List.nil_append, List.cons_append]
  gi_wp2
  refine ⟨trivial, fun _ => by omega, ?_⟩
  refine (CA.out).mono ?_
  rintro e w1 ⟨v, rfl, hr, hb⟩
  gi_wp2
  go_ret
  exact ⟨v, rfl, hr, hb⟩

/-- groups of pairs, which lie where the pairs lie, in a row of the call's own -/
def GrpTo (a : Option Addr) (ps : List (List (Nat × Nat))) (w : World) (e : Ending) (w' : World) : Prop :=
  ∃ (v : Value) (Hs : List Hd), e = .returned v ∧ Recs hdC w' 109 1 v Hs ∧ Hs.length = ps.length ∧ (∀ k, v.ownBlock = some k → w.heap.size ≤ k) ∧
    (∀ h ∈ Hs, ∀ p, h.1 = some p → ∃ p0, a = some p0 ∧ p.block = p0.block) ∧ (∀ (i : Nat) (h : Hd) (q : List (Nat × Nat)), Hs[i]? = some h → ps[i]? = some q → PairsAt w' h.1 h.2.1 h.2.2 q) ∧ Below w.heap.size w w'

theorem prt_cells (b off n m : Nat) (P : List Nat) : (P.map (prt b off n m)).flatMap hdC = prtVs b off n m P := by
  induction P with
  | nil => rfl
  | cons j P ih => rw [List.map_cons, List.flatMap_cons, ih]; rfl

theorem groups_some (a : Option Addr) (n cap m : Nat) (L : List (Nat × Nat)) (w : World) (he : PairsAt w a n cap L) (h0 : 0 < n) (hn : n ≤ 100000) (hm : 0 < m) (hm2 : m ≤ 100) :
    Calls Tryz.prog 178 #[.slice a n cap, .int .i64 m] w (GrpTo a (partsL m L) w) := by
  obtain ⟨b, off, rfl, _, _⟩ := PairsAt.cells he h0
  have HE := Lib.hid he
  have hcp := he.2.1
  have hcm := he.2.2.1
  have hlen := he.1
  have CH := Lib.hid (chunk_in 4 (some ⟨b, off, none⟩) n cap m w hm)
  have hb2 := ((Below.refl w.heap.size w).alloc (Nat.le_refl _) (.cells #[.slice (some ⟨b, off, none⟩) n cap] 109)).alloc (by simp) (.cells #[.int .i64 m] 3)
  have hx1 := heap_alloc2_old w (.cells #[.slice (some ⟨b, off, none⟩) n cap] 109) (.cells #[.int .i64 m] 3)
  have hx2 := heap_alloc2_new w (.cells #[.slice (some ⟨b, off, none⟩) n cap] 109) (.cells #[.int .i64 m] 3)
  have CC := Lib.hid (collectGrp_in 4 (by omega) w.heap.size (w.heap.size + 1) b off n cap m hm hm2 h0 hn hcp hcm _ hx1 hx2)
  have HB2 := Lib.hid hb2
  have hne : ¬ (n : Int) = 0 := by omega
  have hparts : partsL m L = chunk m L := by unfold partsL; rw [if_neg (by omega)]
  have HPT := Lib.hid hparts
  have HLEN := Lib.hid hlen
  clear he hb2 hx1 hx2 hparts hlen
  go_enter Tryz.func178, Tryz.ntmps178
  go_wp2_with fail
  refine (callsIn_wide.1 CH.out).mono ?_
  rintro e w2 ⟨rfl, rfl⟩
  go_wp2_with fail
  refine (callsIn_wide.1 CC.out).mono ?_
  rintro e w3 ⟨v, rfl, hr, hb⟩
  go_wp2
  go_ret
  have hb3 : Below w.heap.size w w3 := HB2.out.trans (hb.mono (by simp; omega))
  have he3 := CameAt.below HE.out (Nat.zero_lt_succ 1) hb3
  have hcl : (chunk m L).length = cntP n m := by rw [chunk_length, HLEN.out]; rfl
  refine ⟨v, (List.range (cntP n m)).map (prt b off n m), rfl, ⟨fun _ _ => rfl, fun h _ => hdC_one h, ?_⟩, by rw [HPT.out, hcl]; simp, fun k hk => by have := (hr.lt k hk).1; simp at this; omega, ?_, ?_, hb3⟩
  · rw [prt_cells, List.length_map, List.length_range]
    exact owned_base hr (Nat.zero_le _)
  · intro h hh p hp
    simp only [List.mem_map, List.mem_range] at hh
    obtain ⟨j, _, rfl⟩ := hh
    refine ⟨_, rfl, ?_⟩
    simp only [prt, Option.some.injEq] at hp
    subst hp
    rfl
  · intro i h q hi hq
    rw [HPT.out] at hq
    have hil : i < cntP n m := by
      have := (List.getElem?_eq_some_iff.1 hq).1
      rw [hcl] at this
      exact this
    rw [List.getElem?_map, List.getElem?_range hil] at hi
    obtain rfl : prt b off n m i = h := by simpa using hi
    have hmi := (cntP_lt hm).1 hil
    have hqe : (L.drop (m * i)).take m = q := by
      have hii : i < (L.length + (m - 1)) / m := by rw [HLEN.out]; exact hil
      unfold chunk at hq
      rw [List.getElem?_map, List.getElem?_range hii] at hq
      simpa using hq
    have hpt := CameAt.part he3 (m * i) (min m (n - m * i)) b off rfl (by omega) (by omega)
    have ht : (L.drop (m * i)).take (min m (n - m * i)) = q := by
      rw [← hqe]
      by_cases hle : m ≤ n - m * i
      · rw [Nat.min_eq_left hle]
      · rw [Nat.min_eq_right (by omega), List.take_of_length_le (by rw [List.length_drop, HLEN.out]; omega), List.take_of_length_le (by rw [List.length_drop, HLEN.out]; omega)]
    rw [ht] at hpt
    exact hpt

theorem groups_none (a : Option Addr) (cap m : Nat) (w : World) :
    Calls Tryz.prog 178 #[.slice a 0 cap, .int .i64 m] w (GrpTo a (partsL m []) w) := by
  obtain ⟨i0, hi, hz0, hz1, hz2⟩ := info_parts infoGrp
  go_enter Tryz.func178, Tryz.ntmps178
  go_wp2_with (at_make; refine wpList_make_full _ rfl _ _ 254 rfl w.heap.size 109 i0 (.slice none 0 0) 1 Tryz.underlying254 hi hz0 hz1 .i64 .i64 _ _ 1 rfl rfl rfl rfl (by rw [hz2]; omega) (by unfold maxLen; omega) (Nat.le_refl _) ?_; intro w1 hown hgrow)
  go_ret
  have hb : Below w.heap.size w w1 := (Below.refl _ _).grown hgrow (Nat.le_refl _) (fun k hk => by cases hk)
  have e : (madeCells (Value.slice none 0 0).cells (1 * 1)).toList = [((none, 0, 0) : Hd)].flatMap hdC := by
    have := toList_madeCells_one (.slice none 0 0) 1
    simpa [Value.cells, hdC] using this
  refine ⟨_, [(none, 0, 0)], rfl, ⟨fun _ _ => rfl, fun h _ => hdC_one h, ?_⟩, rfl, fun k hk => by simp [Value.ownBlock] at hk; omega, ?_, ?_, hb⟩
  · rw [← e]; exact owned_base hown (Nat.zero_le _)
  · intro h hh p hp
    simp only [List.mem_singleton] at hh
    subst hh
    cases hp
  · intro i h q hi hq
    have hp : partsL m [] = [[]] := rfl
    rw [hp] at hq
    match i with
    | 0 => simp at hi hq; subst hi hq; exact CameAt.nil _ _ _
    | i + 1 => simp at hi

theorem groups_any (a : Option Addr) (n cap m : Nat) (L : List (Nat × Nat)) (w : World) (he : PairsAt w a n cap L) (hn : n ≤ 100000) (hm : 0 < m) (hm2 : m ≤ 100) :
    Calls Tryz.prog 178 #[.slice a n cap, .int .i64 m] w (GrpTo a (partsL m L) w) := by
  by_cases h0 : 0 < n
  · exact groups_some a n cap m L w he h0 hn hm hm2
  · obtain rfl : n = 0 := by omega
    obtain rfl : L = [] := List.eq_nil_of_length_eq_zero he.1
    exact groups_none a cap m w

end Go.Proofs.YtjcmphjjkeigjaaGreat

namespace Go.Proofs.YtjcmphjjkeigjaaGreat
open Go.RowKit
set_option linter.unusedVariables false
set_option linter.unusedSimpArgs false
set_option maxRecDepth 100000

theorem built1 (a1 : Option Addr) (n1 c1 : Nat) : ∀ w : World, (Instr.buildSlice 190 1 #[(0, .slice a1 n1 c1)]).run Tryz.prog w = .ok (.slice (some ⟨w.heap.size, 0, none⟩) 1 1) (w.alloc (.cells #[.slice a1 n1 c1] 49)) :=
  built_rows [.slice a1 n1 c1] (by simp [slice_cells]) (by simp) (by simp) _ rfl 1 rfl

theorem above_take (base : Nat) (ps : List (List (Nat × Nat))) (j : Nat) (hj : j < ps.length) : (aboveL base ps).take (j + 1) = (aboveL base ps).take j ++ [(leastL (ps.getD j []), base + j)] := by
  rw [List.take_succ_eq_append_getElem (by rw [aboveL_length]; exact hj)]
  congr 2
  simp [aboveL]
theorem pages_take (k : Nat) (ps : List (List (Nat × Nat))) (j : Nat) (hj : j < ps.length) : (ps.take (j + 1)).map (pageL k) = (ps.take j).map (pageL k) ++ [pageL k (ps.getD j [])] := by
  rw [List.take_succ_eq_append_getElem hj, List.map_append]
  simp [List.getD, List.getElem?_eq_getElem hj]
theorem Only.ownTrans {v v' : Value} {a b c : World} (h : Only (fun q => v.ownBlock = some q) a b) (k : Only (fun q => v'.ownBlock = some q) b c) (hv : v'.ownBlock = v.ownBlock ∨ ∀ q, v'.ownBlock = some q → a.heap.size ≤ q) : Only (fun q => v.ownBlock = some q) a c :=
  h.trans k fun i hi hk => by
    rcases hv with e | e
    · exact e ▸ hk
    · have := e i hk; omega
/-- the state of addLevel between two rounds -/
structure LvW (w : World) (v : Value) (P : List (List UInt8)) (k : Nat) (ps : List (List (Nat × Nat))) (j : Nat) (v1 v2 : Value) (W : World) : Prop where
  rows : RowsO W v1 (P ++ (ps.take j).map (pageL k))
  abv : Recs pairC W 114 2 v2 ((aboveL P.length ps).take j)
  own1 : v1.ownBlock = v.ownBlock ∨ ∀ q, v1.ownBlock = some q → w.heap.size ≤ q
  own2 : ∀ q, v2.ownBlock = some q → w.heap.size ≤ q
  only : Only (fun q => v.ownBlock = some q) w W

/-- rows are kept where pairs grow -/
theorem rows_pairs {w w' : World} {v v2 : Value} {P : List (List UInt8)} {M : List (Nat × Nat)} {Hs : List Hd} (h1 : Recs hdC w 49 1 v Hs) (h3 : ∀ (i : Nat) (h : Hd) (l : List UInt8), Hs[i]? = some h → P[i]? = some l → OctO w (.slice h.1 h.2.1 h.2.2) l)
    (h2 : Recs pairC w 114 2 v2 M) (hg : w.grownBy w' v2.ownBlock) : Recs hdC w' 49 1 v Hs ∧ ∀ (i : Nat) (h : Hd) (l : List UInt8), Hs[i]? = some h → P[i]? = some l → OctO w' (.slice h.1 h.2.1 h.2.2) l := by
  have ho : Only (fun k => v2.ownBlock = some k) w w' := Only.of_grown hg fun k e => e
  refine ⟨h1.only ho (h1.typed (by decide) h2), fun i h l hi hl => ?_⟩
  have := h3 i h l hi hl
  exact this.only ho (this.typed (by decide) h2)
theorem rows_below {w w' : World} {v : Value} {P : List (List UInt8)} {Hs : List Hd} (h1 : Recs hdC w 49 1 v Hs) (h3 : ∀ (i : Nat) (h : Hd) (l : List UInt8), Hs[i]? = some h → P[i]? = some l → OctO w (.slice h.1 h.2.1 h.2.2) l)
    (hb : Below w.heap.size w w') : Recs hdC w' 49 1 v Hs ∧ ∀ (i : Nat) (h : Hd) (l : List UInt8), Hs[i]? = some h → P[i]? = some l → OctO w' (.slice h.1 h.2.1 h.2.2) l :=
  ⟨h1.below hb, fun i h l hi hl => (h3 i h l hi hl).below hb⟩

def LvTo (v : Value) (s : LvS) (w : World) (e : Ending) (w' : World) : Prop :=
  ∃ v1 v2 : Value, e = .returned (.tuple #[v1, v2]) ∧ RowsO w' v1 s.1 ∧ Recs pairC w' 114 2 v2 s.2 ∧ (v1.ownBlock = v.ownBlock ∨ ∀ q, v1.ownBlock = some q → w.heap.size ≤ q) ∧ (∀ q, v2.ownBlock = some q → w.heap.size ≤ q) ∧ Only (fun q => v.ownBlock = some q) w w'

set_option maxHeartbeats 4000000 in
theorem addLevel_any (v : Value) (P : List (List UInt8)) (k : Nat) (pa : Option Addr) (pn pc : Nat) (ps : List (List (Nat × Nat))) (Gs : List Hd) (w : World) (hP : RowsO w v P)
    (hGn : Gs.length = ps.length) (hG : ∀ u, Only (fun q => v.ownBlock = some q) w u → CameAt hdC 1 u pa pn pc Gs ∧ ∀ (i : Nat) (h : Hd) (q : List (Nat × Nat)), Gs[i]? = some h → ps[i]? = some q → PairsAt u h.1 h.2.1 h.2.2 q) (hmay : ∀ p ∈ ps, mayN k p.length = true ∧ FitsT k p) (hsz : P.length + ps.length ≤ 60000) :
    Calls Tryz.prog 177 #[v, .int .u64 k, .slice pa pn pc] w (LvTo v (levelL k P ps) w) := by
  have HG := Lib.hid hG
  have hlen : ps.length = pn := by rw [← hGn]; exact (hG w (Only.refl _ _)).1.1
  have HGN := Lib.hid hGn
  clear hGn
  have HLN := Lib.hid hlen
  have HMAY := Lib.hid (fun j (h : j < ps.length) => hmay (ps.getD j []) (by rw [List.getD, List.getElem?_eq_getElem h]; exact List.getElem_mem h))
  have HAT := Lib.hid (fun j (h : j < ps.length) => above_take P.length ps j h)
  have HPT := Lib.hid (fun j (h : j < ps.length) => pages_take k ps j h)
  have HLV := Lib.hid (show levelL k P ps = (P ++ (ps.take ps.length).map (pageL k), (aboveL P.length ps).take ps.length) by rw [List.take_length, List.take_of_length_le (by rw [aboveL_length]; exact Nat.le_refl _)]; rfl)
  have h0 : LvW w v P k ps 0 v (.slice none 0 0) w := ⟨by simpa using hP, by rw [List.take_zero]; exact Recs.nil _ _ _ _, .inl rfl, fun q hq => by simp [Value.ownBlock] at hq, Only.refl _ _⟩
  have H0 := Lib.hid h0
  have hPn : P.length + pn ≤ 60000 := by omega
  clear hG hmay h0 hlen hP hsz
  go_enter Tryz.func177, Tryz.ntmps177
  go_wp2
  go_loopw [0, 8, 13] (fun x y i wr => ∃ j : Nat, j ≤ pn ∧ i = .int .i64 j ∧ LvW w v P k ps j x y wr) (fun _ _ i _ => pn - (intOf i).toNat)
  case atStart => exact ⟨0, Nat.zero_le _, rfl, H0.out⟩
  case round =>
    obtain ⟨j, hj, rfl, hw⟩ := hrel
    have HW := Lib.hid hw
    clear hw H0
    by_cases hlt : j < pn
    · have hjl : j < ps.length := by rw [HLN.out]; exact hlt
      obtain ⟨gb, goff, rfl, hgb, hgc⟩ := CameAt.at (HG.out wr HW.out.only).1 (by omega) (by omega)
      obtain ⟨hh, hgj⟩ : ∃ hh, Gs[j]? = some hh := ⟨_, List.getElem?_eq_getElem (by have := HGN.out; omega)⟩
      have hpj : ps[j]? = some (ps.getD j []) := by rw [List.getD, List.getElem?_eq_getElem hjl]; rfl
      have hcell0 := hgc j 0 _ hgj (by omega)
      rw [Nat.mul_one, Nat.add_zero] at hcell0
      have hEE := fun u ho => (HG.out u ho).2 j _ _ hgj hpj
      obtain ⟨ha, hn, hc⟩ := hh
      have hcell : wr.cell? ⟨gb, goff + j, none⟩ = some (.slice ha hn hc) := hcell0
      clear hcell0
      have hE := hEE wr HW.out.only
      dsimp only at hEE hE
      have HEE := Lib.hid hEE
      clear hEE hgj hpj
      have hmf := HMAY.out j hjl
      have hat := HAT.out j hjl
      have hpt := HPT.out j hjl
      have hEn := hE.1
      generalize ps.getD j [] = p at *
      have hn12 : hn ≤ 12 := by
        rcases mayN_cases hmf.1 with h | h <;> omega
      obtain ⟨Hs, hr1, hr2, hr3⟩ := HW.out.rows
      obtain ⟨a1, c1, rfl, _, _⟩ := hr1.form
      have hHs : Hs.length = P.length + j := by rw [hr2, List.length_append, List.length_map, List.length_take, Nat.min_eq_left (by omega)]
      have hra := HW.out.abv
      obtain ⟨a2, c2, hv2, _, _⟩ := hra.form
      have hla : ((aboveL P.length ps).take j).length = j := by rw [List.length_take, aboveL_length]; omega
      rw [hla] at hv2
      subst hv2
      have CL := Lib.hid (least_any ha hn hc p wr hE)
      have HE := Lib.hid hE
      have HMF := Lib.hid hmf
      have HAT2 := Lib.hid hat
      have HPT2 := Lib.hid hpt
      have HR1 := Lib.hid hr1
      have HR2 := Lib.hid hr2
      have HR3 := Lib.hid hr3
      have HRA := Lib.hid hra
      have HHS := Lib.hid hHs
      clear hE hmf hat hpt hr1 hr2 hr3 hgc HAT HPT HMAY
      have hX : (#[Value.int .u64 (leastL p : Nat), Value.int .u64 ((P.length + j : Nat) : Int)] : Array Value) = (pairC (leastL p, P.length + j)).toArray := rfl
      obtain ⟨i0, hi0, hz0, hz1, hz2⟩ := info_parts infoPair
      have HI := Lib.hid (And.intro hi0 (And.intro hz0 (And.intro hz1 hz2)))
      have hal : Below wr.heap.size wr (wr.alloc (.cells (pairC (leastL p, P.length + j)).toArray 114)) := (Below.refl _ _).alloc (Nat.le_refl _) _
      have HRA3 := Lib.hid (HRA.out.below hal)
      have HAL := Lib.hid hal
      have hbytes1 : ((aboveL P.length ps).take j).length + 1 ≤ maxLen := by rw [hla]; unfold maxLen; omega
      have hbytes2 : (((aboveL P.length ps).take j).length + 1) * 16 ≤ 140737488355328 := by rw [hla]; omega
      have HBY := Lib.hid (And.intro hbytes1 hbytes2)
      have HLA := Lib.hid hla
      have HPX := Lib.hid (show (P ++ (ps.take j).map (pageL k)).length = Hs.length from HR2.out.symm)
      have hPj : Hs.length ≤ 60000 := by omega
      have hconv : (Hs.length : Int) = ((P.length + j : Nat) : Int) := by rw [hHs]
      clear hi0 hz0 hz1 hz2 hal hbytes1 hbytes2 hla hEn
      rw [hHs] at *
      generalize leastL p = lp at *
      generalize hPq : P.length + j = pq at *
      have HPQ := Lib.hid hPq
      clear hPq
      go_wp2_with (first
        | (go_at_call 189; refine (CL.out).mono ?_; rintro e w1 ⟨rfl, rfl⟩)
        | (refine wpList_buildSliceV rfl 109 1 _ rfl #[(0, .agg (pairC (lp, pq)).toArray)] (by simp [go_sem, pairC]) _ _ (built_pair (pairC (lp, pq)).toArray rfl _) ?_)
        | (refine wpList_append_recs rfl _ _ 109 rfl 114 i0 _ 2 16 Tryz.underlying109 HI.out.1 HI.out.2.1 HI.out.2.2.1 HI.out.2.2.2 (by simp [Value.cells]) (by omega) _ _ rfl HRA3.out ⟨wr.heap.size, 0, none⟩ 1 1 [(lp, pq)] rfl rfl (fun y _ => pairC_len y) (fun y _ => pairC_one y) (one_rec (heap_alloc_new wr _)) HBY.out.1 HBY.out.2 ?_; intro v5 w5 hrec5 hg5 hv5))
      have hbA : Below wr.heap.size wr (wr.alloc (.cells (pairC (lp, pq)).toArray 114)) := HAL.out
      have hszA : (wr.alloc (.cells (pairC (lp, pq)).toArray 114)).heap.size = wr.heap.size + 1 := by simp
      obtain ⟨hrA, hoA⟩ := rows_below HR1.out HR3.out hbA
      obtain ⟨hr5, ho5⟩ := rows_pairs hrA hoA HRA3.out hg5
      have hol5 : Only (fun q => v.ownBlock = some q) w w5 := by
        refine (HW.out.only.trans (Only.of_below hbA) (fun _ _ h => h)).trans (Only.of_grown (S := fun q => (Value.slice a2 j c2).ownBlock = some q) hg5 fun k e => e) (fun i hi hk => ?_)
        have := HW.out.own2 i hk
        omega
      have hsz5 : w.heap.size ≤ w5.heap.size := hol5.size
      have hszr : wr.heap.size ≤ w5.heap.size := Nat.le_trans (by omega) hg5.size
      have hown5 : ∀ q, v5.ownBlock = some q → w.heap.size ≤ q := fun q hq => by
        rcases hv5 with e | e
        · exact HW.out.own2 q (e ▸ hq)
        · rw [e] at hq
          have := HW.out.only.size
          simp at hq
          omega
      rw [← HAT2.out] at hrec5
      have HREC5 := Lib.hid hrec5
      have HR5 := Lib.hid hr5
      have HO5 := Lib.hid ho5
      have HOL5 := Lib.hid hol5
      have HOWN5 := Lib.hid hown5
      have CP := Lib.hid (page_any k ha hn hc p w5 (HEE.out w5 hol5) HMF.out.1 HMF.out.2)
      obtain ⟨a5, c5, hv5e, _, _⟩ := hrec5.form
      clear hrec5 hr5 ho5 hol5 hown5 hv5 hg5 hrA hoA hbA CL HRA3 HI HBY
      subst hv5e
      refine (CP.out).mono ?_
      rintro e w6 ⟨a6, c6, rfl, ho6, hb6⟩
      obtain ⟨hq6, hq6l⟩ := octO_of ho6
      have hal6 : Below w6.heap.size w6 (w6.alloc (.cells (#[.slice a6 128 c6] : Array Value) 49)) := (Below.refl _ _).alloc (Nat.le_refl _) _
      obtain ⟨hr6, hro6⟩ := rows_below HR5.out HO5.out (hb6.trans (hal6.mono hb6.size))
      have hq7 := hq6.below hal6
      have HREC6 := Lib.hid ((HREC5.out.below hb6).below hal6)
      have HR6 := Lib.hid hr6
      have HRO6 := Lib.hid hro6
      have HQ7 := Lib.hid hq7
      have HB6 := Lib.hid hb6
      have HAL6 := Lib.hid hal6
      obtain ⟨j0, hj0, jz0, jz1, jz2⟩ := info_parts infoRow
      have HJ := Lib.hid (And.intro hj0 (And.intro jz0 (And.intro jz1 jz2)))
      have HM1 := Lib.hid (show Hs.length + 1 ≤ maxLen by have := HR1.out.came.1; unfold maxLen; omega)
      have HM2 := Lib.hid (show (Hs.length + 1) * 24 ≤ 140737488355328 by have := HR1.out.came.1; omega)
      clear hr6 hro6 hq7 hq6 ho6 hb6 hal6 hj0 jz0 jz1 jz2 CP
      go_wp2_with (first
        | (refine wpList_buildSliceV rfl 190 1 _ rfl #[(0, .slice a6 128 c6)] (by simp [go_sem]) _ _ (built1 _ _ _ _) ?_)
        | (refine wpList_append_recs rfl _ _ 190 rfl 49 j0 _ 1 24 Tryz.underlying190 HJ.out.1 HJ.out.2.1 HJ.out.2.2.1 HJ.out.2.2.2 (by simp [Value.cells]) (by omega) _ _ rfl HR6.out ⟨w6.heap.size, 0, none⟩ 1 1 [(a6, 128, c6)] rfl rfl (fun y _ => rfl) (fun y _ => hdC_one y) (one_rec (f := hdC) (x := (a6, 128, c6)) (heap_alloc_new w6 _)) HM1.out HM2.out ?_; intro v7 w7 hrec7 hg7 hv7))
      have hmore := RowsO.more HR6.out (HR1.out.came.1.trans HR2.out) HRO6.out HQ7.out hrec7 hg7
      obtain ⟨a7, c7, hv7e, _, _⟩ := hrec7.form
      subst hv7e
      have hne : ∀ q, (Value.slice a5 ((aboveL P.length ps).take (j + 1)).length c5).ownBlock = some q → ¬ (Value.slice a1 pq c1).ownBlock = some q := HREC6.out.typed (by decide) HR6.out
      have hrec8 := HREC6.out.only (Only.of_grown (S := fun q => (Value.slice a1 pq c1).ownBlock = some q) hg7 fun k e => e) hne
      rw [List.length_take] at hrec8
      have hol7 : Only (fun q => v.ownBlock = some q) w w7 := by
        refine ((HOL5.out.trans (Only.of_below HB6.out) (fun _ _ h => h)).trans (Only.of_below HAL6.out) (fun _ _ h => h)).ownTrans (v' := .slice a1 pq c1) (Only.of_grown hg7 fun k e => e) ?_
        exact HW.out.own1
      have hown8 := HOWN5.out
      rw [List.length_take] at hown8
      refine ⟨⟨j + 1, by omega, by go_num, ?_, hrec8, ?_, hown8, hol7⟩, by simp [intOf]; omega⟩
      · rw [HPT2.out, ← List.append_assoc]; exact hmore
      · rcases hv7 with e | e
        · rcases HW.out.own1 with e1 | e1
          · exact .inl (e.trans e1)
          · exact .inr fun q hq => e1 q (e ▸ hq)
        · refine .inr fun q hq => ?_
          rw [e] at hq
          have := HB6.out.size
          simp at hq
          omega
    · obtain rfl : j = pn := by omega
      have hw := HW.out
      obtain ⟨h1, h2, h3, h4, h5⟩ := hw
      rw [← HLN.out] at h1 h2
      obtain ⟨a1, c1, rfl, _, _⟩ := h1.form
      obtain ⟨a2, c2, rfl, _, _⟩ := h2.form
      have hfin := HLV.out
      have H := Lib.hid (show LvTo v (levelL k P ps) w (.returned (.tuple #[_, _])) wr from ⟨_, _, rfl, by rw [hfin]; exact h1, by rw [hfin]; exact h2, h3, h4, h5⟩)
      clear h1 h2 h3 h4 h5 hfin
      go_wp2
      go_ret2
      exact H.out

def slLen : Value → Nat
  | .slice _ n _ => n
  | _ => 0
/-- pages in new memory -/
def PagesTo (P : List (List UInt8)) (w : World) (e : Ending) (w' : World) : Prop :=
  ∃ v : Value, e = .returned (.tuple #[v, .int .i64 0]) ∧ RowsO w' v P ∧ (∀ q, v.ownBlock = some q → w.heap.size ≤ q) ∧ Below w.heap.size w w'

theorem parts_may7 {l : List (Nat × Nat)} (hf : FitsT 1 l) : ∀ p ∈ partsL 7 l, mayN 1 p.length = true ∧ FitsT 1 p := fun p hp => by
  obtain ⟨h1, h2, _⟩ := partsL_part (by omega) hp
  exact ⟨by simp [mayN, h1], fun x hx => hf x (h2.subset hx)⟩
theorem parts_may12 {l : List (Nat × Nat)} (h0 : l.length ≠ 0) (hf : FitsT 2 l) : ∀ p ∈ partsL 12 l, mayN 2 p.length = true ∧ FitsT 2 p := fun p hp => by
  obtain ⟨h1, h2, h3⟩ := partsL_part (by omega) hp
  have : p.length ≠ 0 := fun h => h3 h0 (List.eq_nil_of_length_eq_zero h)
  exact ⟨by simp [mayN]; omega, fun x hx => hf x (h2.subset hx)⟩
theorem only_nil {a b : World} (h : Only (fun q => (Value.slice none 0 0).ownBlock = some q) a b) : Below a.heap.size a b := h.below (Nat.le_refl _) fun i _ => by simp [Value.ownBlock]
theorem below_only {v : Value} {B : Nat} {w a b : World} (h : Only (fun q => v.ownBlock = some q) a b) (hb : Below B w a) (hB : B ≤ a.heap.size) (hv : ∀ q, v.ownBlock = some q → B ≤ q) : Below B w b :=
  hb.trans (h.below hB fun i hi hk => by have := hv i hk; omega)

set_option maxHeartbeats 4000000 in
theorem build_yes (a : Option Addr) (n cap : Nat) (L : List (Nat × Nat)) (w : World) (he : PairsAt w a n cap L) (hm : mayL L = true) (hf : FitsT 1 L) :
    Calls Tryz.prog 147 #[.slice a n cap] w (PagesTo (buildL L) w) := by
  obtain ⟨hasc, h600⟩ := mayL_asc hm
  have HE := Lib.hid he
  have hlen := he.1
  have CV := valid_anyT a n cap L w he
  rw [hm] at CV
  have CV := Lib.hid CV
  have HLK := Lib.hid (look_start L hasc hf (by omega))
  have HM7 := Lib.hid (parts_may7 hf)
  have hb0 : (startL L) = levelL 1 [] (partsL 7 L) := rfl
  have hpl : (partsL 7 L).length ≤ 200 := by rw [partsL_length _ _ (by omega)]; omega
  have HBL := Lib.hid (show buildL L = finL (startL L) from rfl)
  clear he hm hf hasc
  go_enter Tryz.func147, Tryz.ntmps147
  go_wp2_with fail
  refine (CV.out).mono ?_
  rintro e w1 ⟨rfl, hb1⟩
  have CG := Lib.hid (groups_any a n cap 7 L w1 (CameAt.below HE.out (Nat.zero_lt_succ 1) hb1) (by omega) (by omega) (by omega))
  go_wp2_with fail
  refine (CG.out).mono ?_
  rintro e w2 ⟨v2, Gs, rfl, hg1, hg2, hg3, hg4, hg5, hb2⟩
  obtain ⟨ga, gc, rfl, _, _⟩ := hg1.form
  have CA := addLevel_any (.slice none 0 0) [] 1 ga Gs.length gc (partsL 7 L) Gs w2 (RowsO.nil _) hg2
    (fun u ho => ⟨(hg1.below (only_nil ho)).came, fun i h q hi hq => CameAt.below (hg5 i h q hi hq) (Nat.zero_lt_succ 1) (only_nil ho)⟩) HM7.out (by simp; omega)
  rw [← hb0] at CA
  have CA := Lib.hid CA
  have hbw2 : Below w.heap.size w w2 := hb1.trans (hb2.mono hb1.size)
  have HBW2 := Lib.hid hbw2
  clear hg1 hg2 hg3 hg4 hg5 hb1 hb2 CG CV hb0 hpl hbw2
  go_wp2_with fail
  refine (CA.out).mono ?_
  rintro e w3 ⟨v3, v4, rfl, hr3, hr4, ho3, ho4, hon⟩
  have hbw3 : Below w.heap.size w w3 := HBW2.out.trans ((only_nil hon).mono HBW2.out.size)
  have hown3 : ∀ q, v3.ownBlock = some q → w.heap.size ≤ q := fun q hq => by
    rcases ho3 with e | e
    · rw [e] at hq; simp [Value.ownBlock] at hq
    · exact Nat.le_trans HBW2.out.size (e q hq)
  have HR3 := Lib.hid hr3
  have HR4 := Lib.hid hr4
  have HOWN3 := Lib.hid hown3
  have HOWN4 := Lib.hid (fun q (hq : v4.ownBlock = some q) => Nat.le_trans HBW2.out.size (ho4 q hq))
  have HBW3 := Lib.hid hbw3
  clear hr3 hr4 ho3 ho4 hon hbw3 hown3 CA HBW2
  go_wp2
  go_loopw [4, 5] (fun x y wr => ∃ (s : LvS) (d : Nat), Look L s d ∧ finL s = buildL L ∧ RowsO wr x s.1 ∧ Recs pairC wr 114 2 y s.2 ∧ (∀ q, x.ownBlock = some q → w.heap.size ≤ q) ∧ (∀ q, y.ownBlock = some q → w.heap.size ≤ q) ∧ Below w.heap.size w wr) (fun _ y _ => slLen y)
  case atStart => exact ⟨startL L, 0, HLK.out, HBL.out.symm, HR3.out, HR4.out, HOWN3.out, HOWN4.out, HBW3.out⟩
  case round =>
    obtain ⟨s, d, hlk, hfin, hr, hra, hx, hy, hb⟩ := hrel
    clear HR3 HR4 HOWN3 HOWN4 HBW3 HLK
    obtain ⟨ax, cx, rfl, _, _⟩ := hr.form
    obtain ⟨ay, cy, hye, _, _⟩ := hra.form
    have hsm := hlk.small
    have HLK := Lib.hid hlk
    have HR := Lib.hid hr
    have HX := Lib.hid hx
    have HB := Lib.hid hb
    by_cases h1 : 1 < s.2.length
    · obtain ⟨g, cg, hye2, _, _, _⟩ := hra.form' (by omega)
      subst hye2
      have hst := finL_step s h1
      rw [hfin] at hst
      have HST := Lib.hid hst
      have HNX := Lib.hid (look_step hlk h1)
      have hmay := parts_may12 hlk.ne hlk.fit
      have hpl : (partsL 12 s.2).length ≤ s.2.length := by rw [partsL_length _ _ (by omega)]; omega
      have CG := Lib.hid (groups_any (some ⟨g, 0, none⟩) s.2.length cg 12 s.2 wr hra.came (by omega) (by omega) (by omega))
      have HRA := Lib.hid hra
      have HMY := Lib.hid hmay
      have hdef : levelL 2 s.1 (partsL 12 s.2) = stepL s := rfl
      have HDF := Lib.hid hdef
      have hlt : (stepL s).2.length < s.2.length := by have := (stepL_len s h1).1; omega
      have HLT := Lib.hid hlt
      have hsz2 : s.1.length + (partsL 12 s.2).length ≤ 60000 := by omega
      have h1i : (1 : Int) < (s.2.length : Int) := by omega
      clear hye hlk hfin hr hra hx hb hst hmay hdef hy hlt
      generalize hn1 : s.1.length = n1 at *
      generalize hn2 : s.2.length = n2 at *
      have HN1 := Lib.hid hn1
      have HN2 := Lib.hid hn2
      clear hn1 hn2
      go_wp2_with fail
      refine (CG.out).mono ?_
      rintro e w4 ⟨v4, Gs, rfl, hg1, hg2, hg3, hg4, hg5, hb4⟩
      obtain ⟨ga, gc, rfl, _, _⟩ := hg1.form
      have hr4 := HR.out.below hb4
      have hra4 := HRA.out.below hb4
      have CA := addLevel_any (.slice ax n1 cx) s.1 2 ga Gs.length gc (partsL 12 s.2) Gs w4 hr4 hg2
        (fun u ho => by
          obtain ⟨Hs, q1, q2, q3⟩ := hr4
          refine ⟨(hg1.only ho (hg1.typed (by decide) q1)).came, fun i h q hi hq => CameAt.only (hg5 i h q hi hq) (Nat.zero_lt_succ 1) ho fun p hp _ => ?_⟩
          obtain ⟨p0, e1, e2⟩ := hg4 h (List.mem_of_getElem? hi) p hp
          cases e1
          rw [e2]
          exact hra4.typed (by decide) q1 g rfl) HMY.out (by rw [HN1.out]; exact hsz2)
      rw [HDF.out] at CA
      have CA := Lib.hid CA
      have hb04 := HB.out.trans (hb4.mono HB.out.size)
      have HB04 := Lib.hid hb04
      clear hg1 hg2 hg3 hg4 hg5 hb4 hr4 hra4 CG hb04
      go_wp2_with fail
      refine (CA.out).mono ?_
      rintro e w5 ⟨v5, v6, rfl, k1, k2, k3, k4, k5⟩
      have hb5 : Below w.heap.size w w5 := below_only k5 HB04.out HB04.out.size (fun q hq => HX.out q hq)
      have hx5 : ∀ q, v5.ownBlock = some q → w.heap.size ≤ q := fun q hq => by
        rcases k3 with e | e
        · exact HX.out q (e ▸ hq)
        · exact Nat.le_trans HB04.out.size (e q hq)
      have hy5 : ∀ q, v6.ownBlock = some q → w.heap.size ≤ q := fun q hq => Nat.le_trans HB04.out.size (k4 q hq)
      obtain ⟨a6, c6, hv6, _, _⟩ := k2.form
      have hlt5 : slLen v6 < n2 := by rw [hv6]; exact HLT.out
      have HALL := Lib.hid (And.intro k1 (And.intro k2 (And.intro hx5 (And.intro hy5 hb5))))
      clear k1 k2 k3 k4 k5 hb5 hx5 hy5 hv6 CA
      go_wp2
      exact ⟨⟨stepL s, d + 1, HNX.out, HST.out.symm, HALL.out.1, HALL.out.2.1, HALL.out.2.2.1, HALL.out.2.2.2.1, HALL.out.2.2.2.2⟩, hlt5⟩
    · subst hye
      have hdone := finL_done s (by omega)
      rw [hfin] at hdone
      have h1i : ¬ (1 : Int) < (s.2.length : Int) := by omega
      have hfine : PagesTo (buildL L) w (.returned (.tuple #[.slice ax s.1.length cx, .int .i64 0])) wr := ⟨_, rfl, by rw [hdone]; exact hr, hx, hb⟩
      have HF := Lib.hid hfine
      clear hlk hfin hr hra hx hb hy hdone hfine HR HX HB
      generalize s.2.length = n2 at *
      generalize s.1.length = n1 at *
      go_wp2
      go_ret2
      exact HF.out

theorem build_no (a : Option Addr) (n cap : Nat) (L : List (Nat × Nat)) (w : World) (he : PairsAt w a n cap L) (hm : mayL L = false) :
    Calls Tryz.prog 147 #[.slice a n cap] w fun e w' => e = .returned (.tuple #[.slice none 0 0, .int .i64 1]) ∧ Below w.heap.size w w' := by
  have CV := valid_anyT a n cap L w he
  rw [hm] at CV
  have CV := Lib.hid CV
  clear he
  go_enter Tryz.func147, Tryz.ntmps147
  go_wp2_with fail
  refine (CV.out).mono ?_
  rintro e w1 ⟨rfl, hb1⟩
  go_wp2
  go_ret2
  exact ⟨rfl, hb1⟩

end Go.Proofs.YtjcmphjjkeigjaaGreat

namespace Go.Proofs.YtjcmphjjkeigjaaGreat
open Go.RowKit Go.Shelf
set_option linter.unusedVariables false
set_option linter.unusedSimpArgs false
set_option maxRecDepth 100000

theorem pagesN_le (n : Nat) (h : n ≤ 600) : pagesN n ≤ 95 := by
  unfold pagesN
  generalize ha : max 1 ((n + 6) / 7) = a
  have ha1 : a ≤ 86 := by omega
  by_cases h1 : a ≤ 1
  · rw [finN_done (a, a) h1]; simp only; omega
  · rw [finN_step (a, a) (by simp only; omega)]
    simp only
    generalize hb : (a + 11) / 12 = b
    by_cases h2 : b ≤ 1
    · rw [finN_done (a + b, b) h2]; simp only; omega
    · rw [finN_step (a + b, b) (by simp only; omega)]
      simp only
      rw [finN_done _ (by simp only; omega)]
      simp only
      omega
theorem pagesN_600 : pagesN 600 = 95 := by decide

theorem allR_len {P : List (List UInt8)} (h : 95 < P.length) : allR P = none := by
  unfold allR
  rw [if_neg]
  rintro ⟨_, h2, h3⟩
  have := congrArg List.length h3
  rw [buildL_length] at this
  have := pagesN_le _ (mayL_asc h2).2
  omega
theorem allR_bad {P : List (List UInt8)} (k : Nat) (hk : k < P.length) (h : isP (P.getD k []) = false) : allR P = none := by
  unfold allR
  rw [if_neg]
  rintro ⟨h1, _, _⟩
  have := List.all_eq_true.1 h1 (P.getD k []) (by rw [List.getD, List.getElem?_eq_getElem hk]; exact List.getElem_mem hk)
  rw [h] at this
  cases this

set_option maxHeartbeats 2000000 in
theorem eqRows_any (a : Option Addr) (n cap : Nat) (P : List (List UInt8)) (b : Option Addr) (m c : Nat) (Q : List (List UInt8)) (w : World) (hP : RowsR w a n cap P) (hQ : RowsR w b m c Q) :
    Calls Tryz.prog 164 #[.slice a n cap, .slice b m c, .func (.func 118) #[] #[]] w fun e w' => e = .returned (.bool (decide (P = Q))) ∧ w = w' := by
  have HP := Lib.hid hP
  have HQ := Lib.hid hQ
  have HL := Lib.hid hP.len
  have HM := Lib.hid hQ.len
  have hE : ∀ args u, (callFunc 118 args).run Tryz.prog u = .ok (.enter 118 args) u := enters_of Tryz.func118 (by kernel_rfl) rfl
  have hnx : n ≤ 9223372036854775807 := by have := hP.caps.1; have := hP.caps.2; unfold maxLen at *; omega
  clear hP hQ
  by_cases hnm : n = m
  · subst hnm
    go_enter Tryz.func164, Tryz.ntmps164
    go_wp2
    go_loopw [17] (fun i wr => ∃ k : Nat, k ≤ n ∧ i = .int .i64 k ∧ (∀ j, j < k → P.getD j [] = Q.getD j []) ∧ w = wr) (fun i _ => n - (intOf i).toNat)
    case atStart => exact ⟨0, Nat.zero_le _, rfl, fun j hj => by omega, rfl⟩
    case round =>
      obtain ⟨k, hk, rfl, heq, rfl⟩ := hrel
      have HEQ := Lib.hid heq
      clear heq
      by_cases hlt : k < n
      · obtain ⟨b1, off1, rfl, hb1, hc1⟩ := HP.out.at [] (by omega)
        obtain ⟨⟨ha, hn, hc⟩, hcell1, hE1⟩ := hc1 k hlt
        obtain ⟨b2, off2, rfl, hb2, hc2⟩ := HQ.out.at [] (by omega)
        obtain ⟨⟨ga, gn, gc⟩, hcell2, hE2⟩ := hc2 k hlt
        dsimp only at hcell1 hE1 hcell2 hE2
        have CE := Lib.hid (equal_anyT ha hn hc _ ga gn gc _ w hE1 hE2)
        have HY := Lib.hid (fun (h : P.getD k [] = Q.getD k []) => (fun j hj => by
          by_cases e : j = k
          · subst e; exact h
          · exact HEQ.out j (by omega) : ∀ j, j < k + 1 → P.getD j [] = Q.getD j []))
        have HN := Lib.hid (fun (h : P.getD k [] ≠ Q.getD k []) => (decide_eq_false (fun e => h (by rw [e])) : decide (P = Q) = false))
        clear hE1 hE2 hc1 hc2
        generalize P.getD k [] = x at *
        generalize Q.getD k [] = y at *
        by_cases hxy : x = y
        · have H := Lib.hid (HY.out hxy)
          rw [decide_eq_true hxy] at CE
          clear HY HN hxy
          go_wp2_with fail
          refine (CE.out).mono ?_
          rintro e w1 ⟨rfl, rfl⟩
          go_wp2
          exact ⟨⟨k + 1, by omega, by go_num, H.out, trivial⟩, by simp [intOf]; omega⟩
        · have H := Lib.hid (HN.out hxy)
          rw [decide_eq_false hxy] at CE
          clear HY HN hxy
          go_wp2_with fail
          refine (CE.out).mono ?_
          rintro e w1 ⟨rfl, rfl⟩
          go_wp2
          go_ret
          exact ⟨congrArg (fun b => Ending.returned (.bool b)) H.out.symm, rfl⟩
      · obtain rfl : k = n := by omega
        have hPQ : P = Q := by
          apply List.ext_getElem?
          intro j
          by_cases hj : j < k
          · have h1 := HEQ.out j hj
            have e1 := HL.out
            have e2 := HM.out
            rw [List.getD, List.getD, List.getElem?_eq_getElem (by omega), List.getElem?_eq_getElem (by omega)] at h1
            rw [List.getElem?_eq_getElem (by omega), List.getElem?_eq_getElem (by omega)]
            exact congrArg some h1
          · have e1 := HL.out
            have e2 := HM.out
            rw [List.getElem?_eq_none (by omega), List.getElem?_eq_none (by omega)]
        have H := Lib.hid (decide_eq_true hPQ)
        clear hPQ HEQ
        go_wp2
        go_ret
        exact ⟨congrArg (fun b => Ending.returned (.bool b)) H.out.symm, rfl⟩
  · have H := Lib.hid (decide_eq_false (fun (e : P = Q) => hnm (by have := HL.out; have := HM.out; rw [e] at *; omega)))
    have hni : ¬ (n : Int) = (m : Int) := by omega
    go_enter Tryz.func164, Tryz.ntmps164
    go_wp2
    go_ret
    exact ⟨congrArg (fun b => Ending.returned (.bool b)) H.out.symm, rfl⟩

/-- pairs laid behind pairs of the call's own, whatever slice they come from -/
theorem wpList_append_pairs {w : World} {ops : Array Oper} {rest : List Oper} {o : Oper} {a : Act} {Q : Exit → Act → World → Prop} (hgd : o.guard = none) (s x : Operand)
    (ho : o.op = .call { callee := .builtin .append, args := #[s, x], argTypes := #[109, 109] })
    (v : Value) (L : List (Nat × Nat)) (hs : a.eval s = v) (hown : Recs pairC w 114 2 v L)
    (sa : Option Addr) (m c : Nat) (M : List (Nat × Nat)) (hx : a.eval x = .slice sa m c) (hsrc : PairsAt w sa m c M) (h63 : L.length + m ≤ 1000000)
    (h : ∀ v' w', Recs pairC w' 114 2 v' (L ++ M) → w.grownBy w' v.ownBlock → (v'.ownBlock = v.ownBlock ∨ v'.ownBlock = some w.heap.size) → wpList Tryz.prog ops Q rest (a.put o.dst v') w') : wpList Tryz.prog ops Q (o :: rest) a w := by
  obtain ⟨i0, hi, hz0, hz1, hz2⟩ := info_parts infoPair
  obtain ⟨h1, h2, h3, h4, h5⟩ := hsrc
  rcases h5 with ⟨rfl, rfl, rfl⟩ | ⟨ad, rfl, hc⟩
  · have : M = [] := List.eq_nil_of_length_eq_zero h1
    subst this
    refine wpList_append_own_none hgd s x 109 ho 0 114 i0 2 Tryz.underlying109 hi v L.length _ hs hown.2.2 hx ?_
    exact h v w (by simpa using hown) (World.grownBy.refl _ _) (.inl rfl)
  · refine wpList_append_recs hgd s x 109 ho 114 i0 _ 2 16 Tryz.underlying109 hi hz0 hz1 hz2 (by simp [Value.cells]) (by omega) v L hs hown ad m c M hx h1 (fun y _ => pairC_len y) (fun y _ => pairC_one y) (fun j u hu => ?_) (by unfold maxLen; omega) (by omega) h
    have hjl : j < M.length * 2 := by
      have := (List.getElem?_eq_some_iff.1 hu).1
      rwa [flatMap_len (f := pairC) (size := 2) M (fun _ _ => rfl)] at this
    have hx : M[j / 2]? = some M[j / 2] := List.getElem?_eq_getElem (by omega)
    have hd : j / 2 * 2 + j % 2 = j := by omega
    have := hc (j / 2) (j % 2) _ hx (by omega)
    rw [hd] at this
    rw [this, ← flatMap_at M (f := pairC) (size := 2) (fun _ _ => rfl) (j / 2) (j % 2) _ hx (by omega), hd, hu]

def AllToF (P : List (List UInt8)) (w : World) (e : Ending) (w' : World) : Prop :=
  Below w.heap.size w w' ∧ ((allR P = none ∧ e = .returned (.tuple #[.slice none 0 0, .int .i64 3])) ∨
    ∃ (v : Value) (L : List (Nat × Nat)), allR P = some L ∧ e = .returned (.tuple #[v, .int .i64 0]) ∧ Recs pairC w' 114 2 v L ∧ ∀ q, v.ownBlock = some q → w.heap.size ≤ q)

theorem leaf_fits (P : List (List UInt8)) (h : ∀ b ∈ P, isP b = true) : FitsT 1 (P.flatMap leafEnts) := by
  intro p hp
  obtain ⟨b, hb, hpb⟩ := List.mem_flatMap.1 hp
  unfold leafEnts at hpb
  split at hpb
  · rename_i h1
    have := fits_ents b p hpb
    rwa [h1] at this
  · cases hpb
theorem leaf_len (P : List (List UInt8)) (h : ∀ b ∈ P, isP b = true) : (P.flatMap leafEnts).length ≤ 12 * P.length := by
  induction P with
  | nil => simp
  | cons b P ih =>
    have h1 := ih (fun x hx => h x (List.mem_cons_of_mem _ hx))
    have h2 : (leafEnts b).length ≤ 12 := by
      obtain ⟨_, hm⟩ := isP_may (h b List.mem_cons_self)
      unfold leafEnts
      split
      · rw [entsOf_length]
        rcases mayN_cases hm with h | h <;> omega
      · simp
    rw [List.flatMap_cons, List.length_append, List.length_cons]
    omega
theorem leaf_take {P : List (List UInt8)} (k : Nat) (hk : k < P.length) : (P.take (k + 1)).flatMap leafEnts = (P.take k).flatMap leafEnts ++ leafEnts (P.getD k []) := by
  rw [List.take_succ_eq_append_getElem hk, List.flatMap_append]
  simp [List.getD, List.getElem?_eq_getElem hk]

set_option maxHeartbeats 8000000 in
theorem all_anyF (a : Option Addr) (n cap : Nat) (P : List (List UInt8)) (w : World) (hP : RowsR w a n cap P) :
    Calls Tryz.prog 122 #[.slice a n cap] w (AllToF P w) := by
  have HP := Lib.hid hP
  have HL := Lib.hid hP.len
  have hnx : n ≤ 9223372036854775807 := by have := hP.caps.1; have := hP.caps.2; unfold maxLen at *; omega
  have CP := pages_any 600 w (Nat.le_refl _)
  rw [pagesN_600] at CP
  have CP := Lib.hid CP
  have HBAD := Lib.hid (fun k (hk : k < n) (h : isP (P.getD k []) = false) => allR_bad k (by rw [hP.len]; exact hk) h)
  have HTK := Lib.hid (fun k (hk : k < n) => leaf_take (P := P) k (by rw [hP.len]; exact hk))
  clear hP
  by_cases hn : 95 < n
  · have hni : (95 : Int) < (n : Int) := by omega
    have H := Lib.hid (allR_len (P := P) (by rw [HL.out]; exact hn))
    go_enter Tryz.func122, Tryz.ntmps122
    go_wp2_with (go_at_call 134; refine (CP.out).mono ?_; rintro e w1 ⟨rfl, rfl⟩)
    go_ret2
    exact ⟨Below.refl _ _, .inl ⟨H.out, rfl⟩⟩
  · have hni : ¬ (95 : Int) < (n : Int) := by omega
    go_enter Tryz.func122, Tryz.ntmps122
    go_wp2_with (go_at_call 134; refine (CP.out).mono ?_; rintro e w1 ⟨rfl, rfl⟩)
    clear CP
    go_loopw [4, 17] (fun x i wr => ∃ k : Nat, k ≤ n ∧ i = .int .i64 k ∧ (∀ j, j < k → isP (P.getD j []) = true) ∧ Recs pairC wr 114 2 x ((P.take k).flatMap leafEnts) ∧ (∀ q, x.ownBlock = some q → w.heap.size ≤ q) ∧ Below w.heap.size w wr) (fun _ i _ => n - (intOf i).toNat)
    case atStart => exact ⟨0, Nat.zero_le _, rfl, fun j hj => by omega, by rw [List.take_zero]; exact Recs.nil _ _ _ _, fun q hq => by simp [Value.ownBlock] at hq, Below.refl _ _⟩
    case round =>
      obtain ⟨k, hk, rfl, his, hr, hx, hb⟩ := hrel
      have HIS := Lib.hid his
      have HR := Lib.hid hr
      have HX := Lib.hid hx
      have HB := Lib.hid hb
      have hlenk : ((P.take k).flatMap leafEnts).length ≤ 12 * k := by
        have := leaf_len (P.take k) (fun b hb => by
          obtain ⟨j, hj, rfl⟩ := List.mem_iff_getElem.1 hb
          have h1 : j < P.length := by rw [List.length_take] at hj; omega
          have := his j (by rw [List.length_take] at hj; omega)
          rw [List.getD, List.getElem?_eq_getElem h1] at this
          simpa using this)
        rw [List.length_take] at this
        omega
      have HLK := Lib.hid hlenk
      clear his hr hx hb hlenk
      by_cases hlt : k < n
      · obtain ⟨b, off, rfl, hbb, hc⟩ := (HP.out.below HB.out).at [] (by omega)
        obtain ⟨⟨ha, hn2, hc2⟩, hcell, hE⟩ := hc k hlt
        dsimp only at hcell hE
        have htk := HTK.out k hlt
        have hbad := HBAD.out k hlt
        have hisk : isP (P.getD k []) = true → ∀ j, j < k + 1 → isP (P.getD j []) = true := fun h j hj => by
          by_cases e : j = k
          · subst e; exact h
          · exact HIS.out j (by omega)
        generalize P.getD k [] = pg at *
        have CN := Lib.hid (nodeOf_any ha hn2 hc2 pg wr hE)
        have HTK2 := Lib.hid htk
        have HBD := Lib.hid hbad
        have HISK := Lib.hid hisk
        clear hc hE htk hbad hisk
        go_wp2_with fail
        refine (CN.out).mono ?_
        rintro e w1 ⟨hb1, ⟨hp, rfl⟩ | ⟨hp, a1, n1, c1, rfl, hrc, hown⟩⟩
        · have H := Lib.hid (HBD.out hp)
          have hbb := HB.out.trans (hb1.mono HB.out.size)
          have HBB := Lib.hid (hbb.alloc hbb.size (.cells nodeZ 240))
          have HBS := Lib.hid (below_setRow HBB.out hbb.size nodeZ)
          have HSN := Lib.hid (show (Tryz.prog.info? 240).map (·.size) = some nodeZ.size from sizeNode)
          have HAN := Lib.hid (show nodeZ.all (·.oneCell') = true from all_node _ rfl 0)
          clear hp hb1 hbb CN HBD
          unfold nodeZ at HSN HAN HBS ⊢
          go_wp2_with (refine wpList_store_row rfl _ _ _ rfl w1.heap.size #[.int .u64 0, .slice none 0 0] rfl rfl 240 _ (heap_alloc_new w1 _) HSN.out rfl HAN.out ?_)
          go_ret2
          exact ⟨HBS.out, .inl ⟨H.out, rfl⟩⟩
        · have HIK := Lib.hid (HISK.out hp)
          have hbb := HB.out.trans (hb1.mono HB.out.size)
          have hal : Below w1.heap.size w1 ((w1.alloc (.cells nodeZ 240)).setRow w1.heap.size #[.int .u64 (kindL pg : Nat), .slice a1 n1 c1]) := below_setRow ((Below.refl _ _).alloc (Nat.le_refl _) _) (Nat.le_refl _) _
          have hbx := heap_setRow_same (w1.alloc (.cells nodeZ 240)) w1.heap.size #[.int .u64 (kindL pg : Nat), .slice a1 n1 c1] _ _ (heap_alloc_new w1 _)
          have hpr := CameAt.below hrc.came (Nat.zero_lt_succ 1) hal
          have hr2 := (HR.out.below hb1).below hal
          have hb2 := hbb.trans (hal.mono hbb.size)
          obtain ⟨w2, hw2⟩ : ∃ u, u = (w1.alloc (.cells nodeZ 240)).setRow w1.heap.size #[.int .u64 (kindL pg : Nat), .slice a1 n1 c1] := ⟨_, rfl⟩
          rw [← hw2] at hal hbx hpr hb2 hr2
          have HW2 := Lib.hid hw2
          have HSN := Lib.hid (show (Tryz.prog.info? 240).map (·.size) = some (#[Value.int .u64 (kindL pg : Nat), Value.slice a1 n1 c1] : Array Value).size from sizeNode)
          have HAN := Lib.hid (all_node (.slice a1 n1 c1) rfl (kindL pg : Nat))
          have c0 : w2.cell? ⟨w1.heap.size, 0, none⟩ = some (.int .u64 (kindL pg : Nat)) := by rw [cell_of_row _ _ _ _ _ _ hbx]; rfl
          have c1' : w2.cell? ⟨w1.heap.size, 1, none⟩ = some (.slice a1 n1 c1) := by rw [cell_of_row _ _ _ _ _ _ hbx]; rfl
          have hel : n1 ≤ 12 := by
            obtain ⟨_, hmy⟩ := isP_may hp
            have hcn : (entsOf pg).length = n1 := hrc.came.1
            rw [entsOf_length] at hcn
            rcases mayN_cases hmy with h | h <;> omega
          have hle : leafEnts pg = if kindL pg = 1 then entsOf pg else [] := rfl
          have HLE := Lib.hid hle
          have HPR := Lib.hid hpr
          have HB2 := Lib.hid hb2
          have HR2 := Lib.hid hr2
          have HSM := Lib.hid (show ((P.take k).flatMap leafEnts).length + n1 ≤ 1000000 by have := HLK.out; omega)
          clear hp hb1 hrc hown hbb hal hbx hpr hb2 hw2 CN HBD hr2 hle
          generalize kindL pg = kd at *
          unfold nodeZ at HW2
          by_cases hk1 : kd = 1
          · have hl1 := HLE.out
            rw [if_pos hk1] at hl1
            subst hk1
            have HT := HTK2.out
            rw [hl1] at HT
            have HT := Lib.hid HT
            clear hl1
            go_wp2_with (first
              | (refine wpList_store_row rfl _ _ _ rfl w1.heap.size #[.int .u64 ((1 : Nat) : Int), .slice a1 n1 c1] rfl rfl 240 _ (heap_alloc_new w1 _) HSN.out rfl HAN.out ?_; rw [← HW2.out])
              | (refine wpList_append_pairs rfl _ _ rfl _ _ rfl HR2.out a1 n1 c1 _ rfl HPR.out HSM.out ?_; intro v3 w3 hr3 hg3 hv3))
            rw [← HT.out] at hr3
            have hb3 : Below w.heap.size w w3 := HB2.out.grown hg3 HB2.out.size (fun q hq => HX.out q hq)
            have hx3 : ∀ q, v3.ownBlock = some q → w.heap.size ≤ q := fun q hq => by
              rcases hv3 with e | e
              · exact HX.out q (e ▸ hq)
              · rw [e] at hq; have := HB2.out.size; simp at hq; omega
            exact ⟨⟨k + 1, by omega, by go_num, HIK.out, hr3, hx3, hb3⟩, by simp [intOf]; omega⟩
          · have hl1 := HLE.out
            rw [if_neg hk1] at hl1
            have HT := HTK2.out
            rw [hl1, List.append_nil] at HT
            have HT := Lib.hid HT
            have hk2 : ¬ (kd : Int) = 1 := by omega
            clear hl1
            go_wp2_with (first
              | (refine wpList_store_row rfl _ _ _ rfl w1.heap.size #[.int .u64 (kd : Int), .slice a1 n1 c1] rfl rfl 240 _ (heap_alloc_new w1 _) HSN.out rfl HAN.out ?_; rw [← HW2.out]))
            exact ⟨⟨k + 1, by omega, by go_num, HIK.out, by rw [HT.out]; exact HR2.out, HX.out, HB2.out⟩, by simp [intOf]; omega⟩
      · obtain rfl : k = n := by omega
        have hr := HR.out
        have htl : P.take k = P := List.take_of_length_le (Nat.le_of_eq HL.out)
        have hlk := HLK.out
        rw [htl] at hr hlk
        have hall : P.all isP = true := List.all_eq_true.2 fun b hb => by
          obtain ⟨j, hj, rfl⟩ := List.mem_iff_getElem.1 hb
          have := HIS.out j (by rw [← HL.out]; exact hj)
          rw [List.getD, List.getElem?_eq_getElem hj] at this
          simpa using this
        have hfit := leaf_fits P (fun b hb => List.all_eq_true.1 hall b hb)
        have hdef : allR P = if P.all isP = true ∧ mayL (P.flatMap leafEnts) = true ∧ buildL (P.flatMap leafEnts) = P then some (P.flatMap leafEnts) else none := rfl
        obtain ⟨ax, cx, rfl, _, _⟩ := hr.form
        generalize P.flatMap leafEnts = L at *
        have HRR := Lib.hid hr
        clear HR HTK HBAD HIS HLK htl hr
        have HD := Lib.hid hdef
        have hLn : L.length ≤ 2000 := by omega
        clear hdef
        cases hm : mayL L with
        | false =>
          have CB := Lib.hid (build_no ax L.length cx L wr HRR.out.came hm)
          have hd := HD.out
          rw [if_neg (by rw [hm]; simp)] at hd
          have H := Lib.hid hd
          clear hd hm hall hfit
          generalize L.length = ln at *
          go_wp2_with fail
          refine (CB.out).mono ?_
          rintro e w1 ⟨rfl, hb1⟩
          go_wp2
          go_ret2
          exact ⟨HB.out.trans (hb1.mono HB.out.size), .inl ⟨H.out, rfl⟩⟩
        | true =>
          have CB := Lib.hid (build_yes ax L.length cx L wr HRR.out.came hm hfit)
          have hd := HD.out
          rw [hall, hm] at hd
          have HDD := Lib.hid hd
          clear hd hall hfit hm
          generalize hln : L.length = ln at *
          have HLN := Lib.hid hln
          clear hln
          go_wp2_with fail
          refine (CB.out).mono ?_
          rintro e w1 ⟨v1, rfl, hro, hown, hb1⟩
          obtain ⟨a1, c1, rfl, _, _⟩ := hro.form
          have CE := Lib.hid (eqRows_any a k cap P a1 (buildL L).length c1 (buildL L) w1 ((HP.out.below HB.out).below hb1) hro.read)
          have HR1 := Lib.hid (HRR.out.below hb1)
          have HB1 := Lib.hid (HB.out.trans (hb1.mono HB.out.size))
          clear hro hown hb1 CB HRR
          have hd := HDD.out
          generalize buildL L = B at *
          generalize hbn : B.length = bn at *
          have HBN := Lib.hid hbn
          clear hbn
          by_cases hPB : P = B
          · rw [if_pos (by simp [hPB])] at hd
            rw [decide_eq_true hPB] at CE
            have H := Lib.hid hd
            clear hd hPB
            go_wp2_with (go_at_call 164; refine (CE.out).mono ?_; rintro e w2 ⟨rfl, rfl⟩)
            go_ret2
            exact ⟨HB1.out, .inr ⟨_, L, H.out, rfl, HR1.out, HX.out⟩⟩
          · rw [if_neg (by rintro ⟨_, _, h⟩; exact hPB h.symm)] at hd
            rw [decide_eq_false hPB] at CE
            have H := Lib.hid hd
            clear hd hPB
            go_wp2_with (go_at_call 164; refine (CE.out).mono ?_; rintro e w2 ⟨rfl, rfl⟩)
            go_ret2
            exact ⟨HB1.out, .inl ⟨H.out, rfl⟩⟩
end Go.Proofs.YtjcmphjjkeigjaaGreat

namespace Go.Proofs.YtjcmphjjkeigjaaGreat
open Go.RowKit
set_option linter.unusedVariables false
set_option linter.unusedSimpArgs false
set_option maxRecDepth 100000

theorem turnF_in (st : Bool) (e : Int) : ∀ (L : List Int) (F F' : List Bool), (turnF st e F L).1 = some F' → ∀ p ∈ L, 0 ≤ p ∧ p < F.length
  | [], F, F', h => by simp
  | p :: L, F, F', h => by
    unfold turnF at h
    split at h
    · cases h
    · split at h
      · cases h
      · have := turnF_in st e L _ F' h
        intro q hq
        rcases List.mem_cons.1 hq with rfl | hq
        · omega
        · simpa using this q hq

def loadDirG (D : Dk) (F : List Bool) : Option (List Nat × List Bool × List (Nat × Nat)) := match dirOf (D.content 41) with
  | none => none
  | some dir => match (turnF false 15 F (dir.map Int.ofNat)).1 with
    | none => none
    | some F => match allR (dir.map fun p => D.content (42 + p)) with
      | none => none
      | some l => some (dir, F, l)
theorem loadDir_is (D : Dk) : loadDir D = loadDirG D (List.replicate (D.secs.length - 42) false) := rfl
theorem loadDirG_no (D : Dk) (F : List Bool) (h : ¬ superL (dirNums (D.content 41)) = D.content 41) : loadDirG D F = none := by
  unfold loadDirG dirOf
  rw [if_neg h]
theorem loadDirG_yes (D : Dk) (F : List Bool) (h : superL (dirNums (D.content 41)) = D.content 41) : loadDirG D F = match (turnF false 15 F (pagesI (dirNums (D.content 41)))).1 with
    | none => none
    | some F => match allR ((dirNums (D.content 41)).map fun p => D.content (42 + p)) with
      | none => none
      | some l => some (dirNums (D.content 41), F, l) := by
  unfold loadDirG dirOf
  rw [if_pos h]
  rfl
theorem dir_short {b : List UInt8} (h : superL (dirNums b) = b) (hb : b.length = 128) : (dirNums b).length ≤ 59 := by
  unfold superL at h
  split at h
  · assumption
  · rw [← h] at hb; cases hb

theorem rows_came {w wr : World} {b n : Nat} {R : List (Option Addr × Nat × Nat)} {L : List (List UInt8)} (h : RowsIn w wr b R L n) (hR : R.length = n) : RowsR wr (some ⟨b, 0, none⟩) n n L := by
  have h1 := h.recs
  rw [hR, Nat.sub_self, List.replicate_zero, List.append_nil] at h1
  refine ⟨R, h1.came, h.len.symm, fun i x l hi hl => ?_⟩
  have hlt : i < R.length := (List.getElem?_eq_some_iff.1 hi).1
  have := h.bytes i hlt
  rw [List.getD, hi, List.getD, hl] at this
  exact this

section
variable {w : World} {S U : Nat → Prop} {g gd : Nat} {D : Dk} {h : Ht}

theorem HotAt.setDir (k : HotAt w S U g gd D h) {a : Option Addr} {m c : Nat} {dir : List Nat} (hl : IntsAt w a m c (pagesI dir)) (hx : ∀ x, a = some x → x.block < w.heap.size ∧ ¬ S x.block ∧ x.block ≠ g) :
    HotAt (w.setCell ⟨g, 2, none⟩ (.slice a m c)) S (fun q => U q ∨ ∃ x, a = some x ∧ q = x.block) g gd D { h with dir := dir } := by
  obtain ⟨mb, da, dn, dc, ba, bn, bc, M, hg, hv⟩ := k.ex
  have ho : Only (fun q => q = g) w (w.setCell ⟨g, 2, none⟩ (.slice a m c)) := Only.setCell (S := fun q => q = g) w ⟨g, 2, none⟩ _ rfl
  have hs : (w.setCell ⟨g, 2, none⟩ (.slice a m c)).heap.size = w.heap.size := by simp [World.setCell]
  have hv2 := hv.only ho fun q hq e => k.offU (e ▸ hq)
  refine ⟨k.disk.only ho fun q hq e => k.offS (e ▸ hq), ⟨mb, a, m, c, ba, bn, bc, M, heap_setCell_same w g 2 _ _ (.slice a m c) hg, ?_⟩, ?_, k.offS, ?_, k.size⟩
  · refine ⟨hv2.at_, hv2.eq, hv2.pages, hl.only (by omega) ho fun p hp _ => (hx p hp).2.2, hv2.used, ?_, .inl hv2.inM, fun x hx p hp => .inl (hv2.inP x hx p hp), fun p hp => .inr ⟨p, hp, rfl⟩, fun p hp => .inl (hv2.inB p hp)⟩
    rintro q (hq | ⟨p, hp, rfl⟩)
    · exact hv2.lt q hq
    · rw [hs]; exact (hx p hp).1
  · rintro q (hq | ⟨p, hp, rfl⟩)
    · exact k.apart q hq
    · exact (hx p hp).2.1
  · rintro (hq | ⟨p, hp, e⟩)
    · exact k.offU hq
    · exact (hx p hp).2.2 e.symm

def LoadDTo (R : Option (List Nat × List Bool × List (Nat × Nat))) (S U : Nat → Prop) (g gd : Nat) (D : Dk) (h : Ht) (w : World) (e : Ending) (w' : World) : Prop :=
  (R = none ∧ (∃ v, e = .returned (.tuple #[v, .bool false])) ∧ Only (fun q => q = g ∨ U q) w w') ∨
    ∃ dir F l v U', R = some (dir, F, l) ∧ e = .returned (.tuple #[v, .bool true]) ∧ HotAt w' S U' g gd D { h with dir := dir, used := F } ∧ Recs pairC w' 114 2 v l ∧ Only (fun q => q = g ∨ U q) w w' ∧
      (∀ k, U' k → U k ∨ w.heap.size ≤ k) ∧ ∀ q, v.ownBlock = some q → w.heap.size ≤ q ∧ ¬ U' q

set_option maxHeartbeats 4000000 in
theorem loadDir_any (k : HotAt w S U g gd D h) (hp : D.power = true) :
    Calls Tryz.prog 79 #[.pointer (some ⟨g, 0, none⟩)] w (LoadDTo (loadDirG D h.used) S U g gd D h w) := by
  obtain ⟨mb, da, dn, dc, ba, bn, bc, M, hg, hv⟩ := k.ex
  obtain ⟨c0, c1, c2, c3, c4, cf⟩ := hot_cells hg
  have hs42 := k.size
  have h128 : (D.content 41).length = 128 := k.disk.ok.content 41 (by omega)
  have RD := Lib.hid (read_yes gd 41 D S w k.disk (by omega) hp)
  have HK := Lib.hid k
  have HNO := Lib.hid (loadDirG_no D h.used)
  have HYES := Lib.hid (loadDirG_yes D h.used)
  have HSH := Lib.hid (fun hb => dir_short (b := D.content 41) hb h128)
  obtain ⟨R, hR⟩ : ∃ R, R = loadDirG D h.used := ⟨_, rfl⟩
  rw [← hR] at HNO HYES ⊢
  clear k hv hg hs42 hR c1 c2 c3 c4
  generalize D.content 41 = b at *
  go_enter Tryz.func79, Tryz.ntmps79
  go_wp2_with fail
  refine RD.out.mono ?_
  rintro e w1 ⟨a, cap, rfl, hl, hb1, ha⟩
  have DO := Lib.hid (dirOf_any a cap b w1 hl)
  have HB1 := Lib.hid hb1
  clear hl hb1 ha RD c0 cf
  generalize hdn : dirNums b = dir at *
  unfold DirTo at DO
  rw [hdn] at DO
  clear hdn
  go_wp2_with fail
  refine DO.out.mono ?_
  rintro e w2 ⟨a2, m2, c2, rfl, hi2, hb2, hf2⟩
  have HB2 := Lib.hid (HB1.out.trans (hb2.mono HB1.out.size))
  have HI2 := Lib.hid hi2
  have HF2 := Lib.hid (fun x hx => (⟨Nat.le_trans HB1.out.size (hf2 x hx).1, (hf2 x hx).2⟩ : w.heap.size ≤ x.block ∧ x.block < w2.heap.size))
  clear hi2 hb2 hf2 DO HB1
  by_cases hd : superL dir = b
  · have hrn := HYES.out hd
    have HSL := Lib.hid (HSH.out hd)
    rw [decide_eq_true hd]
    have HR2 := Lib.hid hrn
    clear hrn hd HYES HNO HSH
    have CL := Lib.hid (claim_any (HK.out.below HB2.out) a2 m2 c2 dir HI2.out)
    have HTI := Lib.hid (fun F' hF' => turnF_in false 15 (pagesI dir) h.used F' hF')
    have HTL := Lib.hid (fun F' hF' => turnF_len false 15 (pagesI dir) h.used F' hF')
    generalize (turnF false 15 h.used (pagesI dir)).1 = T at *
    go_wp2_with fail
    refine CL.out.mono ?_
    rintro e w3 (⟨F', hF, rfl, U1, hA3, hO3, hU3⟩ | ⟨hF, rfl, hb3⟩)
    case inr =>
      have hrn := HR2.out
      rw [hF] at hrn
      dsimp only at hrn
      have HRN := Lib.hid hrn
      have HB3 := Lib.hid (HB2.out.trans (hb3.mono HB2.out.size))
      clear hrn hF hb3 HR2 HTI HTL CL
      go_wp2
      go_ret2
      exact Or.inl ⟨HRN.out, ⟨_, rfl⟩, Only.of_below HB3.out⟩
    case inl =>
      have hin := HTI.out F' hF
      have hfl := HTL.out F' hF
      have hrn := HR2.out
      rw [hF] at hrn
      dsimp only at hrn
      have HR3 := Lib.hid hrn
      have hnd : ∀ p ∈ dir, p < F'.length := fun p hp => by
        have := hin (p : Int) (List.mem_map_of_mem (f := Int.ofNat) hp)
        omega
      have HND := Lib.hid hnd
      have hw2 := HB2.out.size
      have hs3 := hO3.size
      have hS2 := HK.out.disk.lt
      have hg2 := HK.out.lt
      have hx3 : ∀ x, a2 = some x → x.block < w3.heap.size ∧ ¬ S x.block ∧ x.block ≠ g := fun x hx => by
        have := HF2.out x hx
        exact ⟨by omega, fun hh => by have := hS2 _ hh; omega, by omega⟩
      have hi3 : IntsAt w3 a2 m2 c2 (pagesI dir) := HI2.out.only (by omega) hO3 fun x hx _ => (hx3 x hx).2.2
      have hA4 := hA3.setDir hi3 hx3
      have hO4 : Only (fun q => q = g) w3 (w3.setCell ⟨g, 2, none⟩ (.slice a2 m2 c2)) := Only.setCell (S := fun q => q = g) w3 ⟨g, 2, none⟩ _ rfl
      have hi4 : IntsAt (w3.setCell ⟨g, 2, none⟩ (.slice a2 m2 c2)) a2 m2 c2 (pagesI dir) := hi3.only (by omega) hO4 fun x hx _ => (hx3 x hx).2.2
      have hO24 := ((Only.of_below (S := fun q => q = g) HB2.out).trans hO3 fun _ _ e => e).trans hO4 fun _ _ e => e
      have HA4 := Lib.hid hA4
      have HI4 := Lib.hid hi4
      have HO24 := Lib.hid hO24
      have HX3 := Lib.hid hx3
      have HU4 := Lib.hid (show ∀ q, (U1 q ∨ ∃ x, a2 = some x ∧ q = x.block) → U q ∨ w.heap.size ≤ q from by
        rintro q (hq | ⟨x, hx, rfl⟩)
        · exact (hU3 q hq).imp id fun h => by omega
        · exact .inr (HF2.out x hx).1)
      obtain ⟨mb3, da3, dn3, dc3, ba3, bn3, bc3, M3, hg3, _⟩ := hA3.ex
      obtain ⟨c0, c1, c2', c3, c4, cf⟩ := hot_cells hg3
      have hst := hg3
      obtain ⟨i0, hi, hz0, hz1, hz2⟩ := info_parts infoSl
      have hml : m2 = dir.length := by have := hi4.1; unfold pagesI at this; simpa using this.symm
      have hm59 : m2 ≤ 59 := by rw [hml]; exact HSL.out
      have HML := Lib.hid hml
      have hb1 : Hid (i0.bytes * m2 ≤ 281474976710656) := by unfold Hid; rw [hz2]; omega
      have hb2 : Hid (m2 ≤ maxLen) := by unfold Hid maxLen; omega
      clear hF hin hfl hrn HR2 hA4 hO4 hi4 hi3 hO24 hx3 hA3 hO3 hU3 hg3 hst hnd HTI HTL HI2 HF2 hw2 hs3 hS2 hg2 hml HSL CL c0 c1 c3 c4
      go_wp2_with (at_make; refine wpList_make_full _ rfl (.tmp 39) (.tmp 39) 190 rfl (w3.setCell ⟨g, 2, none⟩ (.slice a2 m2 c2)).heap.size 49 i0 (.slice none 0 0) 1 Tryz.underlying190 hi hz0 hz1 .i64 .i64 _ _ m2 rfl rfl rfl rfl hb1.out hb2.out (Nat.le_refl _) ?_; intro w5 hown hgrow)
      clear c2' cf hb1 hb2 hi hz0 hz1 hz2
      have hs34 : (w3.setCell ⟨g, 2, none⟩ (.slice a2 m2 c2)).heap.size = w3.heap.size := by simp [World.setCell]
      generalize w3.setCell ⟨g, 2, none⟩ (.slice a2 m2 c2) = w4 at *
      have hb45 : Below w4.heap.size w4 w5 := ⟨hgrow.os, hgrow.tape, hgrow.output, hgrow.size, fun i hi => hgrow.block i hi (by simp)⟩
      have hr0 : RowsIn w4 w5 w4.heap.size [] [] m2 := by
        refine ⟨rfl, ?_, fun k hk => by simp at hk, fun k hk => by simp at hk, ⟨Nat.le_refl _, ?_⟩, hb45⟩
        · have := recs_made (f := slC) (none, 0, 0) #[.slice none 0 0] rfl (slC_one _) (by simp) (owned_zero hown)
          simpa using this
        · exact (hown.lt w4.heap.size rfl).2
      have hB3 : w4.heap.size ≤ w3.heap.size := by omega
      rw [hs34] at hr0
      have HR0 := Lib.hid hr0
      clear hown hgrow hb45 hr0 hs34
      generalize w3.heap.size = B at *
      have HB3 := Lib.hid hB3
      clear hB3
      go_loopw [43] (fun i wr => ∃ (k : Nat) (R : List (Option Addr × Nat × Nat)), k ≤ m2 ∧ i = .int .i64 k ∧ R.length = k ∧ RowsIn w4 wr B R ((dir.map fun p => D.content (42 + p)).take k) m2) (fun i _ => m2 - (intOf i).toNat)
      case atStart => exact ⟨0, [], Nat.zero_le _, rfl, rfl, HR0.out⟩
      case round =>
        clear HR0
        obtain ⟨k, R, hk, rfl, hRl, hr⟩ := hrel
        have HR := Lib.hid hr
        have HRL := Lib.hid hRl
        clear hr hRl
        by_cases hlt : k < m2
        · have hki : (k : Int) < (m2 : Int) := by omega
          obtain ⟨bd, off, rfl, hbd, hcd⟩ := IntsAt.cell (CameAt.below HI4.out (by omega) HR.out.below) (by omega)
          obtain ⟨p, hpd⟩ : ∃ p, dir[k]? = some p := ⟨_, List.getElem?_eq_getElem (by have := HML.out; omega)⟩
          have hck := hcd k hlt
          rw [show (pagesI dir).getD k 0 = (p : Int) by unfold pagesI; rw [List.getD, List.getElem?_map, hpd]; rfl] at hck
          have hpF := HND.out p (List.mem_of_getElem? hpd)
          have hsz : F'.length + 42 = D.secs.length := HA4.out.size
          have hpg : pageAt D F'.length p = D.content (42 + p) := by unfold pageAt; rw [if_pos hpF]
          have hpl : (D.content (42 + p)).length = 128 := HA4.out.disk.ok.content _ (by omega)
          have CR := Lib.hid (read7_any (HA4.out.below HR.out.below) p (by have := HA4.out.disk.ok.many; omega) hp)
          have hpg2 : pageAt D ({ at_ := h.at_, dir := dir, used := F' } : Ht).used.length p = D.content (42 + p) := hpg
          rw [hpg2, show decide (p < ({ at_ := h.at_, dir := dir, used := F' } : Ht).used.length) = true from decide_eq_true hpF] at CR
          have HTK : (dir.map fun p => D.content (42 + p)).take (k + 1) = (dir.map fun p => D.content (42 + p)).take k ++ [D.content (42 + p)] := by
            rw [List.take_add_one, List.getElem?_map, hpd]; rfl
          have HTK := Lib.hid HTK
          have HPL := Lib.hid hpl
          generalize D.content (42 + p) = pg at *
          clear hcd hpd hpF hsz hpg hpg2 hpl
          go_wp2_with fail
          refine CR.out.mono ?_
          rintro e w1' ⟨a1, m1, c1, rfl, hl, hb, ha⟩
          have hm1 : m1 = 128 := by rw [← hl.1]; exact HPL.out
          have hal : ∀ x, a1 = some x → wr.heap.size ≤ x.block ∧ x.block < w1'.heap.size := fun x hx => ⟨ha x hx, by
            obtain ⟨b1, o1, e1, hc1⟩ := hl.at (by omega)
            have := block_lt (hc1 0 (by omega))
            rw [hx] at e1; cases e1; exact this⟩
          have hbl := HR.out.newB
          have hcell : w1'.cell? ⟨B, k, none⟩ = some (.slice none 0 0) := by
            have := (HR.out.recs.below hb).cellAt k 0 (none, 0, 0) (by rw [List.getElem?_append_right (by rw [HRL.out]; exact Nat.le_refl _), HRL.out, Nat.sub_self, List.getElem?_replicate, if_pos (by omega)]) (by omega)
            simpa [slC] using this
          have hfz := (HR.out.recs.below hb).frozenAt k
          have HN := Lib.hid (HR.out.next (by rw [HRL.out]; exact hlt) hb hl hal)
          rw [HRL.out, ← HTK.out] at HN
          subst hm1
          clear hl hb ha hbl CR hal
          go_wp2
          go_roundw
          case rel => exact ⟨k + 1, R ++ [(a1, 128, c1)], by omega, by go_num, by simp [HRL.out], HN.out⟩
          case measure => simp [intOf]; omega
        · obtain rfl : k = m2 := by omega
          have hki : ¬ (k : Int) < (k : Int) := by omega
          have hrr := HR.out
          rw [List.take_of_length_le (by rw [List.length_map, ← HML.out]; exact Nat.le_refl _)] at hrr
          have AL := Lib.hid (all_anyF (some ⟨B, 0, none⟩) k k _ wr (rows_came hrr HRL.out))
          have HA5 := Lib.hid (HA4.out.below HR.out.below)
          have HOW := Lib.hid (HO24.out.trans (Only.of_below (S := fun q => q = g) HR.out.below) fun _ _ e => e)
          clear hrr
          generalize (dir.map fun p => D.content (42 + p)) = P at *
          go_wp2_with fail
          refine AL.out.mono ?_
          rintro e w6 ⟨hb6, ⟨hn, rfl⟩ | ⟨v, L, hsm, rfl, hrc, hfr⟩⟩
          · have hrn := HR3.out
            rw [hn] at hrn
            dsimp only at hrn
            have HRN := Lib.hid hrn
            have HO6 := Lib.hid (HOW.out.trans (Only.of_below (S := fun q => q = g) hb6) fun _ _ e => e)
            clear hrn hn hb6 AL
            go_wp2
            go_ret2
            exact Or.inl ⟨HRN.out, ⟨_, rfl⟩, HO6.out.more fun q _ e => .inl e⟩
          · have hrn := HR3.out
            rw [hsm] at hrn
            dsimp only at hrn
            have HRN := Lib.hid hrn
            have HO6 := Lib.hid (HOW.out.trans (Only.of_below (S := fun q => q = g) hb6) fun _ _ e => e)
            have HA6 := Lib.hid (HA5.out.below hb6)
            have HRC := Lib.hid hrc
            have HV := Lib.hid (show ∀ q, v.ownBlock = some q → w.heap.size ≤ q ∧ ¬ (U1 q ∨ ∃ x, a2 = some x ∧ q = x.block) from fun q hq => by
              obtain ⟨_, _, _, _, _, _, _, _, _, hv5⟩ := HA5.out.ex
              have h1 := hfr q hq
              have h2 := HOW.out.size
              exact ⟨by omega, fun h => by have := hv5.lt q h; omega⟩)
            clear hrn hsm hb6 AL hrc hfr
            go_wp2
            go_ret2
            exact Or.inr ⟨dir, F', L, v, _, HRN.out, rfl, HA6.out, HRC.out, HO6.out.more fun q _ e => .inl e, HU4.out, HV.out⟩
  · have hrn := HNO.out hd
    rw [decide_eq_false hd]
    have HRN := Lib.hid hrn
    clear hrn hd HNO HYES HSH
    go_wp2
    go_ret2
    exact Or.inl ⟨HRN.out, ⟨_, rfl⟩, Only.of_below HB2.out⟩
end

end Go.Proofs.YtjcmphjjkeigjaaGreat

namespace Go.Proofs.YtjcmphjjkeigjaaGreat
open Go.RowKit
set_option linter.unusedVariables false
set_option linter.unusedSimpArgs false
set_option maxRecDepth 100000

def BlankTo (S : Nat → Prop) (gd : Nat) (D : Dk) (h : Ht) (w : World) (e : Ending) (w' : World) : Prop :=
  ∃ g U, e = .returned (.pointer (some ⟨g, 0, none⟩)) ∧ HotAt w' S U g gd D h ∧ Below w.heap.size w w' ∧ w.heap.size ≤ g ∧ ∀ q, U q → w.heap.size ≤ q

set_option maxHeartbeats 4000000 in
theorem blank_any (gd : Nat) (D : Dk) (S : Nat → Prop) (w : World) (k : DiskAt w S gd D) (hs : 42 ≤ D.secs.length) :
    Calls Tryz.prog 43 #[.pointer (some ⟨gd, 0, none⟩)] w (BlankTo S gd D (blankH (D.secs.length - 42)) w) := by
  have CZ := Lib.hid (fun u (hu : Below w.heap.size w u) => size_any gd D S u (k.below hu))
  obtain ⟨n, hn⟩ : ∃ n, n = D.secs.length - 42 := ⟨_, rfl⟩
  have hni : (D.secs.length : Int) - 42 = (n : Int) := by omega
  have hn2 : n ≤ 2048 := by have := k.ok.many; omega
  have CN := Lib.hid (fun u => new_ok n u hn2)
  have HK := Lib.hid k
  have HN := Lib.hid hn
  rw [← hn]
  clear k hn
  go_enter Tryz.func43, Tryz.ntmps43
  go_wp2_with fail
  refine (CZ.out w (Below.refl _ _)).mono ?_
  rintro e w1 ⟨rfl, rfl⟩
  go_wp2_with fail
  refine (CN.out w).mono ?_
  rintro e w2 ⟨a, m, c, rfl, hown, hb2⟩
  unfold spV
  rw [List.length_replicate]
  have HO := Lib.hid hown
  have HB2 := Lib.hid hb2
  clear hown hb2
  go_wp2_with (first | rw [run_makeMap_plain])
  go_ret
  have hb2 := HB2.out
  have hw2 := hb2.size
  have hown := HO.out
  obtain ⟨W1, hW1⟩ : ∃ W, W = w2.alloc (.cells #[.int .i64 (n : Nat), .slice a m c] 101) := ⟨_, rfl⟩
  have hz1 : W1.heap.size = w2.heap.size + 1 := by rw [hW1]; simp
  have hb1 : Below w2.heap.size w2 W1 := by rw [hW1]; exact (Below.refl _ _).alloc (Nat.le_refl _) _
  rw [← hW1]
  rw [show w2.heap.size + 1 + 1 = W1.heap.size + 1 by omega, show w2.heap.size + 1 = W1.heap.size by omega]
  have hm := MapAt.made W1
  obtain ⟨W2, hW2⟩ : ∃ W, W = W1.alloc (.map #[] 0) := ⟨_, rfl⟩
  have hz2 : W2.heap.size = W1.heap.size + 1 := by rw [hW2]; simp
  have hb12 : Below W1.heap.size W1 W2 := by rw [hW2]; exact (Below.refl _ _).alloc (Nat.le_refl _) _
  rw [← hW2] at hm ⊢
  rw [show W1.heap.size + 1 = W2.heap.size by omega]
  have hg3 := heap_alloc_new W2 (.cells (hotC gd W1.heap.size none 0 0 n a m c) 103)
  obtain ⟨W3, hW3⟩ : ∃ W, W = W2.alloc (.cells (hotC gd W1.heap.size none 0 0 n a m c) 103) := ⟨_, rfl⟩
  have hz3 : W3.heap.size = W2.heap.size + 1 := by rw [hW3]; simp
  have hb23 : Below W2.heap.size W2 W3 := by rw [hW3]; exact (Below.refl _ _).alloc (Nat.le_refl _) _
  unfold hotC at hW3
  rw [← hW3]
  rw [show W2.alloc (.cells (hotC gd W1.heap.size none 0 0 n a m c) 103) = W3 from hW3.symm] at hg3
  have hb3 : Below w2.heap.size w2 W3 := (hb1.trans (hb12.mono (by omega))).trans (hb23.mono (by omega))
  have hbw := hb2.trans (hb3.mono hw2)
  have hblk : ∀ x, a = some x → w.heap.size ≤ x.block ∧ x.block < w2.heap.size := fun x hx => hown.lt x.block (by rw [hx]; rfl)
  have hlow := HK.out.lt
  refine ⟨W2.heap.size, fun q => q = W1.heap.size ∨ ∃ x, a = some x ∧ q = x.block, rfl, ⟨HK.out.below hbw, ⟨W1.heap.size, none, 0, 0, a, m, c, [], ?_, ⟨hm.below hb23, rfl, by simp, CameAt.nil _ _ _, ⟨by simpa [blankH] using hn2, by simp [blankH], ?_⟩, ?_, .inl rfl, by simp, by simp, fun x hx => .inr ⟨x, hx, rfl⟩⟩⟩, ?_, ?_, ?_, ?_⟩, hbw, by omega, ?_⟩
  · rw [show (blankH n).used.length = n by simp [blankH]]; exact hg3
  · exact (BytesAt.owned hown).below hb3
  · rintro q (rfl | ⟨x, hx, rfl⟩)
    · omega
    · have := hblk x hx; omega
  · rintro q (rfl | ⟨x, hx, rfl⟩) hq
    · have := hlow _ hq; omega
    · have := hlow _ hq; have := hblk x hx; omega
  · intro hq
    have := hlow _ hq; omega
  · rintro (hq | ⟨x, hx, hq⟩)
    · omega
    · have := hblk x hx; omega
  · rw [show (blankH n).used.length = n by simp [blankH]]; have := HN.out; omega
  · rintro q (rfl | ⟨x, hx, rfl⟩)
    · omega
    · exact (hblk x hx).1

end Go.Proofs.YtjcmphjjkeigjaaGreat
