/-
  Contracts of package space: the unused pages, one by one (a range over a function); Free.
-/
import Derived.Test.YtcmhijhoemcdcaaSpC
import Derived.Test.YtcmhijhoemcdcaaSpE
import Derived.RangeFuncNested
import Derived.RangeFuncBound
import Derived.RangeFuncCalls
import Derived.RangeFuncLeaves
import Derived.RangeFuncBox
import Derived.Maps.AppendAt
import Derived.Shelf.Abstract
import Derived.Shelf.RegionOpen
import Derived.OwnWalkIn
import Derived.TacticsInMore
import Derived.LoopNIn
import Derived.LoopIn
namespace Go.Proofs.Ytcmhijhoemcdcaa
open Go.RowKit Go.Shelf
set_option linter.unusedVariables false
set_option linter.unusedSimpArgs false
set_option maxRecDepth 100000
attribute [local go_sem] Oper.semAt_some

/-- what a round keeps: what lay below n₀, and one box -/
def KpS (n₀ Bs : Nat) (W W' : World) : Prop := Below n₀ W W' ∧ W'.heap[Bs]? = W.heap[Bs]?
theorem kps_t {n₀ Bs : Nat} {A B C : World} (h : KpS n₀ Bs A B) (k : KpS n₀ Bs B C) : KpS n₀ Bs A C := ⟨h.1.trans k.1, k.2.trans h.2⟩
theorem kps_b {n₀ Bs : Nat} {w : World} (hn : n₀ ≤ w.heap.size) (hB : Bs < w.heap.size) (W : World) (l : Nat) (o o' : Obj) (hl : w.heap.size ≤ l) (h : W.heap[l]? = some o) (h1 : o.isCells = false) (h2 : o.isWalk = false) : KpS n₀ Bs W (W.putObj l o') :=
  ⟨belowK_b (w := w) hn W l o o' hl h h1 h2, World.putObj_heap_other (by omega)⟩
theorem BytesAt.lt {w : World} {a : Option Addr} {n cap : Nat} {l : List UInt8} (h : BytesAt w a n cap l) (hn : 0 < n) : ∀ x, a = some x → x.block < w.heap.size := by
  intro x hx
  rcases h.2.2.2 with ⟨_, h0, _⟩ | ⟨y, hy, hc⟩
  · omega
  · rw [hx] at hy
    cases hy
    have := block_lt (hc 0 hn)
    rwa [add_block] at this
theorem BytesAt.belowN {w w' : World} {n₀ : Nat} {a : Option Addr} {n cap : Nat} {l : List UInt8} (h : BytesAt w a n cap l) (hlt : 0 < n → ∀ x, a = some x → x.block < n₀) (hb : Below n₀ w w') : BytesAt w' a n cap l := by
  obtain ⟨h1, h2, h3, h4⟩ := h
  refine ⟨h1, h2, h3, ?_⟩
  rcases h4 with h4 | ⟨x, rfl, hx⟩
  · exact .inl h4
  · refine .inr ⟨x, rfl, fun i hi => ?_⟩
    rw [hb.cell (by rw [add_block]; exact hlt (by omega) x rfl)]
    exact hx i hi

set_option maxHeartbeats 2000000 in
/-- the unused pages, one by one: for every loop body that keeps the space -/
theorem unused1_in (n : Nat) (hn : 1 ≤ n) (l Bs n₀ : Nat) (N : Int) (a : Option Addr) (sn cap : Nat) (F : List Bool) (J Jx : List (Fin F.length) → World → Prop)
    (hY : ∀ pre (x : Fin F.length) W, J pre W → pre.length < F.length → YieldAt Fence.wide (n - 1) Try.prog l #[.int .i64 (x.1 : Int)] W fun e W' =>
      (e = .returned (.bool true) ∧ J (pre ++ [x]) W' ∧ KpS n₀ Bs W W') ∨ (e = .returned (.bool false) ∧ Jx (pre ++ [x]) W'))
    (W : World) (hJ : AbidesFrom W.heap.size J) (hBs : W.heap[Bs]? = some (.cells (spV N a sn cap) 24 (0, 0))) (hS : SpAt W N a sn cap F) (hlt : 0 < sn → ∀ x, a = some x → x.block < n₀) (hn₀ : n₀ ≤ W.heap.size) (h0 : J [] W) :
    CallsIn Fence.wide n Try.prog 34 #[.func (.yield l) #[] #[], .pointer (some ⟨Bs, 0, none⟩)] W fun e W' => (∃ v, e = .returned v) ∧
      ((∃ ys : List (Fin F.length), ys.map (·.1) = frees F ∧ J ys W') ∨ (∃ pre : List (Fin F.length), pre.map (·.1) <+: frees F ∧ Jx pre W')) := by
  have hnum := hS.num
  subst hnum
  have HY := Lib.hid hY
  have HS := Lib.hid hS
  have HL := Lib.hid hlt
  have HF := Lib.hid hS.len
  have HJ := Lib.hid hJ
  have hW0 := hBs
  obtain ⟨d0, d1⟩ := sp_cells hBs
  clear hY hS hlt hJ
  have f34 : Fence.wide.fn 34 := trivial
  refine callsIn_of_wp Try.func34 rfl f34 ?_ rfl
  simp only [Try.ntmps34, List.size_toArray, List.length_cons, List.length_nil, Nat.reduceAdd, Nat.reduceSub, Array.replicate_succ, Array.replicate_zero, List.push_toArray, List.append_toArray, List.nil_append, List.cons_append]
  gi_wp2
  gi_loopw [6] (fun i wr => ∃ (k : Nat) (pre : List (Fin F.length)), k ≤ F.length ∧ i = .int .i64 (k : Int) ∧ pre.map (·.1) = freeB F k ∧ J pre wr ∧ Below n₀ W wr ∧ wr.heap[Bs]? = W.heap[Bs]? ∧ W.heap.size ≤ wr.heap.size)
    (fun i _ => F.length - (intOf i).toNat)
  case atStart => exact ⟨0, [], Nat.zero_le _, rfl, rfl, h0, Below.refl _ _, rfl, Nat.le_refl _⟩
  case round =>
    obtain ⟨k, pre, hk, rfl, hpre, hJs, hb, hbx, hsz⟩ := hrel
    have HP := Lib.hid hpre
    have HB := Lib.hid hb
    have hbx2 := hbx.trans hW0
    obtain ⟨e0, e1⟩ := sp_cells hbx2
    have HX := Lib.hid hbx2
    clear hpre hb hbx hbx2
    by_cases hlt : k < F.length
    · have hki : (k : Int) < F.length := by omega
      have hk2 : k < 2048 := by have := HF.out; omega
      have CU := Lib.hid (fun n' => (callsIn_wide (n := n')).2 (isused_out F.length k a sn cap F wr hlt HF.out (HS.out.oct.belowN HL.out HB.out)))
      unfold spV at CU
      have hks := freeB_succ F k
      cases hr : F.getD k false with
      | true =>
        rw [hr] at CU hks
        rw [if_pos rfl, List.append_nil] at hks
        have HKS := Lib.hid hks
        clear hr hks
        gi_wp2_with (refine ⟨trivial, ?_⟩; gi_at_call 26; refine (CU.out _).mono ?_; rintro e w2 ⟨rfl, hb2⟩)
        refine ⟨fun _ h => (by cases h), ?_⟩
        gi_wp2
        go_roundw
        case rel => exact ⟨k + 1, pre, by omega, by go_num, by rw [HP.out, HKS.out], HJ.out pre wr w2 none hJs (grown_below hb2) (fun r e => by cases e), HB.out.trans (hb2.mono (by omega)), (hb2.block Bs (Array.getElem?_eq_some_iff.1 HX.out).1).trans (HX.out.trans hW0.symm), Nat.le_trans hsz hb2.size⟩
        case measure => simp [intOf]; omega
      | false =>
        rw [hr] at CU hks
        rw [if_neg (by simp)] at hks
        have HKS := Lib.hid hks
        clear hr hks
        gi_wp2_with (refine ⟨trivial, ?_⟩; gi_at_call 26; refine (CU.out _).mono ?_; rintro e w2 ⟨rfl, hb2⟩; obtain ⟨fn, tmps, assign, body, hy, hRn⟩ := HY.out pre ⟨k, hlt⟩ w2 (HJ.out pre wr w2 none hJs (grown_below hb2) (fun r e => by cases e)) (by have h1 := congrArg List.length HP.out; rw [List.length_map] at h1; have := freeB_len F k; omega))
        refine hRn.mono ?_
        rintro e W3 (⟨rfl, hJ3, hk3⟩ | ⟨rfl, hJx3⟩)
        · have hs3 : W.heap.size ≤ W3.heap.size := Nat.le_trans hsz (Nat.le_trans hb2.size hk3.1.size)
          gi_wp2
          go_roundw
          case rel => exact ⟨k + 1, pre ++ [⟨k, hlt⟩], by omega, by go_num, by rw [List.map_append, HP.out, HKS.out]; rfl, hJ3, (HB.out.trans (hb2.mono (by omega))).trans hk3.1, hk3.2.trans ((hb2.block Bs (Array.getElem?_eq_some_iff.1 HX.out).1).trans (HX.out.trans hW0.symm)), hs3⟩
          case measure => simp [intOf]; omega
        · gi_wp2
          refine bodyPost_ret (results_none rfl _ _ _) rfl ?_
          refine ⟨⟨_, rfl⟩, .inr ⟨_, ?_, hJx3⟩⟩
          rw [List.map_append, HP.out]
          have := freeB_prefix F (show k + 1 ≤ F.length by omega)
          rw [HKS.out] at this
          exact this
    · obtain rfl : k = F.length := by omega
      gi_wp2
      go_end0
      exact ⟨⟨_, rfl⟩, .inl ⟨pre, HP.out, hJs⟩⟩

theorem unused_in (n : Nat) (N : Int) (a : Option Addr) (sn cap : Nat) (w : World) :
    CallsIn Fence.wide n Try.prog 28 #[.agg (spV N a sn cap)] w fun e w' => e = .returned (.func (.func 34) #[] #[.pointer (some ⟨w.heap.size, 0, none⟩)]) ∧ w' = w.alloc (.cells (spV N a sn cap) 24) := by
  have f28 : Fence.wide.fn 28 := trivial
  unfold spV
  refine callsIn_of_wp Try.func28 rfl f28 ?_ rfl
  simp only [Try.ntmps28, List.size_toArray, List.length_cons, List.length_nil, Nat.reduceAdd, Nat.reduceSub, Array.replicate_succ, Array.replicate_zero, List.push_toArray, List.append_toArray, List.nil_append, List.cons_append]
  gi_wp2
  go_ret
  exact ⟨rfl, rfl⟩

theorem unused_stops (n : Nat) (hn : 1 ≤ n) (Bs n₀ : Nat) (N : Int) (a : Option Addr) (sn cap : Nat) (F : List Bool) (w : World) (hBs : w.heap[Bs]? = some (.cells (spV N a sn cap) 24 (0, 0)))
    (hS : SpAt w N a sn cap F) (hlt : 0 < sn → ∀ x, a = some x → x.block < n₀) (hn₀ : n₀ ≤ w.heap.size) :
    SeqStopsK Fence.wide n Try.prog 34 #[.pointer (some ⟨Bs, 0, none⟩)] (fun x : Fin F.length => #[.int .i64 (x.1 : Int)]) (KpS n₀ Bs)
      (fun ys => ys.map (·.1) = frees F) (fun pre => pre.map (·.1) <+: frees F) F.length w := fun l J Jx W hW hJ _ hY h0 =>
  unused1_in n hn l Bs n₀ N a sn cap F J Jx hY W hJ ((hW.block Bs (Array.getElem?_eq_some_iff.1 hBs).1).trans hBs) (hS.below hW) hlt (Nat.le_trans hn₀ hW.size) h0

theorem infoInt : (Try.prog.info? 3).map (fun i => (i.zero, i.size, i.bytes)) = some (some (.int .i64 0), 1, 8) := by kernel_rfl
def ivals (P : List Nat) : List Value := P.map fun (p : Nat) => .int .i64 (p : Int)

set_option maxHeartbeats 2000000 in
theorem appendSeq_in (n : Nat) (hn : 3 ≤ n) (Bs n₀ : Nat) (N : Int) (a : Option Addr) (sn cap : Nat) (F : List Bool) (w : World) (hBs : w.heap[Bs]? = some (.cells (spV N a sn cap) 24 (0, 0)))
    (hS : SpAt w N a sn cap F) (hlt : 0 < sn → ∀ x, a = some x → x.block < n₀) (hn₀ : n₀ ≤ w.heap.size) :
    CallsIn Fence.wide n Try.prog 33 #[.slice none 0 0, .func (.func 34) #[] #[.pointer (some ⟨Bs, 0, none⟩)]] w fun e W' =>
      ∃ v, e = .returned v ∧ W'.ownsRow w.heap.size 3 1 v (frees F).length (ivals (frees F)) ∧ Below w.heap.size w W' := by
  have h1 : 1 ≤ n := by omega
  have hro : Fence.wide.round = none := rfl
  have f33 : Fence.wide.fn 33 := trivial
  have f34 : Fence.wide.fn 34 := trivial
  obtain ⟨i0, hi, hz0, hz1, hz2⟩ := info_parts infoInt
  have hF := hS.len
  have hfl : (frees F).length ≤ F.length := by have := frees_count F; omega
  refine callsIn_of_wp_marks Try.func33 rfl f33 ?_ hro
  simp only [Try.ntmps33, List.size_toArray, List.length_cons, List.length_nil, Nat.reduceAdd, Nat.reduceSub, Array.replicate_succ, Array.replicate_zero, List.push_toArray, List.append_toArray, List.nil_append, List.cons_append]
  gi_wp2
  have bO := Boxed.new w 34 (.slice none 0 0)
  have hB0 : Below w.heap.size w (w.alloc (.cells #[.slice none 0 0] 34)) := (Below.refl _ w).alloc (Nat.le_refl _) _
  have hBl : Bs < w.heap.size := (Array.getElem?_eq_some_iff.1 hBs).1
  have hBs1 := (hB0.block Bs hBl).trans hBs
  refine wpIn_rangeFunc_ownG (encs := fun x : Fin F.length => #[.int .i64 (x.1 : Int)]) hro h1 (gf := 34) (lb := #[.pointer (some ⟨Bs, 0, none⟩)]) rfl f34 (enters_of Try.func34 (by kernel_rfl) rfl)
    (unused_stops (n - 1) (by omega) Bs n₀ N a sn cap F _ hBs1 (hS.below hB0) hlt (by simp; omega)) kps_t (kps_b (by simp; omega) (by simp; omega)) (Below.refl _ _) (fun _ => rfl)
    (fun (pre : List (Fin F.length)) W => (∃ v, Boxed W w.heap.size 34 v ∧ W.ownsRow w.heap.size 3 1 v pre.length (ivals (pre.map (·.1))) ∧ True) ∧ Below w.heap.size w W)
    (fun _ _ _ => False)
    (OwnFrom.and (Own.from (holdsRow_own w.heap.size w.heap.size 34 3 1 (fun (pre : List (Fin F.length)) => pre.length) (fun (pre : List (Fin F.length)) => ivals (pre.map (·.1))) (fun _ _ => True)) _) (ownFrom_below (Nat.le_refl _) (by simp)))
    (fun _ _ _ _ _ hs _ _ => hs)
    ⟨⟨_, bO, World.ownsRow_nil _ _ _ _, trivial⟩, hB0⟩
    (fun x => { tmps := #[.slice none 0 0, .func (.func 34) #[] #[.pointer (some ⟨Bs, 0, none⟩)], .pointer (some ⟨w.heap.size, 0, none⟩), undef, .slice none 0 0, .int .i64 (x.1 : Int), .func (.func 34) #[] #[.pointer (some ⟨Bs, 0, none⟩)], .int .i64 (x.1 : Int), undef, undef, undef, undef, undef], defers := [] }) ?assign ?body ?done ?stop
  case assign =>
    intro l x W K hK
    gi_wp2
    exact hK
  case body =>
    rintro l pre x W ⟨⟨v, hv, hrow, _⟩, hB⟩ hlt2
    have hc := hv.cell
    gi_wp2_with (gi_at_builtin; refine wpListIn_append_own _ rfl _ _ 34 rfl w.heap.size 3 i0 (.int .i64 0) 1 8 Try.underlying34 hi hz0 hz1 hz2 rfl (by decide) _ _ _ rfl (hrow.alloc _) ⟨W.heap.size, 0, none⟩ 1 1 [.int .i64 (x.1 : Int)] rfl rfl (cell_one_new _ _ _) (by simp [Value.oneCell']) (by unfold maxLen; omega) (by omega) (by have := hB.size; simp; omega) ?_; intro v' w1 hown' hgrow _; obtain ⟨g', cap', rfl⟩ := ownsRow_succ hown'; obtain ⟨hv1, hv2, hr2, hk2, hb2⟩ := hv.appended (by decide) hrow hB.size (Nat.le_refl _) hown' hgrow; have hc1 := hv1.cell; have hf1 := hv1.frozen)
    exact ⟨hk2.from _, ⟨hb2.mono hn₀, hb2.block Bs hBl⟩, ⟨_, hv2, by simpa [ivals] using hr2, trivial⟩, hB.trans hb2⟩
  case done =>
    rintro D ys W hD hys ⟨⟨v, hv, hrow, _⟩, hB⟩ hK
    have hc := hv.cell
    gi_wp2
    refine ⟨by simp, .inl ⟨_, _, rfl, run_takeDeferred hK, ?_⟩⟩
    have hl := congrArg List.length hys
    rw [List.length_map] at hl
    rw [hys, hl] at hrow
    exact ⟨_, results_tmp rfl _ _ _, v, rfl, ownsRow_putObj hrow _ hK rfl, hB.trans (belowK_b (w := w) (Nat.le_refl _) W D _ _ (by simp at hD; omega) hK rfl rfl)⟩
  case stop =>
    rintro D c pre W _ _ h _
    exact h.elim

theorem collect_in (n : Nat) (hn : 4 ≤ n) (Bs n₀ : Nat) (N : Int) (a : Option Addr) (sn cap : Nat) (F : List Bool) (w : World) (hBs : w.heap[Bs]? = some (.cells (spV N a sn cap) 24 (0, 0)))
    (hS : SpAt w N a sn cap F) (hlt : 0 < sn → ∀ x, a = some x → x.block < n₀) (hn₀ : n₀ ≤ w.heap.size) :
    CallsIn Fence.wide n Try.prog 27 #[.func (.func 34) #[] #[.pointer (some ⟨Bs, 0, none⟩)]] w fun e W' =>
      ∃ v, e = .returned v ∧ W'.ownsRow w.heap.size 3 1 v (frees F).length (ivals (frees F)) ∧ Below w.heap.size w W' := by
  have f27 : Fence.wide.fn 27 := trivial
  have CA := Lib.hid (appendSeq_in (n - 1) (by omega) Bs n₀ N a sn cap F w hBs hS hlt hn₀)
  clear hBs hS
  refine callsIn_of_wp Try.func27 rfl f27 ?_ rfl
  simp only [Try.ntmps27, List.size_toArray, List.length_cons, List.length_nil, Nat.reduceAdd, Nat.reduceSub, Array.replicate_succ, Array.replicate_zero, List.push_toArray, List.append_toArray, List.nil_append, List.cons_append]
  gi_wp2
  refine ⟨trivial, fun _ => by omega, ?_⟩
  refine (CA.out).mono ?_
  rintro e w1 ⟨v, rfl, hr, hb⟩
  gi_wp2
  go_ret
  exact ⟨v, rfl, hr, hb⟩

/-- numbers of pages, in a row of the call's own -/
def FreshI (P : List Nat) (w : World) (e : Ending) (w' : World) : Prop :=
  ∃ a cap, e = .returned (.slice a P.length cap) ∧ w'.ownsRow w.heap.size 3 1 (.slice a P.length cap) P.length (ivals P) ∧ Below w.heap.size w w'

theorem free_no (N : Int) (a : Option Addr) (n cap : Nat) (l : List UInt8) (w : World) (hb : BytesAt w a n cap l) (h : mayS N l = false) :
    Calls Try.prog 16 #[.agg (spV N a n cap)] w (FreshI [] w) := by
  have hb0 : Below w.heap.size w (w.alloc (.cells (spV N a n cap) 24)) := (Below.refl _ w).alloc (Nat.le_refl _) _
  have CM := Lib.hid (may_any N a n cap l _ (hb.below hb0))
  rw [h] at CM
  unfold spV at *
  clear hb h
  go_enter Try.func16, Try.ntmps16
  go_wp2_with (go_at_call 12; refine (CM.out).mono ?_; rintro e w1 ⟨rfl, hb1⟩)
  go_ret
  exact ⟨none, 0, rfl, World.ownsRow_nil _ _ _ _, hb0.trans (hb1.mono hb0.size)⟩

set_option maxHeartbeats 1000000 in
theorem free_ok (N : Int) (a : Option Addr) (n cap : Nat) (F : List Bool) (w : World) (h : SpAt w N a n cap F) :
    Calls Try.prog 16 #[.agg (spV N a n cap)] w (FreshI (frees F) w) := by
  have hb0 : Below w.heap.size w (w.alloc (.cells (spV N a n cap) 24)) := (Below.refl _ w).alloc (Nat.le_refl _) _
  have CM := Lib.hid ((h.below hb0).may)
  have HS := Lib.hid h
  have HL := Lib.hid (BytesAt.lt h.oct)
  clear h
  unfold spV at CM hb0
  unfold spV
  go_enter Try.func16, Try.ntmps16
  go_wp2_with fail
  refine (CM.out).mono ?_
  rintro e w1 ⟨rfl, hb1⟩
  obtain ⟨c0, c1⟩ := sp_cells (box_keep hb1)
  have hb1' := hb0.trans (hb1.mono hb0.size)
  have hlt : w.heap.size ≤ w1.heap.size := hb1'.size
  have CC := Lib.hid (collect_in 4 (by omega) w1.heap.size w.heap.size N a n cap F (w1.alloc (.cells (spV N a n cap) 24)) (heap_alloc_new _ _) ((HS.out.below hb1').below ((Below.refl _ _).alloc (Nat.le_refl _) _)) HL.out (by simp; omega))
  have CU := Lib.hid (unused_in 4 N a n cap w1)
  unfold spV at CC CU
  clear hb1
  go_wp2_with fail
  refine (callsIn_wide.1 CU.out).mono ?_
  rintro e w2 ⟨rfl, rfl⟩
  go_wp2_with fail
  refine (callsIn_wide.1 CC.out).mono ?_
  rintro e w3 ⟨v, rfl, hr, hb⟩
  obtain ⟨av, cv, rfl⟩ := owned_shape hr
  go_wp2
  go_ret
  exact ⟨av, cv, rfl, owned_low hr (by simp; omega), (hb1'.alloc hb1'.size _).trans (hb.mono (by simp; omega))⟩

end Go.Proofs.Ytcmhijhoemcdcaa
