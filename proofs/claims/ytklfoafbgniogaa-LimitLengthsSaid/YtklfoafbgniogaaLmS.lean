/-
  The document's own answers for layer 10 (hamperref10): Two.
-/
import Derived.Test.YtklfoafbgniogaaLmR
import Derived.StillTailTactics
import Derived.Deep.DeepCutAuto
import Derived.Deep.CutBlock
namespace Go.Proofs.Ytklfoafbgniogaa
open Go.RowKit Go.Deep
set_option linter.unusedVariables false
set_option linter.unusedSimpArgs false
set_option maxRecDepth 100000

/-- the first i are laid, the rest are noughts -/
def partZ (T : List Int) (i : Nat) : List Int := (List.range T.length).map fun j => if j < i then T.getD j 0 else 0
theorem partZ_len (T : List Int) (i : Nat) : (partZ T i).length = T.length := by simp [partZ]
theorem partZ_zero (T : List Int) : partZ T 0 = List.replicate T.length 0 := by
  apply List.ext_getElem (by simp [partZ])
  intro j h1 h2
  simp [partZ]
theorem partZ_all (T : List Int) : partZ T T.length = T := by
  apply List.ext_getElem (by simp [partZ])
  intro j h1 h2
  simp [partZ, List.getD, List.getElem?_eq_getElem h2, h2]
theorem partZ_at (T : List Int) (i : Nat) : (partZ T i).getD i 0 = 0 := by
  unfold partZ
  rw [List.getD, List.getElem?_map]
  by_cases h : i < T.length
  · rw [List.getElem?_range h]; simp
  · rw [List.getElem?_eq_none (by simpa using h)]; rfl
theorem partZ_set (T : List Int) (i : Nat) (h : i < T.length) : (partZ T i).set i (T.getD i 0) = partZ T (i + 1) := by
  apply List.ext_getElem (by simp [partZ])
  intro j h1 h2
  rw [List.getElem_set]
  simp only [partZ, List.getElem_map, List.getElem_range]
  by_cases hij : i = j
  · subst hij; rw [if_pos rfl, if_pos (by omega)]
  · rw [if_neg hij]
    by_cases h3 : j < i
    · rw [if_pos h3, if_pos (by omega)]
    · rw [if_neg h3, if_neg (by omega)]

/-- the blocks of Two -/
structure TwoW (w wr : World) (N : Nat) (wa : Int) (aa : Option Addr) (ca : Nat) (wb : Int) (ab : Option Addr) (cb : Nat) (T : List Int) : Prop where
  b0 : wr.heap[w.heap.size]? = some (.cells #[.int .i64 wa, .slice aa N ca] 47 (0, 0))
  b1 : wr.heap[w.heap.size + 1]? = some (.cells #[.int .i64 wb, .slice ab N cb] 47 (0, 0))
  b2 : wr.heap[w.heap.size + 2]? = some (.cells #[.int .i64 0, .slice none 0 0] 47 (0, 0))
  row : Recs intCS wr 3 1 (.slice (some ⟨w.heap.size + 3, 0, none⟩) N N) T
  below : Below w.heap.size w wr
theorem TwoW.set {w wr : World} {N : Nat} {wa : Int} {aa : Option Addr} {ca : Nat} {wb : Int} {ab : Option Addr} {cb : Nat} {T : List Int} (h : TwoW w wr N wa aa ca wb ab cb T) (i : Nat) (hi : i < T.length) (z : Int) :
    TwoW w (wr.setCell ⟨w.heap.size + 3, i, none⟩ (.int .i64 z)) N wa aa ca wb ab cb (T.set i z) := by
  obtain ⟨h1, h2, h3, h4, h5⟩ := h
  refine ⟨?_, ?_, ?_, intR_set h4 i hi z, h5.setCell (by simp) _⟩
  · rw [heap_setCell_other _ _ _ _ (by simp)]; exact h1
  · rw [heap_setCell_other _ _ _ _ (by simp)]; exact h2
  · rw [heap_setCell_other _ _ _ _ (by simp)]; exact h3
theorem TwoW.drew {w wr : World} {N : Nat} {wa : Int} {aa : Option Addr} {ca : Nat} {wb : Int} {ab : Option Addr} {cb : Nat} {T : List Int} (h : TwoW w wr N wa aa ca wb ab cb T) : TwoW w wr.drew N wa aa ca wb ab cb T :=
  ⟨h.b0, h.b1, h.b2, h.row.below ((Below.refl _ _).drew), h.below.drew⟩
theorem pack_cells {w : World} {g : Nat} {x y : Value} {t : TypeId} (h : w.heap[g]? = some (.cells #[x, y] t (0, 0))) : w.cell? ⟨g, 0, none⟩ = some x ∧ w.cell? ⟨g, 1, none⟩ = some y :=
  ⟨by rw [cell_of_row _ _ _ _ _ _ h]; rfl, by rw [cell_of_row _ _ _ _ _ _ h]; rfl⟩
theorem two_times (N : Nat) (x y : Itm) (i : Nat) (h : i < N) : (timesL N x).getD i 0 + (timesL N y).getD i 0 = (timesL N (twoI x y)).getD i 0 := by
  rw [timesL_at _ _ _ h, timesL_at _ _ _ h, timesL_at _ _ _ h]
  simp only [twoI, List.count_append]; omega
theorem times_small (N : Nat) (x : Itm) (i : Nat) : 0 ≤ (timesL N x).getD i 0 ∧ (timesL N x).getD i 0 ≤ x.ms.length := by
  by_cases h : i < N
  · rw [timesL_at _ _ _ h]; have := List.count_le_length (a := i) (l := x.ms); omega
  · rw [List.getD, List.getElem?_eq_none (by rw [timesL_len]; omega)]; simp

theorem two_start (w : World) (N : Nat) (hN : N ≤ 100000) (wa : Int) (aa : Option Addr) (ca : Nat) (wb : Int) (ab : Option Addr) (cb : Nat) :
    TwoW w ((((w.alloc (.cells #[.int .i64 wa, .slice aa N ca] 47)).alloc (.cells #[.int .i64 wb, .slice ab N cb] 47)).alloc (.cells #[.int .i64 0, .slice none 0 0] 47)).alloc (.cells (madeCells #[.int .i64 0] N) 3)) N wa aa ca wb ab cb (List.replicate N 0) := by
  obtain ⟨w1, h1⟩ : ∃ u, u = w.alloc (.cells #[.int .i64 wa, .slice aa N ca] 47) := ⟨_, rfl⟩
  rw [← h1]
  obtain ⟨w2, h2⟩ : ∃ u, u = w1.alloc (.cells #[.int .i64 wb, .slice ab N cb] 47) := ⟨_, rfl⟩
  rw [← h2]
  obtain ⟨w3, h3⟩ : ∃ u, u = w2.alloc (.cells #[.int .i64 0, .slice none 0 0] 47) := ⟨_, rfl⟩
  rw [← h3]
  have s1 : w1.heap.size = w.heap.size + 1 := by rw [h1]; simp
  have s2 : w2.heap.size = w.heap.size + 2 := by rw [h2]; simp [s1]
  have s3 : w3.heap.size = w.heap.size + 3 := by rw [h3]; simp [s2]
  have b1 : Below w.heap.size w w1 := by rw [h1]; exact (Below.refl _ _).alloc (Nat.le_refl _) _
  have b2 : Below w1.heap.size w1 w2 := by rw [h2]; exact (Below.refl _ _).alloc (Nat.le_refl _) _
  have b3 : Below w2.heap.size w2 w3 := by rw [h3]; exact (Below.refl _ _).alloc (Nat.le_refl _) _
  have b4 : Below w3.heap.size w3 (w3.alloc (.cells (madeCells #[.int .i64 0] N) 3)) := (Below.refl _ _).alloc (Nat.le_refl _) _
  have k1 : w1.heap[w.heap.size]? = some (.cells #[.int .i64 wa, .slice aa N ca] 47 (0, 0)) := by rw [h1]; exact heap_alloc_new w _
  have k2 : w2.heap[w.heap.size + 1]? = some (.cells #[.int .i64 wb, .slice ab N cb] 47 (0, 0)) := by rw [h2, ← s1]; exact heap_alloc_new w1 _
  have k3 : w3.heap[w.heap.size + 2]? = some (.cells #[.int .i64 0, .slice none 0 0] 47 (0, 0)) := by rw [h3, ← s2]; exact heap_alloc_new w2 _
  have r := ints_made w3 N hN
  rw [s3] at r
  exact ⟨(b4.block _ (by omega)).trans ((b3.block _ (by omega)).trans ((b2.block _ (by omega)).trans k1)), (b4.block _ (by omega)).trans ((b3.block _ (by omega)).trans k2), (b4.block _ (by omega)).trans k3, r,
    b1.trans ((b2.mono (by omega)).trans ((b3.mono (by omega)).trans (b4.mono (by omega))))⟩
/-- two packs together -/
def TwoTo (N : Nat) (x : Itm) (w : World) (e : Ending) (w' : World) : Prop :=
  ∃ p : PK, p.x = x ∧ e = .returned (.agg (packC N p).toArray) ∧ PkAt N w' p ∧ Below w.heap.size w w' ∧ ∀ q, p.a = some q → w.heap.size ≤ q.block
set_option maxHeartbeats 4000000 in
theorem lmTwo_any (N : Nat) (p q : PK) (w : World) (hp : PkAt N w p) (hq : PkAt N w q) (hN : N ≤ 100000) (hw : p.x.w ≤ 1125899906842624 ∧ q.x.w ≤ 1125899906842624) (hm : p.x.ms.length ≤ 1125899906842624 ∧ q.x.ms.length ≤ 1125899906842624) :
    Calls Try.prog 27 #[.agg (packC N p).toArray, .agg (packC N q).toArray] w (TwoTo N (twoI p.x q.x) w) := by
  obtain ⟨x, pa, pc⟩ := p
  obtain ⟨y, qa, qc⟩ := q
  dsimp only [PkAt] at hp hq hw hm
  have HP := Lib.hid hp
  have HQ := Lib.hid hq
  have HT := Lib.hid (fun i (hi : i < N) => two_times N x y i hi)
  have HSX := Lib.hid (times_small N x)
  have HSY := Lib.hid (times_small N y)
  have HZL := Lib.hid (timesL_len N (twoI x y))
  have HTW := Lib.hid (show ((twoI x y).w : Int) = (x.w : Int) + (y.w : Int) by simp [twoI])
  have HMK := Lib.hid (ints_mk N hN)
  obtain ⟨T, hT⟩ : ∃ T, T = timesL N (twoI x y) := ⟨_, rfl⟩
  rw [← hT] at HT HZL
  have HTT := Lib.hid hT
  obtain ⟨wx, hwx⟩ : ∃ z : Int, z = (x.w : Int) := ⟨_, rfl⟩
  obtain ⟨wy, hwy⟩ : ∃ z : Int, z = (y.w : Int) := ⟨_, rfl⟩
  have hwb : 0 ≤ wx ∧ wx ≤ 1125899906842624 ∧ 0 ≤ wy ∧ wy ≤ 1125899906842624 := by omega
  rw [← hwx, ← hwy] at HTW
  have hb4 : Below w.heap.size w (((w.alloc (.cells #[.int .i64 wx, .slice pa N pc] 47)).alloc (.cells #[.int .i64 wy, .slice qa N qc] 47)).alloc (.cells #[.int .i64 0, .slice none 0 0] 47)) :=
    (((Below.refl _ _).alloc (Nat.le_refl _) _).alloc (by simp) _).alloc (by simp; omega) _
  show Calls Try.prog 27 #[.agg #[.int .i64 (x.w : Int), .slice pa N pc], .agg #[.int .i64 (y.w : Int), .slice qa N qc]] w _
  rw [← hwx, ← hwy]
  have HX := Lib.hid hwx
  have HY := Lib.hid hwy
  have H4 := Lib.hid hb4
  have hz := (zero_of_info (show (Try.prog.info? 47).map (fun i => (i.zero, i.size)) = some (some (.agg #[.int .i64 0, .slice none 0 0]), 2) by kernel_rfl)).1
  obtain ⟨hm1, hm2⟩ := hm
  obtain ⟨hwb1, hwb2, hwb3, hwb4⟩ := hwb
  clear hp hq hw hT hwx hwy hb4
  go_enter Try.func27, Try.ntmps27
  have hmk := HMK.out (((w.alloc (.cells #[.int .i64 wx, .slice pa N pc] 47)).alloc (.cells #[.int .i64 wy, .slice qa N qc] 47)).alloc (.cells #[.int .i64 0, .slice none 0 0] 47))
  go_upto_region 2 with (fail)
  have H00 := Lib.hid (two_start w N hN wx pa pc wy qa qc)
  clear hmk HMK H4
  generalize (((w.alloc (.cells #[.int .i64 wx, .slice pa N pc] 47)).alloc (.cells #[.int .i64 wy, .slice qa N qc] 47)).alloc (.cells #[.int .i64 0, .slice none 0 0] 47)).alloc (.cells (madeCells #[.int .i64 0] N) 3) = w00 at *
  have HPZ := Lib.hid (show List.replicate N 0 = partZ T 0 by rw [partZ_zero, HZL.out])
  go_wp2
  go_loopw [6] (fun i wr => ∃ k : Nat, k ≤ N ∧ i = .int .i64 k ∧ TwoW w wr N wx pa pc wy qa qc (partZ T k)) (fun i _ => N - (intOf i).toNat)
  case atStart => exact ⟨0, Nat.zero_le _, rfl, by rw [← HPZ.out]; exact H00.out⟩
  case round =>
    obtain ⟨k, hk, rfl, ht⟩ := hrel
    have HW := Lib.hid ht
    clear ht H00 HPZ
    obtain ⟨_, x0⟩ := pack_cells HW.out.b0
    obtain ⟨_, x1⟩ := pack_cells HW.out.b1
    by_cases hlt : k < N
    · obtain ⟨b, off, rfl, _, hc⟩ := IntsAt.cell (CameAt.below HP.out (by omega) HW.out.below) (by omega)
      obtain ⟨b2, off2, rfl, _, hc2⟩ := IntsAt.cell (CameAt.below HQ.out (by omega) HW.out.below) (by omega)
      have y0 := hc k hlt
      have y1 := hc2 k hlt
      have hkT : k < (partZ T k).length := by rw [partZ_len, HZL.out]; exact hlt
      have y2 := intR_at HW.out.row k hkT
      have f2 := HW.out.row.frozenAt k
      have hx := HSX.out k
      have hy := HSY.out k
      have HS := Lib.hid (HT.out k hlt)
      have HNX := Lib.hid (HW.out.set k hkT (T.getD k 0))
      rw [partZ_set T k (by rw [HZL.out]; exact hlt)] at HNX
      clear hc hc2 hkT
      generalize (timesL N x).getD k 0 = tx at *
      generalize (timesL N y).getD k 0 = ty at *
      generalize (partZ T k).getD k 0 = tz at *
      have hms := hx.2
      have hmt := hy.2
      have hki : (k : Int) < N := by omega
      have e1 : IntKind.i64.wrap (tx + ty) = tx + ty := IntWalk.i64_in _ (by omega)
      rw [← HS.out] at HNX
      go_wp2
      go_region
      clear e1
      go_wp2
      go_roundw
      case rel => exact ⟨k + 1, by omega, by go_num, HNX.out.drew⟩
      case measure => simp [intOf]; omega
    · obtain rfl : k = N := by omega
      have hki : ¬ (k : Int) < k := by omega
      obtain ⟨z0, _⟩ := pack_cells HW.out.b0
      obtain ⟨z1, _⟩ := pack_cells HW.out.b1
      have hrow := HW.out.row
      have hall : partZ T k = T := by have := partZ_all T; rw [HZL.out] at this; exact this
      rw [hall] at hrow
      have HROW := Lib.hid hrow
      have HB := Lib.hid HW.out.below
      have HB2 := Lib.hid HW.out.b2
      clear hrow hall
      go_wp2_with (refine wpList_store_row rfl 47 _ _ rfl (w.heap.size + 2) #[.int .i64 (wx + wy), .slice (some ⟨w.heap.size + 3, 0, none⟩) k k] rfl rfl 47 _ HB2.out sizePack rfl (by simp [Value.oneCell']) ?_)
      refine bodyPost_ret (v := .agg #[.int .i64 (wx + wy), .slice (some ⟨w.heap.size + 3, 0, none⟩) k k]) (results_cell_row rfl _ _ (w.heap.size + 2) 47 #[.int .i64 (wx + wy), .slice (some ⟨w.heap.size + 3, 0, none⟩) k k] (0, 0) _ rfl (heap_setRow_same _ _ _ _ _ HB2.out) Try.underlying47 rfl sizePack) rfl ?_
      have hr2 := HROW.out.only (S := fun q => q = w.heap.size + 2) (Only.setRow wr (w.heap.size + 2) #[.int .i64 (wx + wy), .slice (some ⟨w.heap.size + 3, 0, none⟩) k k] rfl) fun q hq e => by
        have : q = w.heap.size + 3 := by simpa [Value.ownBlock] using hq.symm
        omega
      have hc := hr2.came8 fun _ => rfl
      refine ⟨⟨twoI x y, some ⟨w.heap.size + 3, 0, none⟩, k⟩, rfl, ?_, ?_, below_setRow HB.out (by omega) _, fun q hq => by injection hq with hq; rw [← hq]; dsimp only; omega⟩
      · simp only [packC, HTW.out]
      · show IntsAt _ _ k k (timesL k (twoI x y))
        rw [← HTT.out]; exact hc
end Go.Proofs.Ytklfoafbgniogaa
