/-
  Package limit: the heap of coins: Len, Less, Swap, Push, Pop.
-/
import Derived.Test.YtklfoafbgniogaaLkE
import Derived.Test.YtklfoafbgniogaaHpMath
import Derived.Test.YtklfoafbgniogaaInv
import Derived.Test.YtklfoafbgniogaaHdF
namespace Go.Proofs.Ytklfoafbgniogaa
open Go.RowKit Go.Deep
set_option linter.unusedVariables false
set_option linter.unusedSimpArgs false
set_option maxRecDepth 100000

theorem cmpNaN_any (x : Int) (w : World) : Calls Try.prog 52 #[.int .i64 x] w fun e w' => e = .returned (.bool false) ∧ w = w' := by
  go_enter Try.func52, Try.ntmps52
  go_wp2
  go_ret
  exact ⟨rfl, rfl⟩
/-- which of two comes first -/
def cmpZ (x y : Int) : Int := if x < y then -1 else if y < x then 1 else 0
theorem cmpCompare_any (x y : Int) (w : World) : Calls Try.prog 51 #[.int .i64 x, .int .i64 y] w fun e w' => e = .returned (.int .i64 (cmpZ x y)) ∧ w = w' := by
  have C1 := Lib.hid (cmpNaN_any x w)
  have C2 := Lib.hid (cmpNaN_any y w)
  go_enter Try.func51, Try.ntmps51
  go_wp2_with fail
  refine C1.out.mono ?_
  rintro e w1 ⟨rfl, rfl⟩
  go_wp2_with fail
  refine C2.out.mono ?_
  rintro e w1 ⟨rfl, rfl⟩
  by_cases h1 : x < y
  · have HE := Lib.hid (show cmpZ x y = -1 by unfold cmpZ; rw [if_pos h1])
    go_wp2
    go_ret
    exact ⟨by rw [HE.out]; rfl, rfl⟩
  · by_cases h2 : y < x
    · have HE := Lib.hid (show cmpZ x y = 1 by unfold cmpZ; rw [if_neg h1, if_pos h2])
      go_wp2
      go_ret
      exact ⟨by rw [HE.out]; rfl, rfl⟩
    · have HE := Lib.hid (show cmpZ x y = 0 by unfold cmpZ; rw [if_neg h1, if_neg h2])
      go_wp2
      go_ret
      exact ⟨by rw [HE.out]; rfl, rfl⟩
/-- the first that is not 0, of two -/
def orZ (x y : Int) : Int := if x = 0 then y else x
theorem cmpOr_any (b : Nat) (x y : Int) (w : World) (h : w.heap[b]? = some (.cells #[.int .i64 x, .int .i64 y] 3 (0, 0))) :
    Calls Try.prog 50 #[.slice (some ⟨b, 0, none⟩) 2 2] w fun e w' => e = .returned (.int .i64 (orZ x y)) ∧ w = w' := by
  have HO1 := Lib.hid (show x = 0 → orZ x y = y from fun h => if_pos h)
  have HO2 := Lib.hid (show ¬ x = 0 → orZ x y = x from fun h => if_neg h)
  have y0 := cell_of_row _ b 0 _ _ _ h
  have y1 := cell_of_row _ b 1 _ _ _ h
  change World.cell? _ ⟨b, 0, none⟩ = some (.int .i64 x) at y0
  change World.cell? _ ⟨b, 1, none⟩ = some (.int .i64 y) at y1
  clear h
  go_enter Try.func50, Try.ntmps50
  go_wp2
  go_loop [8] (fun i => ∃ k : Nat, k ≤ 2 ∧ i = .int .i64 k ∧ (1 ≤ k → x = 0) ∧ (2 ≤ k → y = 0)) (fun i => 2 - (intOf i).toNat)
  case atStart => exact ⟨0, by omega, rfl, fun h => by omega, fun h => by omega⟩
  case round =>
    obtain ⟨k, hk, rfl, h1, h2⟩ := hrel
    rcases (by omega : k = 0 ∨ k = 1 ∨ k = 2) with rfl | rfl | rfl
    · by_cases hx : x = 0
      · subst hx
        clear HO1 HO2
        clear h1 h2
        go_wp2
        go_round
        case rel => exact ⟨1, by omega, by go_num, fun _ => trivial, fun h => by omega⟩
        case measure => simp [intOf]
      · have hxb : (x == 0) = false := by simpa using hx
        have HE := Lib.hid (HO2.out hx)
        clear h1 h2
        go_wp2
        go_ret
        exact ⟨by rw [HE.out]; rfl, rfl⟩
    · obtain rfl : x = 0 := h1 (by omega)
      have HE := Lib.hid (show orZ 0 y = y from if_pos rfl)
      clear HO1 HO2
      by_cases hy : y = 0
      · subst hy
        clear h1 h2
        go_wp2
        go_round
        case rel => exact ⟨2, by omega, by go_num, fun _ => trivial, fun _ => trivial⟩
        case measure => simp [intOf]
      · have hyb : (y == 0) = false := by simpa using hy
        clear h1 h2
        go_wp2
        go_ret
        exact ⟨by rw [HE.out]; rfl, rfl⟩
    · obtain rfl : x = 0 := h1 (by omega)
      obtain rfl : y = 0 := h2 (by omega)
      clear h1 h2 HO1 HO2
      go_wp2
      go_ret
      exact ⟨rfl, rfl⟩

/-! ### the purse -/
def purC (a : Option Addr) (n cap : Nat) : Array Value := #[.slice a n cap]
/-- a purse at g: its row is the call's own since w0 -/
def PurW (w0 w : World) (g : Nat) (a : Option Addr) (n cap : Nat) (L : List Itm) : Prop :=
  w.heap[g]? = some (.cells #[.slice a n cap] 50 (0, 0)) ∧ CnI w0 w a n cap L ∧ w0.heap.size ≤ g
theorem PurW.below {w0 w w' : World} {g : Nat} {a : Option Addr} {n cap : Nat} {L : List Itm} (h : PurW w0 w g a n cap L) (hb : Below w.heap.size w w') : PurW w0 w' g a n cap L :=
  ⟨(hb.block g (Array.getElem?_eq_some_iff.1 h.1).1).trans h.1, h.2.1.below hb, h.2.2⟩
theorem PurW.box {w0 w : World} {g : Nat} {a : Option Addr} {n cap : Nat} {L : List Itm} (h : PurW w0 w g a n cap L) : w.cell? ⟨g, 0, none⟩ = some (.slice a n cap) := by
  rw [cell_of_row _ g 0 _ _ _ h.1]; rfl
theorem purLen_any (w0 w : World) (g : Nat) (a : Option Addr) (n cap : Nat) (L : List Itm) (h : PurW w0 w g a n cap L) :
    Calls Try.prog 22 #[.pointer (some ⟨g, 0, none⟩)] w fun e w' => e = .returned (.int .i64 (n : Int)) ∧ w = w' := by
  have c0 := h.box
  go_enter Try.func22, Try.ntmps22
  go_wp2
  go_ret
  exact ⟨rfl, rfl⟩
/-- by how often they come, then by symbol -/
def lexLe (a b : Itm) : Prop := a.w < b.w ∨ (a.w = b.w ∧ idxI a ≤ idxI b)
instance (a b : Itm) : Decidable (lexLe a b) := by unfold lexLe; exact inferInstance
theorem less_lex (x y : Itm) : decide (orZ (cmpZ x.w y.w) (cmpZ (idxI x) (idxI y)) < 0) = lessB lexLe x y := by
  unfold lessB lexLe orZ cmpZ
  rw [decide_eq_decide]
  split <;> split <;> (try split) <;> (try split) <;> omega
theorem built_two (x y : Int) (w : World) : (Instr.buildSlice 22 2 #[(0, .int .i64 x), (1, .int .i64 y)]).run Try.prog w = .ok (.slice (some ⟨w.heap.size, 0, none⟩) 2 2) (w.alloc (.cells #[.int .i64 x, .int .i64 y] 3)) := by
  obtain ⟨i0, hi, hz0, hz1, hz2⟩ := info_parts infoIntS
  refine run_buildSlice w 22 3 2 _ _ i0 _ Try.underlying22 hi hz0 (by rw [hz1]; omega) (by rw [hz1]; omega) ?_
  rw [hz1]
  kernel_rfl
/-- two boxes of coins that were just made -/
structure TwoB (w wx : World) (p q : Nat) (x y : Itm) : Prop where
  below : Below w.heap.size w wx
  px : wx.heap[p]? = some (.cells (cnC x).toArray 40 (0, 0))
  qy : wx.heap[q]? = some (.cells (cnC y).toArray 40 (0, 0))
  ne : p ≠ q
  ge : w.heap.size ≤ p ∧ w.heap.size ≤ q
set_option maxHeartbeats 4000000 in
theorem purLess_any (w0 w : World) (g : Nat) (a : Option Addr) (n cap : Nat) (L : List Itm) (h : PurW w0 w g a n cap L) (i j : Nat) (hi : i < n) (hj : j < n) :
    Calls Try.prog 46 #[.pointer (some ⟨g, 0, none⟩), .int .i64 (i : Int), .int .i64 (j : Int)] w fun e w' => e = .returned (.bool (lessB lexLe (L.getD i default) (L.getD j default))) ∧ Below w.heap.size w w' := by
  obtain ⟨rb, rcap, hv, hnc, _, hrl⟩ := h.2.1.1.form' (by rw [h.2.1.2.1]; omega)
  simp only [Value.slice.injEq] at hv
  obtain ⟨rfl, hv2, rfl⟩ := hv
  clear hv2
  have c0 := h.box
  have hLi : L[i]? = some (L.getD i default) := by rw [List.getD, List.getElem?_eq_getElem (by rw [h.2.1.2.1]; exact hi)]; rfl
  have hLj : L[j]? = some (L.getD j default) := by rw [List.getD, List.getElem?_eq_getElem (by rw [h.2.1.2.1]; exact hj)]; rfl
  have hri := h.2.1.1.rangeAt i _ hLi
  have hrj := h.2.1.1.rangeAt j _ hLj
  generalize L.getD i default = x at *
  generalize L.getD j default = y at *
  have hin : (i : Int) < n := by omega
  have hjn : (j : Int) < n := by omega
  clear hLi hLj h
  go_enter Try.func46, Try.ntmps46
  go_upto_region 1 with (fail)
  have hri0 := (show w.drew.rangeAt rb (i * 2) (cnC x) from hri)
  have hrj0 := (show w.drew.rangeAt rb (j * 2) (cnC y) from hrj)
  go_cut [7, 8] (fun s7 s8 wx => ∃ p q, s7 = .pointer (some ⟨p, 0, none⟩) ∧ s8 = .pointer (some ⟨q, 0, none⟩) ∧ TwoB w wx p q x y)
  case first =>
    refine region_fork [0, 1, 2, 3, 4, 5, 6, 7, 8, 9, 10, 11] 4 (fun u => Below w.heap.size w u) (by kernel_rfl) (by kernel_rfl) rfl (by kernel_rfl) ((Below.refl _ _).drew) ?_
    simp only [pickO, List.filterMap_cons, List.filterMap_nil, List.getElem?_cons_zero, List.getElem?_cons_succ, Option.map_some, List.drop_succ_cons, List.drop_zero]
    iterate 5
      refine seqS_read _ rfl rfl (by rintro u hu; have hu1 := below_cell hu c0; clear hu; go_simp; with_reducible rfl) ?_
      try simp only [Act.put, List.setIfInBounds_toArray, List.set_cons_zero, List.set_cons_succ]
    refine seqS_load_mid rfl rfl 40 _ rfl rb (i * 2) (by simp [Act.eval]) (cnC x) _ (fun u hu k v hv => below_cell hu (hri k v hv)) Try.underlying40 rfl sizeCn ?_
    try simp only [Act.put, List.setIfInBounds_toArray, List.set_cons_zero, List.set_cons_succ]
    iterate 5
      refine seqS_read _ rfl rfl (by rintro u hu; have hu1 := below_cell hu c0; clear hu; go_simp; with_reducible rfl) ?_
      try simp only [Act.put, List.setIfInBounds_toArray, List.set_cons_zero, List.set_cons_succ]
    refine seqS_load_mid rfl rfl 40 _ rfl rb (j * 2) (by simp [Act.eval]) (cnC y) _ (fun u hu k v hv => below_cell hu (hrj k v hv)) Try.underlying40 rfl sizeCn ?_
    try simp only [Act.put, List.setIfInBounds_toArray, List.set_cons_zero, List.set_cons_succ]
    refine seqS_nil ?_
    refine hdF_two (k := 12) (j := 13) (by kernel_rfl) (by decide) (by decide) rfl rfl rfl rfl (fun K hK => ?_) (fun K hK => ?_)
    · go_simp
      have hb1 : Below w.heap.size w (w.alloc (.cells #[.int .i64 0, .int .i64 0] 40)).drew := ((Below.refl _ _).alloc (Nat.le_refl _) _).drew
      have k1 : ((w.alloc (.cells #[.int .i64 0, .int .i64 0] 40)).drew).heap[w.heap.size]? = some (.cells #[.int .i64 0, .int .i64 0] 40 (0, 0)) := heap_alloc_new w _
      have hs1 : ((w.alloc (.cells #[.int .i64 0, .int .i64 0] 40)).drew).heap.size = w.heap.size + 1 := by show (w.alloc _).heap.size = _; simp
      refine hK _ _ hb1 ?_
      clear hK K
      obtain ⟨w1, hw1⟩ : ∃ u, u = (w.alloc (.cells #[.int .i64 0, .int .i64 0] 40)).drew := ⟨_, rfl⟩
      rw [← hw1] at hb1 k1 hs1 ⊢
      clear hw1
      refine hdF_one (k := 13) (by kernel_rfl) (by decide) rfl rfl (fun K hK => ?_)
      go_simp
      have hb2 : Below w.heap.size w (w1.alloc (.cells #[.int .i64 0, .int .i64 0] 40)) := hb1.alloc (by omega) _
      have k2 : (w1.alloc (.cells #[.int .i64 0, .int .i64 0] 40)).heap[w.heap.size + 1]? = some (.cells #[.int .i64 0, .int .i64 0] 40 (0, 0)) := by rw [← hs1]; exact heap_alloc_new w1 _
      have k3 : (w1.alloc (.cells #[.int .i64 0, .int .i64 0] 40)).heap[w.heap.size]? = some (.cells #[.int .i64 0, .int .i64 0] 40 (0, 0)) := (((Below.refl _ w1).alloc (Nat.le_refl _) _).block _ (by omega)).trans k1
      refine hK _ _ hb2 ?_
      clear hK K
      obtain ⟨w2, hw2⟩ : ∃ u, u = w1.alloc (.cells #[.int .i64 0, .int .i64 0] 40) := ⟨_, rfl⟩
      rw [← hw2] at hb2 k2 k3 ⊢
      clear hw2 k1 hb1 hs1
      refine hdF_one (k := 14) (by kernel_rfl) (by decide) rfl rfl (fun K hK => ?_)
      refine wp_store_row 40 _ _ rfl w.heap.size (cnC x).toArray (by simp [Act.eval]) (by simp [Act.eval]) _ _ k3 sizeCn rfl (all_oneCell_toArray (cnC_one x)) ?_
      have hb3 : Below w.heap.size w (w2.setRow w.heap.size (cnC x).toArray) := hb2.grown (setRow_grown _ _ _) (by have := hb2.size; omega) (fun k hk => by injection hk with hk; omega)
      have m1 : (w2.setRow w.heap.size (cnC x).toArray).heap[w.heap.size]? = some (.cells (cnC x).toArray 40 (0, 0)) := heap_setRow_same _ _ _ _ _ k3
      have m2 : (w2.setRow w.heap.size (cnC x).toArray).heap[(w.heap.size + 1)]? = some (.cells #[.int .i64 0, .int .i64 0] 40 (0, 0)) := (heap_setRow_other _ _ _ _ (by omega)).trans k2
      refine hK _ _ hb3 ?_
      clear hK K
      obtain ⟨w3, hw3⟩ : ∃ u, u = w2.setRow w.heap.size (cnC x).toArray := ⟨_, rfl⟩
      rw [← hw3] at hb3 m1 m2 ⊢
      clear hw3 k2 k3 hb2
      refine hdF_one (k := 15) (by kernel_rfl) (by decide) rfl rfl (fun K hK => ?_)
      refine wp_store_row 40 _ _ rfl (w.heap.size + 1) (cnC y).toArray (by simp [Act.eval, Act.put]) (by simp [Act.eval, Act.put]) _ _ m2 sizeCn rfl (all_oneCell_toArray (cnC_one y)) ?_
      have hb4 : Below w.heap.size w (w3.setRow (w.heap.size + 1) (cnC y).toArray) := hb3.grown (setRow_grown _ _ _) (by have := hb3.size; omega) (fun k hk => by injection hk with hk; omega)
      have m3 : (w3.setRow (w.heap.size + 1) (cnC y).toArray).heap[(w.heap.size + 1)]? = some (.cells (cnC y).toArray 40 (0, 0)) := heap_setRow_same _ _ _ _ _ m2
      have m4 : (w3.setRow (w.heap.size + 1) (cnC y).toArray).heap[w.heap.size]? = some (.cells (cnC x).toArray 40 (0, 0)) := (heap_setRow_other _ _ _ _ (by omega)).trans m1
      refine hK _ _ hb4 ?_
      clear hK K
      have HFIN := Lib.hid (show TwoB w (w3.setRow (w.heap.size + 1) (cnC y).toArray) w.heap.size (w.heap.size + 1) x y from ⟨hb4, m4, m3, by omega, by omega, by omega⟩)
      refine hdF_end (by kernel_rfl) ?_
      clear hb3 hb4 m1 m2 m3 m4
      try simp only [Act.put, List.setIfInBounds_toArray, List.set_cons_zero, List.set_cons_succ]
      go_wp2
      go_meet
      exact ⟨_, _, rfl, rfl, HFIN.out⟩
    · go_simp
      have hb1 : Below w.heap.size w (w.alloc (.cells #[.int .i64 0, .int .i64 0] 40)).drew := ((Below.refl _ _).alloc (Nat.le_refl _) _).drew
      have k1 : ((w.alloc (.cells #[.int .i64 0, .int .i64 0] 40)).drew).heap[w.heap.size]? = some (.cells #[.int .i64 0, .int .i64 0] 40 (0, 0)) := heap_alloc_new w _
      have hs1 : ((w.alloc (.cells #[.int .i64 0, .int .i64 0] 40)).drew).heap.size = w.heap.size + 1 := by show (w.alloc _).heap.size = _; simp
      refine hK _ _ hb1 ?_
      clear hK K
      obtain ⟨w1, hw1⟩ : ∃ u, u = (w.alloc (.cells #[.int .i64 0, .int .i64 0] 40)).drew := ⟨_, rfl⟩
      rw [← hw1] at hb1 k1 hs1 ⊢
      clear hw1
      refine hdF_one (k := 12) (by kernel_rfl) (by decide) rfl rfl (fun K hK => ?_)
      go_simp
      have hb2 : Below w.heap.size w (w1.alloc (.cells #[.int .i64 0, .int .i64 0] 40)) := hb1.alloc (by omega) _
      have k2 : (w1.alloc (.cells #[.int .i64 0, .int .i64 0] 40)).heap[w.heap.size + 1]? = some (.cells #[.int .i64 0, .int .i64 0] 40 (0, 0)) := by rw [← hs1]; exact heap_alloc_new w1 _
      have k3 : (w1.alloc (.cells #[.int .i64 0, .int .i64 0] 40)).heap[w.heap.size]? = some (.cells #[.int .i64 0, .int .i64 0] 40 (0, 0)) := (((Below.refl _ w1).alloc (Nat.le_refl _) _).block _ (by omega)).trans k1
      refine hK _ _ hb2 ?_
      clear hK K
      obtain ⟨w2, hw2⟩ : ∃ u, u = w1.alloc (.cells #[.int .i64 0, .int .i64 0] 40) := ⟨_, rfl⟩
      rw [← hw2] at hb2 k2 k3 ⊢
      clear hw2 k1 hb1 hs1
      refine hdF_one (k := 14) (by kernel_rfl) (by decide) rfl rfl (fun K hK => ?_)
      refine wp_store_row 40 _ _ rfl (w.heap.size + 1) (cnC x).toArray (by simp [Act.eval]) (by simp [Act.eval]) _ _ k2 sizeCn rfl (all_oneCell_toArray (cnC_one x)) ?_
      have hb3 : Below w.heap.size w (w2.setRow (w.heap.size + 1) (cnC x).toArray) := hb2.grown (setRow_grown _ _ _) (by have := hb2.size; omega) (fun k hk => by injection hk with hk; omega)
      have m1 : (w2.setRow (w.heap.size + 1) (cnC x).toArray).heap[(w.heap.size + 1)]? = some (.cells (cnC x).toArray 40 (0, 0)) := heap_setRow_same _ _ _ _ _ k2
      have m2 : (w2.setRow (w.heap.size + 1) (cnC x).toArray).heap[w.heap.size]? = some (.cells #[.int .i64 0, .int .i64 0] 40 (0, 0)) := (heap_setRow_other _ _ _ _ (by omega)).trans k3
      refine hK _ _ hb3 ?_
      clear hK K
      obtain ⟨w3, hw3⟩ : ∃ u, u = w2.setRow (w.heap.size + 1) (cnC x).toArray := ⟨_, rfl⟩
      rw [← hw3] at hb3 m1 m2 ⊢
      clear hw3 k2 k3 hb2
      refine hdF_one (k := 15) (by kernel_rfl) (by decide) rfl rfl (fun K hK => ?_)
      refine wp_store_row 40 _ _ rfl w.heap.size (cnC y).toArray (by simp [Act.eval, Act.put]) (by simp [Act.eval, Act.put]) _ _ m2 sizeCn rfl (all_oneCell_toArray (cnC_one y)) ?_
      have hb4 : Below w.heap.size w (w3.setRow w.heap.size (cnC y).toArray) := hb3.grown (setRow_grown _ _ _) (by have := hb3.size; omega) (fun k hk => by injection hk with hk; omega)
      have m3 : (w3.setRow w.heap.size (cnC y).toArray).heap[w.heap.size]? = some (.cells (cnC y).toArray 40 (0, 0)) := heap_setRow_same _ _ _ _ _ m2
      have m4 : (w3.setRow w.heap.size (cnC y).toArray).heap[(w.heap.size + 1)]? = some (.cells (cnC x).toArray 40 (0, 0)) := (heap_setRow_other _ _ _ _ (by omega)).trans m1
      refine hK _ _ hb4 ?_
      clear hK K
      have HFIN := Lib.hid (show TwoB w (w3.setRow w.heap.size (cnC y).toArray) (w.heap.size + 1) w.heap.size x y from ⟨hb4, m4, m3, by omega, by omega, by omega⟩)
      refine hdF_end (by kernel_rfl) ?_
      clear hb3 hb4 m1 m2 m3 m4
      try simp only [Act.put, List.setIfInBounds_toArray, List.set_cons_zero, List.set_cons_succ]
      go_wp2
      go_meet
      exact ⟨_, _, rfl, rfl, HFIN.out⟩
  case rest =>
  obtain ⟨p, q, rfl, rfl, hT⟩ := hcut
  rename World => wx
  have HT := Lib.hid hT
  have t0 := cell_of_row _ p 0 _ _ _ hT.px
  have t1 := cell_of_row _ p 1 _ _ _ hT.px
  have t2 := cell_of_row _ q 0 _ _ _ hT.qy
  have t3 := cell_of_row _ q 1 _ _ _ hT.qy
  change World.cell? _ ⟨p, 0, none⟩ = some (.int .i64 (idxI x : Int)) at t0
  change World.cell? _ ⟨p, 1, none⟩ = some (.int .i64 (x.w : Int)) at t1
  change World.cell? _ ⟨q, 0, none⟩ = some (.int .i64 (idxI y : Int)) at t2
  change World.cell? _ ⟨q, 1, none⟩ = some (.int .i64 (y.w : Int)) at t3
  clear hT hri hrj hri0 hrj0 c0
  go_upto_region 2 with (fail)
  refine region_headS 13 [0, 1, 2, 3, 5, 6, 7, 8, 4, 9, 10, 11, 12] [4, 9, 10, 11] (fun u => Below wx.heap.size wx u) (by kernel_rfl) (by kernel_rfl) ((Below.refl _ _).drew) ?_
  simp only [pickO, List.filterMap_cons, List.filterMap_nil, List.getElem?_cons_zero, List.getElem?_cons_succ, Option.map_some, List.drop_succ_cons, List.drop_zero]
  iterate 8
    refine seqS_read _ rfl rfl (by rintro u hu; have hu1 := below_cell hu t0; have hu2 := below_cell hu t1; have hu3 := below_cell hu t2; have hu4 := below_cell hu t3; clear hu; go_simp; with_reducible rfl) ?_
    try simp only [Act.put, List.setIfInBounds_toArray, List.set_cons_zero, List.set_cons_succ]
  refine seqS_move rfl rfl (fun K' hK => ?_)
  have CA := Lib.hid (cmpCompare_any (x.w : Int) (y.w : Int) wx.drew)
  go_simp
  refine CA.out.mono ?_
  rintro e w1 ⟨rfl, hw1⟩
  have hb1 : Below wx.heap.size wx w1 := by rw [← hw1]; exact (Below.refl _ _).drew
  clear hw1
  refine hK _ _ _ (fun u hu => hu) hb1 ?_
  clear hK K' CA
  try simp only [Act.put, List.setIfInBounds_toArray, List.set_cons_zero, List.set_cons_succ]
  refine seqS_move rfl rfl (fun K' hK => ?_)
  have CB := Lib.hid (cmpCompare_any (idxI x : Int) (idxI y : Int) w1)
  go_simp
  refine CB.out.mono ?_
  rintro e w2 ⟨rfl, rfl⟩
  refine hK _ _ _ (fun u hu => hu) hb1 ?_
  clear hK K' CB
  try simp only [Act.put, List.setIfInBounds_toArray, List.set_cons_zero, List.set_cons_succ]
  refine seqS_move rfl rfl (fun K' hK => ?_)
  refine wp_buildSliceV 22 2 _ rfl #[(0, .int .i64 (cmpZ (x.w : Int) (y.w : Int))), (1, .int .i64 (cmpZ (idxI x : Int) (idxI y : Int)))] (by simp [go_sem]) _ _ (built_two _ _ w1) ?_
  have hb3 : Below wx.heap.size wx (w1.alloc (.cells #[.int .i64 (cmpZ (x.w : Int) (y.w : Int)), .int .i64 (cmpZ (idxI x : Int) (idxI y : Int))] 3)) := hb1.alloc hb1.size _
  have CO := Lib.hid (cmpOr_any w1.heap.size (cmpZ (x.w : Int) (y.w : Int)) (cmpZ (idxI x : Int) (idxI y : Int)) _ (heap_alloc_new w1 _))
  refine hK _ _ _ (fun u hu => hu) hb3 ?_
  clear hK K'
  try simp only [Act.put, List.setIfInBounds_toArray, List.set_cons_zero, List.set_cons_succ]
  refine seqS_move rfl rfl (fun K' hK => ?_)
  go_simp
  refine CO.out.mono ?_
  rintro e w4 ⟨rfl, rfl⟩
  refine hK _ _ _ (fun u hu => hu) hb3 ?_
  clear hK K' CO
  try simp only [Act.put, List.setIfInBounds_toArray, List.set_cons_zero, List.set_cons_succ]
  refine seqS_read (.bool (decide (orZ (cmpZ (x.w : Int) (y.w : Int)) (cmpZ (idxI x : Int) (idxI y : Int)) < 0))) rfl rfl (by rintro u hu; clear hu; go_simp) ?_
  try simp only [Act.put, List.setIfInBounds_toArray, List.set_cons_zero, List.set_cons_succ]
  refine seqS_nil ?_
  have HFB := Lib.hid (HT.out.below.trans (hb3.mono HT.out.below.size))
  have HLX := Lib.hid (less_lex x y)
  generalize decide (orZ (cmpZ (x.w : Int) (y.w : Int)) (cmpZ (idxI x : Int) (idxI y : Int)) < 0) = bb at *
  go_wp2
  go_ret
  exact ⟨by rw [← HLX.out]; rfl, HFB.out⟩
end Go.Proofs.Ytklfoafbgniogaa
