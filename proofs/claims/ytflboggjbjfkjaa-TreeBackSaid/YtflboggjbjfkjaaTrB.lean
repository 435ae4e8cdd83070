/-
  Contract of package tree: page.
-/
import Derived.Test.YtflboggjbjfkjaaTrA
import Derived.Deep.MidRow
import Derived.Deep.QuietTactic
import Derived.BigQuiet
import Derived.StillTailTactics
import Derived.Deep.WholeRow
import Derived.Deep.DeepCutAuto
import Derived.Lib.SliceRun
namespace Go.Proofs.Ytflboggjbjfkjaa
open Go.RowKit
set_option linter.unusedVariables false
set_option linter.unusedSimpArgs false
set_option maxRecDepth 100000

theorem all_pairC (p : Nat × Nat) : (pairC p).toArray.all (·.oneCell') = true := by simp [pairC, Value.oneCell']

theorem rows_side (vs : List Value) (h : ∀ v ∈ vs, v.cells = #[v]) : ∀ o, SideBy (fun i => some (i * 1, 1)) o ((vs.zipIdx o).map fun x => (x.2, x.1)) := by
  induction vs with
  | nil => intro o; trivial
  | cons v vs ih =>
    intro o
    have hv := h v (by simp)
    refine ⟨by simp [hv], ?_⟩
    have := ih (fun u hu => h u (by simp [hu])) (o + 1)
    simp only [hv]
    exact this
theorem rows_flat (vs : List Value) (h : ∀ v ∈ vs, v.cells = #[v]) : ∀ o, ((vs.zipIdx o).map fun x => (x.2, x.1)).flatMap (fun x => x.2.cells.toList) = vs := by
  induction vs with
  | nil => intro o; rfl
  | cons v vs ih =>
    intro o
    have := ih (fun u hu => h u (by simp [hu])) (o + 1)
    simp only [List.zipIdx_cons, List.map_cons, List.flatMap_cons, h v (by simp), this]
    rfl
theorem built_rows (vs : List Value) (h : ∀ v ∈ vs, v.cells = #[v]) (h1 : 1 ≤ vs.length) (h2 : vs.length ≤ 1000) (ps : Array (Nat × Value)) (hps : ps.toList = (vs.zipIdx 0).map fun x => (x.2, x.1)) (n : Nat) (hn : n = vs.length) :
    ∀ w : World, (Instr.buildSlice 24 n ps).run Try.prog w = .ok (.slice (some ⟨w.heap.size, 0, none⟩) n n) (w.alloc (.cells vs.toArray 34)) := fun w => by
  subst hn
  obtain ⟨i0, hi, hz0, hz1, hz2⟩ := info_parts infoRow
  refine run_buildSlice w _ _ _ ps _ i0 _ Try.underlying24 hi hz0 (by rw [hz1]; omega) (by rw [hz1]; omega) ?_
  rw [hz1, hps]
  have := fill_whole (fun i => some (i * 1, 1)) ((Array.range (vs.length * 1)).map fun x => (Value.slice none 0 0).cells[x % (Value.slice none 0 0).cells.size]!) ((vs.zipIdx 0).map fun x => (x.2, x.1)) (rows_side vs h 0) (by rw [rows_flat vs h 0]; simp)
  rw [rows_flat vs h 0] at this
  exact this
/-- a row of rows, in a block of its own -/
theorem rows_new {w : World} {g : Nat} {Hs : List Hd} {P : List (List UInt8)} (hg : w.heap[g]? = some (.cells (Hs.flatMap hdC).toArray 34 (0, 0))) (hl : Hs.length = P.length) (hm : Hs.length ≤ maxLen) (h : ∀ (i : Nat) (h : Hd) (l : List UInt8), Hs[i]? = some h → P[i]? = some l → BytesAt w h.1 h.2.1 h.2.2 l) (n : Nat) (hn : n = Hs.length) : RowsR w (some ⟨g, 0, none⟩) n n P := by
  subst hn
  refine ⟨Hs, ⟨rfl, Nat.le_refl _, hm, fun _ _ => rfl, .inr ⟨_, rfl, fun i j x hi hj => ?_⟩⟩, hl, h⟩
  rw [Addr.add_mid, Nat.zero_add, cell_of_row _ _ _ _ _ _ hg, ← Array.getElem?_toList]
  exact flatMap_at Hs (f := hdC) (size := 1) (fun _ _ => rfl) i j x hi hj

theorem rows2 {w : World} {g : Nat} {a1 a2 : Option Addr} {n1 c1 n2 c2 : Nat} {l1 l2 : List UInt8} (hg : w.heap[g]? = some (.cells #[.slice a1 n1 c1, .slice a2 n2 c2] 34 (0, 0))) (h1 : BytesAt w a1 n1 c1 l1) (h2 : BytesAt w a2 n2 c2 l2) : RowsR w (some ⟨g, 0, none⟩) 2 2 [l1, l2] :=
  rows_new (Hs := [(a1, n1, c1), (a2, n2, c2)]) hg rfl (by simp [maxLen]) (fun i h l hi hl => by
    match i with
    | 0 => simp at hi hl; subst hi hl; exact h1
    | 1 => simp at hi hl; subst hi hl; exact h2
    | i + 2 => simp at hi) 2 rfl
theorem rows3 {w : World} {g : Nat} {a1 a2 a3 : Option Addr} {n1 c1 n2 c2 n3 c3 : Nat} {l1 l2 l3 : List UInt8} (hg : w.heap[g]? = some (.cells #[.slice a1 n1 c1, .slice a2 n2 c2, .slice a3 n3 c3] 34 (0, 0))) (h1 : BytesAt w a1 n1 c1 l1) (h2 : BytesAt w a2 n2 c2 l2) (h3 : BytesAt w a3 n3 c3 l3) : RowsR w (some ⟨g, 0, none⟩) 3 3 [l1, l2, l3] :=
  rows_new (Hs := [(a1, n1, c1), (a2, n2, c2), (a3, n3, c3)]) hg rfl (by simp [maxLen]) (fun i h l hi hl => by
    match i with
    | 0 => simp at hi hl; subst hi hl; exact h1
    | 1 => simp at hi hl; subst hi hl; exact h2
    | 2 => simp at hi hl; subst hi hl; exact h3
    | i + 3 => simp at hi) 3 rfl
theorem slice_cells (a : Option Addr) (n c : Nat) : (Value.slice a n c).cells = #[.slice a n c] := rfl
theorem built2 (a1 a2 : Option Addr) (n1 c1 n2 c2 : Nat) : ∀ w : World, (Instr.buildSlice 24 2 #[(0, .slice a1 n1 c1), (1, .slice a2 n2 c2)]).run Try.prog w = .ok (.slice (some ⟨w.heap.size, 0, none⟩) 2 2) (w.alloc (.cells #[.slice a1 n1 c1, .slice a2 n2 c2] 34)) :=
  built_rows [.slice a1 n1 c1, .slice a2 n2 c2] (by simp [slice_cells]) (by simp) (by simp) _ rfl 2 rfl
theorem built3 (a1 a2 a3 : Option Addr) (n1 c1 n2 c2 n3 c3 : Nat) : ∀ w : World, (Instr.buildSlice 24 3 #[(0, .slice a1 n1 c1), (1, .slice a2 n2 c2), (2, .slice a3 n3 c3)]).run Try.prog w = .ok (.slice (some ⟨w.heap.size, 0, none⟩) 3 3) (w.alloc (.cells #[.slice a1 n1 c1, .slice a2 n2 c2, .slice a3 n3 c3] 34)) :=
  built_rows [.slice a1 n1 c1, .slice a2 n2 c2, .slice a3 n3 c3] (by simp [slice_cells]) (by simp) (by simp) _ rfl 3 rfl

theorem leB_one (k : Nat) (h : k < 256) : leB 1 k = [UInt8.ofNat k] := by
  show [UInt8.ofNat (k % 256)] = _
  rw [Nat.mod_eq_of_lt h]

theorem concat_to (a : Option Addr) (n cap N : Nat) (P : List (List UInt8)) (Q : List UInt8) (w : World) (hP : RowsR w a n cap P) (hQ : P.flatten = Q) (hN : Q.length = N) (h0 : 0 < N) (hm : N ≤ 140737488355328) :
    Calls Try.prog 49 #[.slice a n cap] w (FreshB id N Q w) := by
  subst hQ hN
  exact concat_any a n cap P w hP h0 hm

def bodyK (k : Nat) (es : List (Nat × Nat)) (j : Nat) : List UInt8 := [UInt8.ofNat k, UInt8.ofNat es.length] ++ (es.take j).flatMap (entL k)
theorem bodyK_length (k : Nat) (es : List (Nat × Nat)) (j : Nat) (hj : j ≤ es.length) : (bodyK k es j).length = 2 + ewN k * j := by
  unfold bodyK
  rw [List.length_append, flatMap_lenT (entL k) (ewN k) _ (fun x _ => entL_length k x), List.length_take, Nat.min_eq_left hj]
  simp
theorem bodyK_succ (k : Nat) (es : List (Nat × Nat)) (j : Nat) (hj : j < es.length) : bodyK k es (j + 1) = [bodyK k es j, leB 8 (es.getD j (0, 0)).1, leB (vwN k) (es.getD j (0, 0)).2].flatten := by
  unfold bodyK
  rw [List.take_succ_eq_append_getElem hj, List.flatMap_append]
  simp [List.getD, List.getElem?_eq_getElem hj, entL]
theorem bodyK_all (k : Nat) (es : List (Nat × Nat)) : bodyK k es es.length = bodyL k es := by unfold bodyK bodyL; rw [List.take_length]

set_option maxHeartbeats 2000000 in
theorem page_any (k : Nat) (a : Option Addr) (n cap : Nat) (es : List (Nat × Nat)) (w : World) (he : PairsAt w a n cap es) (hm : mayN k es.length = true) (hf : Fits k es) :
    Calls Try.prog 33 #[.int .u64 k, .slice a n cap] w (FreshB id 128 (pageL k es) w) := by
  have HE := Lib.hid he
  have hlen := he.1
  have hsz := mayN_size hm
  have hlt := mayN_lt hm
  have HB0 := Lib.hid (bodyK_all k es)
  have HLN := Lib.hid (fun j (h : j ≤ es.length) => bodyK_length k es j h)
  have HSC := Lib.hid (fun j (h : j < es.length) => bodyK_succ k es j h)
  have HF := Lib.hid (fun j (h : j < es.length) => hf (es.getD j (0, 0)) (by rw [List.getD, List.getElem?_eq_getElem h]; exact List.getElem_mem h))
  rw [hlen] at hsz hlt HB0
  have HSZ := Lib.hid hsz
  have HV := Lib.hid (vwN_le k)
  have hn : n < 256 := hlt.2
  have hk : k < 256 := hlt.1
  have hb00 : bodyK k es 0 = [leB 1 k, leB 1 n].flatten := by
    rw [leB_one _ hk, leB_one _ hn, ← hlen]; rfl
  have HB00 := Lib.hid hb00
  have HLE := Lib.hid hlen
  clear he hm hf hlen hsz hlt hb00
  have C1 := Lib.hid (number_any k 1 w (by omega) (by omega) (by omega))
  go_enter Try.func33, Try.ntmps33
  go_wp2_with fail
  refine (C1.out).mono ?_
  rintro e w1 ⟨a1, c1, rfl, ho1, hb1⟩
  have C2 := Lib.hid (number_any n 1 w1 (by omega) (by omega) (by omega))
  go_wp2_with fail
  refine (C2.out).mono ?_
  rintro e w2 ⟨a2, c2, rfl, ho2, hb2⟩
  have hy1 := (BytesAt.owned ho1).below hb2
  have hy2 := BytesAt.owned ho2
  clear ho1 ho2 C1 C2
  go_wp2_with (refine wpList_buildSliceV rfl 24 2 _ rfl #[(0, .slice a1 1 c1), (1, .slice a2 1 c2)] (by simp [go_sem]) _ _ (built2 _ _ _ _ _ _ _) ?_)
  have hbw : Below w.heap.size w w2 := hb1.trans (hb2.mono hb1.size)
  have C3 := Lib.hid (concat_to (some ⟨w2.heap.size, 0, none⟩) 2 2 2 [leB 1 k, leB 1 n] (bodyK k es 0) _ (rows2 (heap_alloc_new w2 (.cells #[.slice a1 1 c1, .slice a2 1 c2] 34)) (hy1.below ((Below.refl _ _).alloc (Nat.le_refl _) _)) (hy2.below ((Below.refl _ _).alloc (Nat.le_refl _) _))) HB00.out.symm (by rw [HLN.out 0 (Nat.zero_le _), Nat.mul_zero]) (by omega) (by omega))
  refine (C3.out).mono ?_
  rintro e w3 ⟨a3, c3, rfl, ho3, hb3⟩
  have hbw3 : Below w.heap.size w w3 := (hbw.alloc hbw.size _).trans (hb3.mono (by simp; have := hbw.size; omega))
  have ho3' : w3.ownsRow w.heap.size 5 1 (.slice a3 2 c3) 2 (vals (bodyK k es 0)) := owned_base ho3 (by simp; have := hbw.size; omega)
  clear ho3 hb3 C3 hy1 hy2 hb1 hb2 hbw
  go_wp2
  go_loopw [5, 20] (fun x i wr => ∃ (j : Nat) (a' : Option Addr) (N cap' : Nat), j ≤ n ∧ i = .int .i64 j ∧ x = .slice a' N cap' ∧ wr.ownsRow w.heap.size 5 1 (.slice a' N cap') N (vals (bodyK k es j)) ∧ Below w.heap.size w wr) (fun _ i _ => n - (intOf i).toNat)
  case atStart => exact ⟨0, a3, 2, c3, Nat.zero_le _, rfl, rfl, ho3', hbw3⟩
  case round =>
    obtain ⟨j, a', N, cap', hj, rfl, rfl, ho, hb⟩ := hrel
    have hN := ho.1
    rw [vals_length, Nat.mul_one, HLN.out j (by rw [HLE.out]; exact hj)] at hN
    clear ho3' hbw3
    by_cases hlt : j < n
    · have HEW := Lib.hid (HE.out.below (Nat.zero_lt_succ 1) hb)
      obtain ⟨b, off, rfl, hbb, hc⟩ := PairsAt.cells HEW.out (by omega)
      obtain ⟨hc0, hc1, hcr⟩ := hc j hlt
      have hfj := HF.out j (by rw [HLE.out]; exact hlt)
      have HK := Lib.hid (HSC.out j (by rw [HLE.out]; exact hlt))
      have HK1 := Lib.hid (HLN.out (j + 1) (by rw [HLE.out]; exact hlt))
      generalize es.getD j (0, 0) = p at *
      obtain ⟨p1, p2⟩ := p
      dsimp only at hfj hc0 hc1
      have HCR := Lib.hid hcr
      have HO := Lib.hid ho
      have HB := Lib.hid hb
      clear ho hb hcr hc hc0 hc1
      have HSP := Lib.hid (show (Try.prog.info? 48).map (·.size) = some (pairC (p1, p2)).toArray.size from sizePair)
      have HAL := Lib.hid (show (pairC (p1, p2)).toArray.all (·.oneCell') = true from all_pairC _)
      have HOD := Lib.hid (show (#[Value.int .u64 0, Value.int .u64 0] : Array Value).size = (pairC (p1, p2)).toArray.size from rfl)
      go_upto_region 5 with (first
        | (refine wpList_load_mid rfl 48 _ rfl b (off + j * 2) rfl (pairC (p1, p2)) _ HCR.out Try.underlying48 rfl sizePair ?_)
        | (refine wpList_store_row rfl 48 _ _ rfl wr.heap.size (pairC (p1, p2)).toArray rfl rfl 48 #[.int .u64 0, .int .u64 0] (heap_alloc_new wr _) HSP.out HOD.out HAL.out ?_))
      have hbA : Below wr.heap.size wr ((wr.alloc (.cells #[.int .u64 0, .int .u64 0] 48)).setRow wr.heap.size (pairC (p1, p2)).toArray) := below_setRow ((Below.refl _ _).alloc (Nat.le_refl _) _) (Nat.le_refl _) _
      have hbox : ((wr.alloc (.cells #[.int .u64 0, .int .u64 0] 48)).setRow wr.heap.size (pairC (p1, p2)).toArray).heap[wr.heap.size]? = some (.cells (pairC (p1, p2)).toArray 48 (0, 0)) := heap_setRow_same _ _ _ _ _ (heap_alloc_new wr _)
      have hszA : ((wr.alloc (.cells #[.int .u64 0, .int .u64 0] 48)).setRow wr.heap.size (pairC (p1, p2)).toArray).heap.size = wr.heap.size + 1 := by simp
      generalize (wr.alloc (.cells #[.int .u64 0, .int .u64 0] 48)).setRow wr.heap.size (pairC (p1, p2)).toArray = wA at *
      have hbox1 : wA.drew.heap[wr.heap.size]? = some (.cells (pairC (p1, p2)).toArray 48 (0, 0)) := hbox
      have key : ∀ u : World, u.heap[wr.heap.size]? = some (.cells (pairC (p1, p2)).toArray 48 (0, 0)) → u.cell? ⟨wr.heap.size, 0, none⟩ = some (.int .u64 (p1 : Int)) ∧ u.cell? ⟨wr.heap.size, 1, none⟩ = some (.int .u64 (p2 : Int)) := fun u hu => ⟨by rw [cell_of_row _ _ _ _ _ _ hu]; rfl, by rw [cell_of_row _ _ _ _ _ _ hu]; rfl⟩
      have KEY := Lib.hid key
      have hS0 := KEY.out _ hbox1
      have hb0 : Below w.heap.size w wA.drew := (HB.out.trans (hbA.mono HB.out.size)).drew
      have hzA : wr.heap.size < wA.drew.heap.size := by show wr.heap.size < wA.heap.size; omega
      have hoA : wA.drew.ownsRow w.heap.size 5 1 (.slice a' N cap') N (vals (bodyK k es j)) := owned_below (owned_below HO.out hbA) ((Below.refl _ wA).drew)
      have HBX := Lib.hid hbox1
      have HB0A := Lib.hid hb0
      have HOA := Lib.hid hoA
      clear key hbox hbox1 hb0 hoA hbA hszA
      refine region_head 12 [0, 1, 2, 4, 5, 6, 3, 7, 8, 9, 10, 11] [3, 7, 8, 9, 10] (fun u => u.cell? ⟨wr.heap.size, 0, none⟩ = some (.int .u64 (p1 : Int)) ∧ u.cell? ⟨wr.heap.size, 1, none⟩ = some (.int .u64 (p2 : Int))) (by kernel_rfl) (by kernel_rfl) hS0 ?_
      simp only [pickO, List.filterMap_cons, List.filterMap_nil, List.getElem?_cons_zero, List.getElem?_cons_succ, Option.map_some, List.drop_succ_cons, List.drop_zero]
      clear hS0
      iterate 6
        refine seqH_read _ rfl rfl (by rintro u ⟨hu1, hu2⟩; go_simp; with_reducible rfl) ?_
        try simp only [Act.put, List.setIfInBounds_toArray, List.set_cons_zero, List.set_cons_succ]
      have D1 := Lib.hid (number_any p1 8 wA.drew (by omega) (by omega) (by exact hfj.1))
      refine seqH_move rfl rfl (fun K hK => ?_)
      go_simp
      refine (D1.out).mono ?_
      rintro e w4 ⟨a4, c4, rfl, ho4, hb4⟩
      have hx4 := (hb4.block _ hzA).trans HBX.out
      refine hK _ _ (KEY.out _ hx4) ?_
      clear hK K D1
      try simp only [Act.put, List.setIfInBounds_toArray, List.set_cons_zero, List.set_cons_succ]
      refine seqH_move rfl rfl (fun K hK => ?_)
      go_simp
      refine (valueWidth_any k w4).mono ?_
      rintro e w5 ⟨rfl, rfl⟩
      refine hK _ _ (KEY.out _ hx4) ?_
      clear hK K
      try simp only [Act.put, List.setIfInBounds_toArray, List.set_cons_zero, List.set_cons_succ]
      have D2 := Lib.hid (number_any p2 (vwN k) w4 HV.out.1 HV.out.2 hfj.2)
      refine seqH_move rfl rfl (fun K hK => ?_)
      go_simp
      refine (D2.out).mono ?_
      rintro e w6 ⟨a6, c6, rfl, ho6, hb6⟩
      have hx6 := (hb6.block _ (Nat.lt_of_lt_of_le hzA hb4.size)).trans hx4
      refine hK _ _ (KEY.out _ hx6) ?_
      clear hK K D2
      try simp only [Act.put, List.setIfInBounds_toArray, List.set_cons_zero, List.set_cons_succ]
      have hb46 : Below wA.drew.heap.size wA.drew w6 := hb4.trans (hb6.mono hb4.size)
      have hR := rows3 (heap_alloc_new w6 (.cells #[.slice a' N cap', .slice a4 8 c4, .slice a6 (vwN k) c6] 34)) (((BytesAt.owned HOA.out).below hb46).below ((Below.refl _ _).alloc (Nat.le_refl _) _)) (((BytesAt.owned ho4).below hb6).below ((Below.refl _ _).alloc (Nat.le_refl _) _)) ((BytesAt.owned ho6).below ((Below.refl _ _).alloc (Nat.le_refl _) _))
      have hq : 2 + ewN k * (j + 1) ≤ 122 := Nat.le_trans (Nat.add_le_add_left (Nat.mul_le_mul_left _ hlt) 2) HSZ.out
      have D3 := Lib.hid (concat_to (some ⟨w6.heap.size, 0, none⟩) 3 3 (2 + ewN k * (j + 1)) _ (bodyK k es (j + 1)) _ hR HK.out.symm HK1.out (by omega) (by omega))
      have HB6 := Lib.hid (show Below w.heap.size w (w6.alloc (.cells #[.slice a' N cap', .slice a4 8 c4, .slice a6 (vwN k) c6] 34)) from (HB0A.out.trans (hb46.mono HB0A.out.size)).alloc (HB0A.out.trans (hb46.mono HB0A.out.size)).size _)
      have hx6a : (w6.alloc (.cells #[.slice a' N cap', .slice a4 8 c4, .slice a6 (vwN k) c6] 34)).heap[wr.heap.size]? = some (.cells (pairC (p1, p2)).toArray 48 (0, 0)) := (((Below.refl w6.heap.size w6).alloc (Nat.le_refl _) _).block _ (Nat.lt_of_lt_of_le hzA hb46.size)).trans hx6
      have hz6 : wr.heap.size < (w6.alloc (.cells #[.slice a' N cap', .slice a4 8 c4, .slice a6 (vwN k) c6] 34)).heap.size := by have := Nat.lt_of_lt_of_le hzA hb46.size; simp; omega
      clear hR ho4 ho6 hb4 hb6 hb46 hx4 hx6 hq
      refine seqH_move rfl rfl (fun K hK => ?_)
      refine wp_buildSliceV 24 3 _ rfl #[(0, .slice a' N cap'), (1, .slice a4 8 c4), (2, .slice a6 (vwN k) c6)] (by simp [go_sem]) _ _ (built3 _ _ _ _ _ _ _ _ _ _) ?_
      refine hK _ _ (KEY.out _ hx6a) ?_
      clear hK K
      try simp only [Act.put, List.setIfInBounds_toArray, List.set_cons_zero, List.set_cons_succ]
      refine seqH_move rfl rfl (fun K hK => ?_)
      go_simp
      refine (D3.out).mono ?_
      rintro e w7 ⟨a7, c7, rfl, ho7, hb7⟩
      refine hK _ _ (KEY.out _ ((hb7.block _ hz6).trans hx6a)) ?_
      clear hK K D3
      try simp only [Act.put, List.setIfInBounds_toArray, List.set_cons_zero, List.set_cons_succ]
      refine seqH_read _ rfl rfl (by rintro u ⟨hu1, hu2⟩; go_simp; with_reducible rfl) ?_
      try simp only [Act.put, List.setIfInBounds_toArray, List.set_cons_zero, List.set_cons_succ]
      refine seqH_nil ?_
      have hb7' : Below w.heap.size w w7 := HB6.out.trans (hb7.mono HB6.out.size)
      go_wp2
      refine ⟨⟨j + 1, a7, _, c7, by omega, by go_num, rfl, owned_base ho7 HB6.out.size, hb7'⟩, by simp [intOf]; omega⟩
    · obtain rfl : j = n := by omega
      rw [HB0.out] at ho
      subst hN
      have hsz := HSZ.out
      have hy := BytesAt.owned ho
      have D1 := Lib.hid (seal_any a' (2 + ewN k * j) cap' (bodyL k es) wr hy (by omega))
      have HB := Lib.hid hb
      clear ho hb hy
      generalize hNN : 2 + ewN k * j = N at *
      clear hNN
      go_wp2_with fail
      refine (D1.out).mono ?_
      rintro e w4 ⟨a4, c4, rfl, ho4, hb4⟩
      have D2 := Lib.hid (pad_ok a4 (N + 4) c4 (sealL (bodyL k es)) 128 w4 (by omega) (by omega) (BytesAt.owned ho4))
      have hl4 := ho4.1
      rw [vals_length, Nat.mul_one] at hl4
      have e5 : sealL (bodyL k es) ++ List.replicate (128 - (N + 4)) 0 = pageL k es := by unfold pageL padL; rw [hl4]
      rw [e5] at D2
      clear ho4 e5 hl4 D1
      go_wp2_with fail
      refine (D2.out).mono ?_
      rintro e w5 ⟨a5, c5, rfl, ho5, hb5⟩
      go_wp2
      go_ret
      have hb45 : Below w.heap.size w w4 := HB.out.trans (hb4.mono HB.out.size)
      exact ⟨a5, c5, rfl, owned_base ho5 hb45.size, hb45.trans (hb5.mono hb45.size)⟩

end Go.Proofs.Ytflboggjbjfkjaa
