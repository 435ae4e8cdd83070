/-
  Package limit: elements of a list; packedOf, packages.
-/
import Derived.Test.YtklfoafbgniogaaLkA
import Derived.Test.YtklfoafbgniogaaHdS
import Derived.Test.YtklfoafbgniogaaFill
namespace Go.Proofs.Ytklfoafbgniogaa
open Go.RowKit Go.Deep
set_option linter.unusedVariables false
set_option linter.unusedSimpArgs false
set_option maxRecDepth 100000

/-- a package? -/
def pkdI (x : Itm) : Bool := decide (2 ≤ x.ms.length)
def pkdN (x : Itm) : Nat := if 2 ≤ x.ms.length then 1 else 0
theorem pkdN_le (x : Itm) : pkdN x ≤ 1 := by unfold pkdN; split <;> omega
def elmC (x : Itm) : List Value := [.int .i64 (x.w : Int), .bool (pkdI x)]
theorem elmC_one (x : Itm) : ∀ u ∈ elmC x, u.oneCell' = true := by
  intro u hu; simp only [elmC, List.mem_cons, List.not_mem_nil, or_false] at hu; rcases hu with rfl | rfl <;> rfl
theorem infoElm : (Try.prog.info? 68).map (fun i => (i.zero, i.size, i.bytes)) = some (some (.agg #[.int .i64 0, .bool false]), 2, 16) := by kernel_rfl
theorem sizeElm : (Try.prog.info? 68).map (·.size) = some 2 := by kernel_rfl
abbrev ElmI := OwnI elmC 68 2
abbrev FreshE := FreshI8 elmC 68 2
abbrev ElmAt := CameAt elmC 2
theorem ElmAt.cells {w : World} {a : Option Addr} {n cap : Nat} {L : List Itm} (h : ElmAt w a n cap L) (hn : 0 < n) :
    ∃ b off, a = some ⟨b, off, none⟩ ∧ b < w.heap.size ∧ ∀ i, i < n → w.rangeAt b (off + i * 2) (elmC (L.getD i default)) := by
  obtain ⟨b, off, h1, h2, h3⟩ := CameAt.at h hn (by omega)
  refine ⟨b, off, h1, h2, fun i hi => ?_⟩
  have hx : L[i]? = some (L.getD i default) := by rw [List.getD, List.getElem?_eq_getElem (by have := h.1; omega)]; rfl
  intro j u hu
  have hj : j < 2 := (List.getElem?_eq_some_iff.1 hu).1
  rw [Nat.add_assoc, h3 i j _ hx hj, hu]
theorem sumI_take_at (f : Itm → Nat) (L : List Itm) (i : Nat) (h : i < L.length) : sumI f (L.take (i + 1)) = sumI f (L.take i) + f (L.getD i default) := by
  rw [sumI_take_succ f L i h, List.getD, List.getElem?_eq_getElem h]; rfl

set_option maxHeartbeats 2000000 in
theorem lkPacked_any (a : Option Addr) (n cap : Nat) (L : List Itm) (w : World) (h : ElmAt w a n cap L) (hn : n ≤ 1000000) :
    Calls Try.prog 24 #[.slice a n cap] w fun e w' => e = .returned (.int .i64 (sumI pkdN L : Nat)) ∧ Below w.heap.size w w' := by
  have HL := Lib.hid h
  have HT := Lib.hid (fun i (hi : i < n) => sumI_take_at pkdN L i (by rw [h.1]; exact hi))
  have HF := Lib.hid (show L.take n = L from List.take_of_length_le (by rw [h.1]; exact Nat.le_refl _))
  clear h
  go_enter Try.func24, Try.ntmps24
  go_wp2
  go_loopw [3, 8] (fun sc si wr => ∃ i : Nat, i ≤ n ∧ si = .int .i64 (i : Int) ∧ sc = .int .i64 (sumI pkdN (L.take i) : Nat) ∧ sumI pkdN (L.take i) ≤ i ∧ Below w.heap.size w wr) (fun _ si _ => n - (intOf si).toNat)
  case atStart => exact ⟨0, Nat.zero_le _, rfl, rfl, Nat.le_refl _, Below.refl _ _⟩
  case round =>
    obtain ⟨i, hi, rfl, rfl, hs, hb⟩ := hrel
    have HB := Lib.hid hb
    clear hb
    by_cases hlt : i < n
    · have hii : (i : Int) < n := by omega
      obtain ⟨tb, toff, rfl, _, hc⟩ := ElmAt.cells (CameAt.below HL.out (by omega) HB.out) (by omega)
      have hrange := hc i hlt
      have ht := HT.out i hlt
      clear hc
      generalize L.getD i default = x at *
      generalize sumI pkdN (L.take i) = s at *
      have HTT := Lib.hid ht
      have HRA := Lib.hid hrange
      clear ht hrange HT
      have hst := run_storeCells_new (P := Try.prog) wr 68 #[.int .i64 0, .bool false] (elmC x).toArray sizeElm rfl (all_oneCell_toArray (elmC_one x))
      rw [List.toList_toArray] at hst
      obtain ⟨w2, hw2⟩ : ∃ u, u = wr.alloc (.cells (elmC x).toArray 68) := ⟨_, rfl⟩
      rw [← hw2] at hst
      have HB2 := Lib.hid (show Below w.heap.size w w2 by rw [hw2]; exact HB.out.trans ((Below.refl _ _).alloc HB.out.size _))
      have hrow : w2.heap[wr.heap.size]? = some (.cells (elmC x).toArray 68 (0, 0)) := by rw [hw2]; exact heap_alloc_new wr _
      obtain ⟨q, hq⟩ : ∃ q, q = wr.heap.size := ⟨_, rfl⟩
      have y1 := cell_of_row _ wr.heap.size 1 _ _ _ hrow
      change World.cell? _ ⟨wr.heap.size, 1, none⟩ = some (.bool (pkdI x)) at y1
      clear hw2 hrow
      go_upto_region 5 with (refine wpList_load_mid rfl 68 _ rfl tb (toff + i * 2) rfl (elmC x) _ HRA.out Try.underlying68 rfl sizeElm ?_)
      clear hst
      have HP := Lib.hid (show pkdN x = if pkdI x = true then 1 else 0 by unfold pkdN pkdI; simp)
      cases hp : pkdI x with
      | false =>
        rw [hp] at y1
        have HT2 := Lib.hid (show sumI pkdN (L.take (i + 1)) = s by rw [HTT.out, HP.out, hp]; rfl)
        clear hp hq
        go_wp2
        go_roundw
        case rel => exact ⟨i + 1, by omega, by go_num, by rw [HT2.out], by rw [HT2.out]; omega, HB2.out⟩
        case measure => simp [intOf]; omega
      | true =>
        rw [hp] at y1
        have HT2 := Lib.hid (show sumI pkdN (L.take (i + 1)) = s + 1 by rw [HTT.out, HP.out, hp]; rfl)
        clear hp hq
        go_wp2
        go_roundw
        case rel => exact ⟨i + 1, by omega, by go_num, by rw [HT2.out]; go_num, by rw [HT2.out]; omega, HB2.out⟩
        case measure => simp [intOf]; omega
    · obtain rfl : i = n := by omega
      have hii : ¬ (i : Int) < i := by omega
      rw [HF.out] at hs ⊢
      go_wp2
      go_ret
      exact ⟨rfl, HB.out⟩

/-! ### packages -/
theorem below_cell {w w' : World} {p : Addr} {v : Value} (hb : Below w.heap.size w w') (h : w.cell? p = some v) : w'.cell? p = some v := by
  rw [World.cell?_of_block (w := w) (hb.block _ (block_lt h))]; exact h
theorem built_elm (X : Array Value) (hX : X.size = 2) : ∀ w : World, (Instr.buildSlice 55 1 #[(0, .agg X)]).run Try.prog w = .ok (.slice (some ⟨w.heap.size, 0, none⟩) 1 1) (w.alloc (.cells X 68)) := fun w => by
  obtain ⟨i0, hi, hz0, hz1, hz2⟩ := info_parts infoElm
  exact run_buildSlice_one w _ _ X i0 _ 2 Try.underlying55 hi hz0 hz1 hX (by omega) (by omega)
theorem build_pkd (x : Int) (w : World) : (Instr.build 68 #[(0, .int .i64 x), (1, .bool true)]).run Try.prog w = .ok (.agg #[.int .i64 x, .bool true]) w := by
  refine run_build w _ _ _ ?_
  kernel_rfl
theorem build_coin0 (x : Int) (w : World) : (Instr.build 68 #[(0, .int .i64 x)]).run Try.prog w = .ok (.agg #[.int .i64 x, .bool false]) w := by
  refine run_build w _ _ _ ?_
  kernel_rfl
theorem pairsI_take (L : List Itm) (q : Nat) (h : 2 * q + 1 < L.length) : (pairsI L).take (q + 1) = (pairsI L).take q ++ [twoI (L.getD (2 * q) default) (L.getD (2 * q + 1) default)] := by
  obtain ⟨a, b, h1, h2, h3⟩ := pairsI_at L q h
  rw [List.take_add_one, h3, List.getD, h1, List.getD, h2]; rfl
theorem pkdI_two (a b : Itm) (ha : 1 ≤ a.ms.length) (hb : 1 ≤ b.ms.length) : pkdI (twoI a b) = true := by
  unfold pkdI twoI; simp; omega

set_option maxHeartbeats 4000000 in
theorem lkPackages_any (a : Option Addr) (n cap : Nat) (L : List Itm) (w : World) (h : ElmAt w a n cap L) (hn : n ≤ 1000000) (hw : ∀ x ∈ L, x.w ≤ 1125899906842624) (hm : ∀ x ∈ L, 1 ≤ x.ms.length) :
    Calls Try.prog 26 #[.slice a n cap] w (FreshE (pairsI L) w) := by
  obtain ⟨i0, hi0, hz0, hz1, hz2⟩ := info_parts infoElm
  have hl : L.length = n := h.1
  have HL := Lib.hid h
  have HT := Lib.hid (fun q (hq : 2 * q + 1 < n) => pairsI_take L q (by rw [hl]; exact hq))
  have HE := Lib.hid (fun q (hq : n ≤ 2 * q + 1) => show (pairsI L).take q = pairsI L from List.take_of_length_le (by rw [pairsI_len, hl]; omega))
  have HX := Lib.hid (fun i (hi : i < n) => show (L.getD i default).w ≤ 1125899906842624 ∧ 1 ≤ (L.getD i default).ms.length from by
    have : L.getD i default ∈ L := by rw [List.getD, List.getElem?_eq_getElem (by rw [hl]; exact hi)]; exact List.getElem_mem _
    exact ⟨hw _ this, hm _ this⟩)
  have HPL := Lib.hid (fun q => show ((pairsI L).take q).length ≤ n by rw [List.length_take, pairsI_len, hl]; omega)
  clear h hl hw hm
  go_enter Try.func26, Try.ntmps26
  go_wp2
  go_loopw [3, 4] (fun so si wr => ∃ (q i : Nat) (oa : Option Addr) (on oc : Nat), i = 2 * q + 1 ∧ i ≤ n + 1 ∧ si = .int .i64 (i : Int) ∧ so = .slice oa on oc ∧ ElmI w wr oa on oc ((pairsI L).take q)) (fun _ si _ => n + 1 - (intOf si).toNat)
  case atStart => exact ⟨0, 1, none, 0, 0, rfl, by omega, rfl, rfl, by rw [List.take_zero]; exact OwnI.nil w⟩
  case round =>
    obtain ⟨q, i, oa, on, oc, hiq, hin, rfl, rfl, hO⟩ := hrel
    rename World => wr
    have HO := Lib.hid hO
    have HB := Lib.hid hO.2.2.2
    have HON := Lib.hid hO.2.1
    have hon : on ≤ 1000000 := by have := HPL.out q; rw [HON.out] at this; omega
    clear hO
    by_cases hlt : i < n
    · have hii : (i : Int) < n := by omega
      obtain ⟨b, off, rfl, hblt, hc⟩ := CameAt.at HL.out (by omega) (by omega)
      have hlen : L.length = n := HL.out.1
      obtain ⟨j, hj⟩ : ∃ j, j = 2 * q := ⟨_, rfl⟩
      have hx1 : L[j]? = some (L.getD j default) := by rw [List.getD, List.getElem?_eq_getElem (by omega)]; rfl
      have hx2 : L[i]? = some (L.getD i default) := by rw [List.getD, List.getElem?_eq_getElem (by omega)]; rfl
      have z1 := hc j 0 _ hx1 (by omega)
      have z2 := hc i 0 _ hx2 (by omega)
      change World.cell? _ _ = some (.int .i64 _) at z1 z2
      rw [Nat.add_zero] at z1 z2
      have x1 := below_cell HB.out z1
      have x2 := below_cell HB.out z2
      have b1 := HX.out j (by omega)
      have b2 := HX.out i hlt
      have ht := HT.out q (by omega)
      rw [← hj, show j + 1 = i by omega] at ht
      generalize L.getD j default = xa at *
      generalize L.getD i default = xb at *
      have HTT := Lib.hid ht
      have Z1 := Lib.hid z1
      have Z2 := Lib.hid z2
      clear z1 z2
      have hpk := pkdI_two xa xb b1.2 b2.2
      obtain ⟨s, hs⟩ : ∃ s, s = xa.w + xb.w := ⟨_, rfl⟩
      have HEC := Lib.hid (show elmC (twoI xa xb) = [.int .i64 (s : Int), .bool true] by unfold elmC; rw [hpk, hs]; rfl)
      have e1 : IntKind.i64.wrap ((i : Int) - 1) = (j : Int) := by rw [IntWalk.i64_in _ (by omega)]; omega
      have hw1 := b1.1
      have hw2 := b2.1
      have e2 : IntKind.i64.wrap ((xa.w : Int) + (xb.w : Int)) = (s : Int) := by rw [IntWalk.i64_in _ (by omega)]; omega
      have hjn : (j : Int) < n := by omega
      have hj0 : (0 : Int) ≤ (j : Int) := by omega
      have HIQ := Lib.hid hiq
      have HJ := Lib.hid hj
      clear hc hlen hx1 hx2 ht hpk hiq hj HT HE HX HPL b1 b2 hs
      go_upto_region 5 with (fail)
      refine region_headS 16 [0, 1, 2, 3, 4, 5, 6, 7, 8, 9, 10, 11, 12, 13, 14, 15] [14, 15] (fun u => u.cell? ⟨b, off + j * 2, none⟩ = some (.int .i64 (xa.w : Int)) ∧ u.cell? ⟨b, off + i * 2, none⟩ = some (.int .i64 (xb.w : Int))) (by kernel_rfl) (by kernel_rfl) ⟨by simpa using x1, by simpa using x2⟩ ?_
      simp only [pickO, List.filterMap_cons, List.filterMap_nil, List.getElem?_cons_zero, List.getElem?_cons_succ, Option.map_some, List.drop_succ_cons, List.drop_zero]
      iterate 13
        refine seqS_read _ rfl rfl (by rintro u ⟨hu1, hu2⟩; go_simp; with_reducible rfl) ?_
        try simp only [Act.put, List.setIfInBounds_toArray, List.set_cons_zero, List.set_cons_succ]
      refine seqS_read (.agg #[.int .i64 (s : Int), .bool true]) rfl rfl (by rintro u ⟨hu1, hu2⟩; have hb := build_pkd (s : Int) u; go_simp; try with_reducible rfl) ?_
      try simp only [Act.put, List.setIfInBounds_toArray, List.set_cons_zero, List.set_cons_succ]
      refine seqS_move rfl rfl (fun K' hK => ?_)
      refine wp_buildSliceV 55 1 _ rfl #[(0, .agg #[.int .i64 (s : Int), .bool true])] (by simp [go_sem]) _ _ (built_elm #[.int .i64 (s : Int), .bool true] rfl wr.drew) ?_
      have HB2 := Lib.hid ((Below.refl wr.drew.heap.size wr.drew).alloc (Nat.le_refl _) (.cells #[.int .i64 (s : Int), .bool true] 68))
      have HON1 := Lib.hid (one_rec (f := elmC) (x := twoI xa xb) (w := wr.drew.alloc (.cells #[.int .i64 (s : Int), .bool true] 68)) (B := wr.drew.heap.size) (t := 68) (fr := (0, 0)) (by rw [HEC.out]; exact heap_alloc_new wr.drew _))
      have HOD := Lib.hid (HO.out.below ((Below.refl _ _).drew))
      refine hK _ _ _ (fun u hu => hu) ⟨below_cell HB2.out (by simpa using x1), below_cell HB2.out (by simpa using x2)⟩ ?_
      clear hK K'
      try simp only [Act.put, List.setIfInBounds_toArray, List.set_cons_zero, List.set_cons_succ]
      refine seqS_move rfl rfl (fun K' hK => ?_)
      refine wp_append_recs (f := elmC) _ _ 55 rfl 68 i0 _ 2 16 Try.underlying55 hi0 hz0 hz1 hz2 rfl (by omega) (.slice oa on oc) ((pairsI L).take q) (by simp [go_sem]) (HOD.out.1.below HB2.out) ⟨wr.drew.heap.size, 0, none⟩ 1 1 [twoI xa xb] (by simp [go_sem]) rfl (fun _ _ => rfl) (fun y _ => elmC_one y) HON1.out (by rw [HON.out]; unfold maxLen; omega) (by rw [HON.out]; omega) ?_
      intro v' w3 hr hg hbk
      obtain ⟨oa2, oc2, hv, hI⟩ := OwnI.more HOD.out hr hg hbk
      rw [← HTT.out] at hI
      rw [show ([twoI xa xb] : List Itm).length = 1 from rfl] at hv hI
      subst hv
      have HI := Lib.hid hI
      refine hK _ _ _ (fun u hu => hu) ⟨below_cell HI.out.2.2.2 Z1.out, below_cell HI.out.2.2.2 Z2.out⟩ ?_
      clear hK K' hr hg hbk hI x1 x2 e1 e2
      refine seqS_nil ?_
      try simp only [Act.put, List.setIfInBounds_toArray, List.set_cons_zero, List.set_cons_succ]
      go_wp2
      go_roundw
      case rel => exact ⟨q + 1, i + 2, oa2, on + 1, oc2, by have := HIQ.out; omega, by omega, by go_num, rfl, HI.out⟩
      case measure => simp [intOf]; omega
    · have hii : ¬ (i : Int) < n := by omega
      have HEE := Lib.hid (HE.out q (by omega))
      rw [HEE.out] at HO
      go_wp2
      go_ret
      exact ⟨oa, on, oc, rfl, HO.out⟩
end Go.Proofs.Ytklfoafbgniogaa
