/-
  Few: no more of a transaction than may be looked at, in memory of its own.
-/
import Derived.Test.YtinfgfgmijjhjaaPutRow
import Derived.Test.YtinfgfgmijjhjaaHead
import Derived.Test.YtinfgfgmijjhjaaOpen
import Derived.Deep.Grids
namespace Go.Proofs.Ytinfgfgmijjhjaa
open Go.RowKit
set_option linter.unusedVariables false
set_option linter.unusedSimpArgs false

/-- octets laid behind a row of the call's own -/
theorem wp_append_bytes {w : World} {o : Oper} {a : Act} {K : Act → World → Prop} {Q : Exit → Act → World → Prop} (s x : Operand)
    (ho : o.op = .call { callee := .builtin .append, args := #[s, x], argTypes := #[24, 24] })
    (base : Nat) (v : Value) (n : Nat) (xs : List Value) (hs : a.eval s = v) (hown : w.ownsRow base 5 1 v n xs)
    (sa : Option Addr) (m c : Nat) (l : List UInt8) (hx : a.eval x = .slice sa m c) (hsrc : BytesAt w sa m c l) (N : Nat) (hN : N = n + m)
    (h63 : N ≤ 140737488355328) (hbase : base ≤ w.heap.size)
    (h : ∀ a' cap' w', w'.ownsRow base 5 1 (.slice a' N cap') N (xs ++ vals l) → w.grownBy w' v.ownBlock → K (a.put o.dst (.slice a' N cap')) w') : Oper.wp Try.prog o a w K Q := by
  obtain ⟨i0, hi, hz0, hz1, hz2⟩ := info_parts infoU8
  subst hN
  obtain ⟨h1, h2, h3, h4⟩ := hsrc
  rcases h4 with ⟨rfl, rfl, rfl⟩ | ⟨ad, rfl, hc⟩
  · have : l = [] := List.eq_nil_of_length_eq_zero h1
    subst this
    have hrun := run_append_owned_none (P := Try.prog) (w := w) base 24 o.type 5 i0 1 Try.underlying24 hi v n xs hown
    unfold Oper.wp
    simp [execOp, ho, resolve, invoke, builtin, hs, hx, hrun, Result.andThen]
    rw [Oper.upon_value]
    obtain ⟨a', cap', rfl⟩ := owned_shape hown
    have := h a' cap' w (by simpa [vals] using hown) (World.grownBy.refl _ _)
    simpa using this
  · subst h1
    refine wp_append_own w s x 24 ho base 5 i0 (.int .u8 0) 1 1 Try.underlying24 hi hz0 hz1 hz2 rfl (by decide) v n xs hs hown ad l.length c (vals l) hx (by simp [vals_length]) ?_ (mem_vals_oneCell l) (by unfold maxLen; omega) (by omega) hbase ?_
    · intro j u hj
      have hj' : j < l.length := by
        have := (List.getElem?_eq_some_iff.1 hj).1
        simpa [vals_length] using this
      rw [hc j hj', ← vals_at l j hj', hj]
    · intro v' w' ho' hg' _
      obtain ⟨a', cap', rfl⟩ := owned_shape ho'
      exact h a' cap' w' ho' hg'

def fewL (L : List Pt) : List Pt := (L.take 42).map fun p => (p.1, p.2.take 130)
theorem fewL_length (L : List Pt) : (fewL L).length = min 42 L.length := by simp [fewL]

/-- puts that came in -/
structure PutsCame (w : World) (a : Option Addr) (n cap : Nat) (M : List PutM) : Prop where
  came : CameAt putC 2 w a n cap M
  bytes : ∀ x ∈ M, BytesAt w x.a x.n x.cap x.b
theorem PutsCame.below {w w' : World} {a : Option Addr} {n cap : Nat} {M : List PutM} (h : PutsCame w a n cap M) (hb : Below w.heap.size w w') : PutsCame w' a n cap M := ⟨h.came.below (by omega) hb, fun x hx => (h.bytes x hx).below hb⟩
theorem PutsCame.head {w : World} {a : Option Addr} {n cap m : Nat} {M : List PutM} (h : PutsCame w a n cap M) (hm : m ≤ n) : PutsCame w a m cap (M.take m) := ⟨h.came.head hm, fun x hx => h.bytes x (List.mem_of_mem_take hx)⟩

def FewTo (L : List Pt) (w : World) (e : Ending) (w' : World) : Prop :=
  ∃ (a : Option Addr) (n cap : Nat) (M : List PutM), e = .returned (.slice a n cap) ∧ PutsIn w' (fun k => w.heap.size ≤ k ∧ k < w'.heap.size) a n cap M ∧ M.map PutM.pt = L ∧ Below w.heap.size w w'

theorem built_none : ∀ u : World, (Instr.buildSlice 24 0 #[]).run Try.prog u = .ok (.slice (some ⟨u.heap.size, 0, none⟩) 0 0) (u.alloc (.cells #[] 5)) := fun u => by
  obtain ⟨i0, hi, hz0, hz1, hz2⟩ := info_parts infoU8
  simp [Instr.buildSlice, run_underlying Try.underlying24, sizeOf, typeInfo, hi, Instr.fill, newRow, Array.range_zero']

theorem empty_row (w : World) : (w.alloc (.cells #[] 5)).ownsRow w.heap.size 5 1 (.slice (some ⟨w.heap.size, 0, none⟩) 0 0) 0 [] :=
  ⟨rfl, .inr ⟨w.heap.size, 0, #[], rfl, Nat.le_refl _, heap_alloc_new w _, Nat.le_refl _, by unfold maxLen; omega, rfl, rfl⟩⟩

set_option maxHeartbeats 4000000 in
set_option maxRecDepth 100000 in
theorem few_small (a : Option Addr) (n cap : Nat) (M : List PutM) (w : World) (hC : PutsCame w a n cap M) (hn : n ≤ 42) :
    Calls Try.prog 7 #[.slice a n cap] w (FewTo ((M.map PutM.pt).map fun p => (p.1, p.2.take 130)) w) := by
  have hnI : (n : Int) ≤ 42 := by omega
  have HC := Lib.hid hC
  have HML := Lib.hid (show (M).length = n from hC.came.1)
  have HM42 := Lib.hid (show n ≤ 42 by omega)
  obtain ⟨i0, hi, hz0, hz1, hz2⟩ := info_parts infoPut
  have HI := Lib.hid (And.intro hi (And.intro hz0 (And.intro hz1 hz2)))
  clear hC hi hz0 hz1 hz2
  go_enter Try.func7, Try.ntmps7
  go_wp2
  go_loopw [3, 4] (fun v i wr => ∃ (k : Nat) (a' : Option Addr) (cap' : Nat) (N : List PutM), k ≤ n ∧ i = .int .i64 k ∧ v = .slice a' k cap' ∧ N.length = k ∧ PutRow w wr (.slice a' k cap') N ∧ N.map PutM.pt = (((M).map PutM.pt).map fun p => (p.1, p.2.take 130)).take k) (fun _ i _ => n - (intOf i).toNat)
  case atStart => exact ⟨0, none, 0, [], Nat.zero_le _, rfl, rfl, rfl, PutRow.nil w, rfl⟩
  case round =>
    obtain ⟨k, a', cap', N, hk, rfl, rfl, hNl, hpr, hN⟩ := hrel
    have HPR := Lib.hid hpr
    have HN := Lib.hid hN
    have HNl := Lib.hid hNl
    have hk42 : k ≤ 42 := by have := HM42.out; omega
    clear hpr hN hNl
    by_cases hlt : k < n
    · have hl := HML.out
      have hlk : k < (M).length := by rw [hl]; exact hlt
      obtain ⟨b, off, rfl, hbl, hc⟩ := HC.out.came.at (by omega) (by omega)
      have hx : (M)[k]? = some ((M).getD k default) := by rw [List.getD, List.getElem?_eq_getElem hlk]; rfl
      have c0w := hc k 0 _ hx (by omega)
      have c1w := hc k 1 _ hx (by omega)
      have hbb := HC.out.bytes _ (List.mem_of_getElem? hx)
      have htk : ((((M).map PutM.pt).map fun p => (p.1, p.2.take 130)).take (k + 1)) = ((((M).map PutM.pt).map fun p => (p.1, p.2.take 130)).take k) ++ [(((M).getD k default).at_, ((M).getD k default).b.take 130)] := by
        rw [List.take_succ_eq_append_getElem (by simpa using hlk)]
        congr 2
        rw [List.getElem_map, List.getElem_map]
        have := (List.getElem?_eq_some_iff.1 hx).2
        rw [this]; rfl
      have HTK := Lib.hid htk
      clear hc hx hl hlk htk
      generalize (M).getD k default = x at *
      obtain ⟨xi, xa, xn, xc, xb⟩ := x
      dsimp only [putC] at c0w c1w hbb HTK
      simp only [List.getElem?_cons_zero, List.getElem?_cons_succ] at c0w c1w
      have c0 : wr.cell? ⟨b, off + k * 2, none⟩ = some (.int .i64 xi) := by
        rw [HPR.out.below.cell (p := ⟨b, off + k * 2, none⟩) hbl]; simpa using c0w
      have c1 : wr.cell? ⟨b, off + k * 2 + 1, none⟩ = some (.slice xa xn xc) := by
        rw [HPR.out.below.cell (p := ⟨b, off + k * 2 + 1, none⟩) hbl]; simpa [Nat.add_assoc] using c1w
      have HBB := Lib.hid (hbb.below HPR.out.below)
      have hxm := hbb.2.1
      have hxm2 := hbb.2.2.1
      unfold maxLen at hxm2
      have HBLT := Lib.hid hbl
      have HC0 := Lib.hid (show ∀ u : World, Below w.heap.size w u → u.cell? ⟨b, off + k * 2, none⟩ = some (.int .i64 xi) from fun u hu => by
        rw [hu.cell (p := ⟨b, off + k * 2, none⟩) HBLT.out]; simpa using c0w)
      have hki : (k : Int) < (n : Int) := by omega
      clear c0w c1w hbb hbl
      by_cases h130 : 130 < xn
      · have h130I : (130 : Int) < (xn : Int) := by omega
        have hcapI : (130 : Int) ≤ (xc : Int) := by omega
        go_upto_region 10 with fail
        have HS := Lib.hid (show BytesAt wr xa 130 xc (xb.take 130) from HBB.out.head (by omega))
        clear HBB h130I hcapI
        have c0' := HC0.out wr.drew HPR.out.below.drew
        refine region_head 12 [0, 1, 2, 3, 4, 5, 7, 6, 8, 9, 10, 11] [6, 8, 10, 11] (fun u => u.cell? ⟨b, off + k * 2, none⟩ = some (.int .i64 xi)) (by kernel_rfl) (by kernel_rfl) c0' ?_
        clear c0' c0 c1
        simp only [pickO, List.append_eq, List.cons_append, List.nil_append, List.filterMap_cons, List.filterMap_nil, List.getElem?_cons_zero, List.getElem?_cons_succ, Option.map_some, List.drop_succ_cons, List.drop_zero]
        iterate 7
          refine seqH_readG _ rfl (by rfl) (by rintro u hu1; go_simp; with_reducible rfl) ?_
          try simp only [Act.put, List.setIfInBounds_toArray, List.set_cons_zero, List.set_cons_succ]
        refine seqH_moveG rfl (by rfl) (fun K hK => ?_)
        refine wp_buildSliceV 24 0 _ rfl #[] (by simp [go_sem]) _ _ (built_none _) ?_
        have B1 := Lib.hid (HPR.out.below.drew.alloc (by have := HPR.out.below.size; simpa using this) (.cells #[] 5))
        refine hK _ _ (HC0.out _ B1.out) ?_
        clear hK K
        try simp only [Act.put, List.setIfInBounds_toArray, List.set_cons_zero, List.set_cons_succ]
        refine seqH_moveG rfl (by rfl) (fun K hK => ?_)
        have BW1 := Lib.hid (((Below.refl wr.heap.size wr).drew).alloc (by simp) (.cells #[] 5))
        refine wp_append_bytes _ _ rfl wr.heap.size (.slice (some ⟨wr.drew.heap.size, 0, none⟩) 0 0) 0 [] rfl (empty_row wr.drew) xa 130 xc (xb.take 130) rfl (HS.out.below BW1.out) 130 (Nat.zero_add _).symm (by omega) (by simp) ?_
        intro a2 cap2 w2 ho2 hg2
        have BW2 := Lib.hid (BW1.out.grown hg2 BW1.out.size (fun q hq => by simp [Value.ownBlock] at hq; omega) : Below wr.heap.size wr w2)
        have HY := Lib.hid (BytesAt.owned (show w2.ownsRow wr.heap.size 5 1 (.slice a2 130 cap2) 130 (vals (xb.take 130)) from ho2))
        have HYN := Lib.hid (show ∀ p, a2 = some p → wr.heap.size ≤ p.block ∧ p.block < w2.heap.size from fun p hp => by subst hp; exact ho2.lt p.block rfl)
        refine hK _ _ (HC0.out _ (HPR.out.below.trans (BW2.out.mono HPR.out.below.size))) ?_
        clear hK K ho2 hg2 B1 BW1
        try simp only [Act.put, List.setIfInBounds_toArray, List.set_cons_zero, List.set_cons_succ]
        refine seqH_readG (.agg (putV xi a2 130 cap2)) rfl (by rfl) (by rintro u hu1; unfold putV; go_simp) ?_
        try simp only [Act.put, List.setIfInBounds_toArray, List.set_cons_zero, List.set_cons_succ]
        refine seqH_moveG rfl (by rfl) (fun K hK => ?_)
        refine wp_buildSliceV 22 1 _ rfl #[(0, .agg (putV xi a2 130 cap2))] (by simp [go_sem]) _ _ (built_put xi _ _ _ _) ?_
        have BW3 := Lib.hid (BW2.out.alloc BW2.out.size (.cells (putV xi a2 130 cap2) 69))
        refine hK _ _ (HC0.out _ (HPR.out.below.trans (BW3.out.mono HPR.out.below.size))) ?_
        clear hK K
        try simp only [Act.put, List.setIfInBounds_toArray, List.set_cons_zero, List.set_cons_succ]
        refine seqH_moveG rfl (by rfl) (fun K hK => ?_)
        refine wp_append_recs (f := putC) _ _ 22 rfl 69 i0 (.agg #[.int .i64 0, .slice none 0 0]) 2 32 Try.underlying22 HI.out.1 HI.out.2.1 HI.out.2.2.1 HI.out.2.2.2 rfl (by omega) (.slice a' k cap') N rfl ((HPR.out.quiet BW3.out).recs) ⟨w2.heap.size, 0, none⟩ 1 1 [⟨xi, a2, 130, cap2, xb.take 130⟩] rfl rfl (fun y hy => rfl) (fun y hy => putC_one y) (put_news (heap_alloc_new w2 _)) (by rw [HNl.out]; unfold maxLen; omega) (by rw [HNl.out]; omega) ?_
        intro v7 w7 hr7 hg7 hv7
        obtain ⟨a7, c7, rfl, _, _⟩ := hr7.form
        have HROW := Lib.hid (HPR.out.snoc BW3.out ⟨xi, a2, 130, cap2, xb.take 130⟩ (HY.out.below ((Below.refl _ _).alloc (Nat.le_refl _) _)) (fun p hp => ⟨(HYN.out p hp).1, by have := (HYN.out p hp).2; simp; omega⟩) hr7 hg7 hv7)
        have hl7 : (N ++ [(⟨xi, a2, 130, cap2, xb.take 130⟩ : PutM)]).length = k + 1 := by rw [List.length_append, HNl.out, List.length_singleton]
        rw [hl7] at HROW
        have HL7 := Lib.hid hl7
        refine hK _ _ (HC0.out _ HROW.out.below) ?_
        rw [hl7]
        clear hK K hr7 hg7 hv7 hl7
        try simp only [Act.put, List.setIfInBounds_toArray, List.set_cons_zero, List.set_cons_succ]
        refine seqH_nil ?_
        go_wp2
        go_roundw
        case rel => exact ⟨k + 1, a7, c7, _, by omega, by go_num, rfl, HL7.out, HROW.out, by rw [HTK.out, List.map_append, HN.out]; rfl⟩
        case measure => simp [intOf]; omega
      · have h130I : (xn : Int) ≤ 130 := by omega
        go_upto_region 10 with fail
        have HS := Lib.hid (show BytesAt wr xa xn xc (xb.take 130) by rw [List.take_of_length_le (by have := HBB.out.1; omega)]; exact HBB.out)
        clear HBB h130I
        have c0' := HC0.out wr.drew HPR.out.below.drew
        refine region_head 12 [0, 1, 2, 3, 4, 5, 7, 6, 8, 9, 10, 11] [6, 8, 10, 11] (fun u => u.cell? ⟨b, off + k * 2, none⟩ = some (.int .i64 xi)) (by kernel_rfl) (by kernel_rfl) c0' ?_
        clear c0' c0 c1
        simp only [pickO, List.append_eq, List.cons_append, List.nil_append, List.filterMap_cons, List.filterMap_nil, List.getElem?_cons_zero, List.getElem?_cons_succ, Option.map_some, List.drop_succ_cons, List.drop_zero]
        iterate 7
          refine seqH_readG _ rfl (by rfl) (by rintro u hu1; go_simp; with_reducible rfl) ?_
          try simp only [Act.put, List.setIfInBounds_toArray, List.set_cons_zero, List.set_cons_succ]
        refine seqH_moveG rfl (by rfl) (fun K hK => ?_)
        refine wp_buildSliceV 24 0 _ rfl #[] (by simp [go_sem]) _ _ (built_none _) ?_
        have B1 := Lib.hid (HPR.out.below.drew.alloc (by have := HPR.out.below.size; simpa using this) (.cells #[] 5))
        refine hK _ _ (HC0.out _ B1.out) ?_
        clear hK K
        try simp only [Act.put, List.setIfInBounds_toArray, List.set_cons_zero, List.set_cons_succ]
        refine seqH_moveG rfl (by rfl) (fun K hK => ?_)
        have BW1 := Lib.hid (((Below.refl wr.heap.size wr).drew).alloc (by simp) (.cells #[] 5))
        refine wp_append_bytes _ _ rfl wr.heap.size (.slice (some ⟨wr.drew.heap.size, 0, none⟩) 0 0) 0 [] rfl (empty_row wr.drew) xa xn xc (xb.take 130) rfl (HS.out.below BW1.out) xn (Nat.zero_add _).symm (by omega) (by simp) ?_
        intro a2 cap2 w2 ho2 hg2
        have BW2 := Lib.hid (BW1.out.grown hg2 BW1.out.size (fun q hq => by simp [Value.ownBlock] at hq; omega) : Below wr.heap.size wr w2)
        have HY := Lib.hid (BytesAt.owned (show w2.ownsRow wr.heap.size 5 1 (.slice a2 xn cap2) xn (vals (xb.take 130)) from ho2))
        have HYN := Lib.hid (show ∀ p, a2 = some p → wr.heap.size ≤ p.block ∧ p.block < w2.heap.size from fun p hp => by subst hp; exact ho2.lt p.block rfl)
        refine hK _ _ (HC0.out _ (HPR.out.below.trans (BW2.out.mono HPR.out.below.size))) ?_
        clear hK K ho2 hg2 B1 BW1
        try simp only [Act.put, List.setIfInBounds_toArray, List.set_cons_zero, List.set_cons_succ]
        refine seqH_readG (.agg (putV xi a2 xn cap2)) rfl (by rfl) (by rintro u hu1; unfold putV; go_simp) ?_
        try simp only [Act.put, List.setIfInBounds_toArray, List.set_cons_zero, List.set_cons_succ]
        refine seqH_moveG rfl (by rfl) (fun K hK => ?_)
        refine wp_buildSliceV 22 1 _ rfl #[(0, .agg (putV xi a2 xn cap2))] (by simp [go_sem]) _ _ (built_put xi _ _ _ _) ?_
        have BW3 := Lib.hid (BW2.out.alloc BW2.out.size (.cells (putV xi a2 xn cap2) 69))
        refine hK _ _ (HC0.out _ (HPR.out.below.trans (BW3.out.mono HPR.out.below.size))) ?_
        clear hK K
        try simp only [Act.put, List.setIfInBounds_toArray, List.set_cons_zero, List.set_cons_succ]
        refine seqH_moveG rfl (by rfl) (fun K hK => ?_)
        refine wp_append_recs (f := putC) _ _ 22 rfl 69 i0 (.agg #[.int .i64 0, .slice none 0 0]) 2 32 Try.underlying22 HI.out.1 HI.out.2.1 HI.out.2.2.1 HI.out.2.2.2 rfl (by omega) (.slice a' k cap') N rfl ((HPR.out.quiet BW3.out).recs) ⟨w2.heap.size, 0, none⟩ 1 1 [⟨xi, a2, xn, cap2, xb.take 130⟩] rfl rfl (fun y hy => rfl) (fun y hy => putC_one y) (put_news (heap_alloc_new w2 _)) (by rw [HNl.out]; unfold maxLen; omega) (by rw [HNl.out]; omega) ?_
        intro v7 w7 hr7 hg7 hv7
        obtain ⟨a7, c7, rfl, _, _⟩ := hr7.form
        have HROW := Lib.hid (HPR.out.snoc BW3.out ⟨xi, a2, xn, cap2, xb.take 130⟩ (HY.out.below ((Below.refl _ _).alloc (Nat.le_refl _) _)) (fun p hp => ⟨(HYN.out p hp).1, by have := (HYN.out p hp).2; simp; omega⟩) hr7 hg7 hv7)
        have hl7 : (N ++ [(⟨xi, a2, xn, cap2, xb.take 130⟩ : PutM)]).length = k + 1 := by rw [List.length_append, HNl.out, List.length_singleton]
        rw [hl7] at HROW
        have HL7 := Lib.hid hl7
        refine hK _ _ (HC0.out _ HROW.out.below) ?_
        rw [hl7]
        clear hK K hr7 hg7 hv7 hl7
        try simp only [Act.put, List.setIfInBounds_toArray, List.set_cons_zero, List.set_cons_succ]
        refine seqH_nil ?_
        go_wp2
        go_roundw
        case rel => exact ⟨k + 1, a7, c7, _, by omega, by go_num, rfl, HL7.out, HROW.out, by rw [HTK.out, List.map_append, HN.out]; rfl⟩
        case measure => simp [intOf]; omega
    · obtain rfl : k = n := by omega
      rw [List.take_of_length_le (by simp only [List.length_map]; rw [HML.out]; omega)] at HN
      go_wp2
      go_ret
      exact ⟨a', _, cap', N, rfl, HPR.out.puts, HN.out, HPR.out.below⟩

set_option maxHeartbeats 4000000 in
set_option maxRecDepth 100000 in
theorem few_great (a : Option Addr) (n cap : Nat) (M : List PutM) (w : World) (hC0 : PutsCame w a n cap M) (hn : 42 < n) :
    Calls Try.prog 7 #[.slice a n cap] w (FewTo (((M.take 42).map PutM.pt).map fun p => (p.1, p.2.take 130)) w) := by
  have hnI : (42 : Int) < (n : Int) := by omega
  have hcap := hC0.came.2.1
  have hcm := hC0.came.2.2.1
  unfold maxLen at hcm
  have hcapI : (42 : Int) ≤ (cap : Int) := by omega
  have hC := hC0.head (m := 42) (by omega)
  obtain ⟨M2, hM2⟩ : ∃ M2, M.take 42 = M2 := ⟨_, rfl⟩
  rw [hM2] at hC ⊢
  clear hC0 hM2
  have HC := Lib.hid hC
  have HML := Lib.hid (show (M2).length = 42 from hC.came.1)
  have HM42 := Lib.hid (show 42 ≤ 42 by omega)
  obtain ⟨i0, hi, hz0, hz1, hz2⟩ := info_parts infoPut
  have HI := Lib.hid (And.intro hi (And.intro hz0 (And.intro hz1 hz2)))
  clear hC hi hz0 hz1 hz2
  go_enter Try.func7, Try.ntmps7
  go_wp2
  go_loopw [3, 4] (fun v i wr => ∃ (k : Nat) (a' : Option Addr) (cap' : Nat) (N : List PutM), k ≤ 42 ∧ i = .int .i64 k ∧ v = .slice a' k cap' ∧ N.length = k ∧ PutRow w wr (.slice a' k cap') N ∧ N.map PutM.pt = (((M2).map PutM.pt).map fun p => (p.1, p.2.take 130)).take k) (fun _ i _ => 42 - (intOf i).toNat)
  case atStart => exact ⟨0, none, 0, [], Nat.zero_le _, rfl, rfl, rfl, PutRow.nil w, rfl⟩
  case round =>
    obtain ⟨k, a', cap', N, hk, rfl, rfl, hNl, hpr, hN⟩ := hrel
    have HPR := Lib.hid hpr
    have HN := Lib.hid hN
    have HNl := Lib.hid hNl
    have hk42 : k ≤ 42 := by have := HM42.out; omega
    clear hpr hN hNl
    by_cases hlt : k < 42
    · have hl := HML.out
      have hlk : k < (M2).length := by rw [hl]; exact hlt
      obtain ⟨b, off, rfl, hbl, hc⟩ := HC.out.came.at (by omega) (by omega)
      have hx : (M2)[k]? = some ((M2).getD k default) := by rw [List.getD, List.getElem?_eq_getElem hlk]; rfl
      have c0w := hc k 0 _ hx (by omega)
      have c1w := hc k 1 _ hx (by omega)
      have hbb := HC.out.bytes _ (List.mem_of_getElem? hx)
      have htk : ((((M2).map PutM.pt).map fun p => (p.1, p.2.take 130)).take (k + 1)) = ((((M2).map PutM.pt).map fun p => (p.1, p.2.take 130)).take k) ++ [(((M2).getD k default).at_, ((M2).getD k default).b.take 130)] := by
        rw [List.take_succ_eq_append_getElem (by simpa using hlk)]
        congr 2
        rw [List.getElem_map, List.getElem_map]
        have := (List.getElem?_eq_some_iff.1 hx).2
        rw [this]; rfl
      have HTK := Lib.hid htk
      clear hc hx hl hlk htk
      generalize (M2).getD k default = x at *
      obtain ⟨xi, xa, xn, xc, xb⟩ := x
      dsimp only [putC] at c0w c1w hbb HTK
      simp only [List.getElem?_cons_zero, List.getElem?_cons_succ] at c0w c1w
      have c0 : wr.cell? ⟨b, off + k * 2, none⟩ = some (.int .i64 xi) := by
        rw [HPR.out.below.cell (p := ⟨b, off + k * 2, none⟩) hbl]; simpa using c0w
      have c1 : wr.cell? ⟨b, off + k * 2 + 1, none⟩ = some (.slice xa xn xc) := by
        rw [HPR.out.below.cell (p := ⟨b, off + k * 2 + 1, none⟩) hbl]; simpa [Nat.add_assoc] using c1w
      have HBB := Lib.hid (hbb.below HPR.out.below)
      have hxm := hbb.2.1
      have hxm2 := hbb.2.2.1
      unfold maxLen at hxm2
      have HBLT := Lib.hid hbl
      have HC0 := Lib.hid (show ∀ u : World, Below w.heap.size w u → u.cell? ⟨b, off + k * 2, none⟩ = some (.int .i64 xi) from fun u hu => by
        rw [hu.cell (p := ⟨b, off + k * 2, none⟩) HBLT.out]; simpa using c0w)
      have hki : (k : Int) < (42 : Int) := by omega
      clear c0w c1w hbb hbl
      by_cases h130 : 130 < xn
      · have h130I : (130 : Int) < (xn : Int) := by omega
        have hcapI : (130 : Int) ≤ (xc : Int) := by omega
        go_upto_region 10 with fail
        have HS := Lib.hid (show BytesAt wr xa 130 xc (xb.take 130) from HBB.out.head (by omega))
        clear HBB h130I hcapI
        have c0' := HC0.out wr.drew HPR.out.below.drew
        refine region_head 12 [0, 1, 2, 3, 4, 5, 7, 6, 8, 9, 10, 11] [6, 8, 10, 11] (fun u => u.cell? ⟨b, off + k * 2, none⟩ = some (.int .i64 xi)) (by kernel_rfl) (by kernel_rfl) c0' ?_
        clear c0' c0 c1
        simp only [pickO, List.append_eq, List.cons_append, List.nil_append, List.filterMap_cons, List.filterMap_nil, List.getElem?_cons_zero, List.getElem?_cons_succ, Option.map_some, List.drop_succ_cons, List.drop_zero]
        iterate 7
          refine seqH_readG _ rfl (by rfl) (by rintro u hu1; go_simp; with_reducible rfl) ?_
          try simp only [Act.put, List.setIfInBounds_toArray, List.set_cons_zero, List.set_cons_succ]
        refine seqH_moveG rfl (by rfl) (fun K hK => ?_)
        refine wp_buildSliceV 24 0 _ rfl #[] (by simp [go_sem]) _ _ (built_none _) ?_
        have B1 := Lib.hid (HPR.out.below.drew.alloc (by have := HPR.out.below.size; simpa using this) (.cells #[] 5))
        refine hK _ _ (HC0.out _ B1.out) ?_
        clear hK K
        try simp only [Act.put, List.setIfInBounds_toArray, List.set_cons_zero, List.set_cons_succ]
        refine seqH_moveG rfl (by rfl) (fun K hK => ?_)
        have BW1 := Lib.hid (((Below.refl wr.heap.size wr).drew).alloc (by simp) (.cells #[] 5))
        refine wp_append_bytes _ _ rfl wr.heap.size (.slice (some ⟨wr.drew.heap.size, 0, none⟩) 0 0) 0 [] rfl (empty_row wr.drew) xa 130 xc (xb.take 130) rfl (HS.out.below BW1.out) 130 (Nat.zero_add _).symm (by omega) (by simp) ?_
        intro a2 cap2 w2 ho2 hg2
        have BW2 := Lib.hid (BW1.out.grown hg2 BW1.out.size (fun q hq => by simp [Value.ownBlock] at hq; omega) : Below wr.heap.size wr w2)
        have HY := Lib.hid (BytesAt.owned (show w2.ownsRow wr.heap.size 5 1 (.slice a2 130 cap2) 130 (vals (xb.take 130)) from ho2))
        have HYN := Lib.hid (show ∀ p, a2 = some p → wr.heap.size ≤ p.block ∧ p.block < w2.heap.size from fun p hp => by subst hp; exact ho2.lt p.block rfl)
        refine hK _ _ (HC0.out _ (HPR.out.below.trans (BW2.out.mono HPR.out.below.size))) ?_
        clear hK K ho2 hg2 B1 BW1
        try simp only [Act.put, List.setIfInBounds_toArray, List.set_cons_zero, List.set_cons_succ]
        refine seqH_readG (.agg (putV xi a2 130 cap2)) rfl (by rfl) (by rintro u hu1; unfold putV; go_simp) ?_
        try simp only [Act.put, List.setIfInBounds_toArray, List.set_cons_zero, List.set_cons_succ]
        refine seqH_moveG rfl (by rfl) (fun K hK => ?_)
        refine wp_buildSliceV 22 1 _ rfl #[(0, .agg (putV xi a2 130 cap2))] (by simp [go_sem]) _ _ (built_put xi _ _ _ _) ?_
        have BW3 := Lib.hid (BW2.out.alloc BW2.out.size (.cells (putV xi a2 130 cap2) 69))
        refine hK _ _ (HC0.out _ (HPR.out.below.trans (BW3.out.mono HPR.out.below.size))) ?_
        clear hK K
        try simp only [Act.put, List.setIfInBounds_toArray, List.set_cons_zero, List.set_cons_succ]
        refine seqH_moveG rfl (by rfl) (fun K hK => ?_)
        refine wp_append_recs (f := putC) _ _ 22 rfl 69 i0 (.agg #[.int .i64 0, .slice none 0 0]) 2 32 Try.underlying22 HI.out.1 HI.out.2.1 HI.out.2.2.1 HI.out.2.2.2 rfl (by omega) (.slice a' k cap') N rfl ((HPR.out.quiet BW3.out).recs) ⟨w2.heap.size, 0, none⟩ 1 1 [⟨xi, a2, 130, cap2, xb.take 130⟩] rfl rfl (fun y hy => rfl) (fun y hy => putC_one y) (put_news (heap_alloc_new w2 _)) (by rw [HNl.out]; unfold maxLen; omega) (by rw [HNl.out]; omega) ?_
        intro v7 w7 hr7 hg7 hv7
        obtain ⟨a7, c7, rfl, _, _⟩ := hr7.form
        have HROW := Lib.hid (HPR.out.snoc BW3.out ⟨xi, a2, 130, cap2, xb.take 130⟩ (HY.out.below ((Below.refl _ _).alloc (Nat.le_refl _) _)) (fun p hp => ⟨(HYN.out p hp).1, by have := (HYN.out p hp).2; simp; omega⟩) hr7 hg7 hv7)
        have hl7 : (N ++ [(⟨xi, a2, 130, cap2, xb.take 130⟩ : PutM)]).length = k + 1 := by rw [List.length_append, HNl.out, List.length_singleton]
        rw [hl7] at HROW
        have HL7 := Lib.hid hl7
        refine hK _ _ (HC0.out _ HROW.out.below) ?_
        rw [hl7]
        clear hK K hr7 hg7 hv7 hl7
        try simp only [Act.put, List.setIfInBounds_toArray, List.set_cons_zero, List.set_cons_succ]
        refine seqH_nil ?_
        go_wp2
        go_roundw
        case rel => exact ⟨k + 1, a7, c7, _, by omega, by go_num, rfl, HL7.out, HROW.out, by rw [HTK.out, List.map_append, HN.out]; rfl⟩
        case measure => simp [intOf]; omega
      · have h130I : (xn : Int) ≤ 130 := by omega
        go_upto_region 10 with fail
        have HS := Lib.hid (show BytesAt wr xa xn xc (xb.take 130) by rw [List.take_of_length_le (by have := HBB.out.1; omega)]; exact HBB.out)
        clear HBB h130I
        have c0' := HC0.out wr.drew HPR.out.below.drew
        refine region_head 12 [0, 1, 2, 3, 4, 5, 7, 6, 8, 9, 10, 11] [6, 8, 10, 11] (fun u => u.cell? ⟨b, off + k * 2, none⟩ = some (.int .i64 xi)) (by kernel_rfl) (by kernel_rfl) c0' ?_
        clear c0' c0 c1
        simp only [pickO, List.append_eq, List.cons_append, List.nil_append, List.filterMap_cons, List.filterMap_nil, List.getElem?_cons_zero, List.getElem?_cons_succ, Option.map_some, List.drop_succ_cons, List.drop_zero]
        iterate 7
          refine seqH_readG _ rfl (by rfl) (by rintro u hu1; go_simp; with_reducible rfl) ?_
          try simp only [Act.put, List.setIfInBounds_toArray, List.set_cons_zero, List.set_cons_succ]
        refine seqH_moveG rfl (by rfl) (fun K hK => ?_)
        refine wp_buildSliceV 24 0 _ rfl #[] (by simp [go_sem]) _ _ (built_none _) ?_
        have B1 := Lib.hid (HPR.out.below.drew.alloc (by have := HPR.out.below.size; simpa using this) (.cells #[] 5))
        refine hK _ _ (HC0.out _ B1.out) ?_
        clear hK K
        try simp only [Act.put, List.setIfInBounds_toArray, List.set_cons_zero, List.set_cons_succ]
        refine seqH_moveG rfl (by rfl) (fun K hK => ?_)
        have BW1 := Lib.hid (((Below.refl wr.heap.size wr).drew).alloc (by simp) (.cells #[] 5))
        refine wp_append_bytes _ _ rfl wr.heap.size (.slice (some ⟨wr.drew.heap.size, 0, none⟩) 0 0) 0 [] rfl (empty_row wr.drew) xa xn xc (xb.take 130) rfl (HS.out.below BW1.out) xn (Nat.zero_add _).symm (by omega) (by simp) ?_
        intro a2 cap2 w2 ho2 hg2
        have BW2 := Lib.hid (BW1.out.grown hg2 BW1.out.size (fun q hq => by simp [Value.ownBlock] at hq; omega) : Below wr.heap.size wr w2)
        have HY := Lib.hid (BytesAt.owned (show w2.ownsRow wr.heap.size 5 1 (.slice a2 xn cap2) xn (vals (xb.take 130)) from ho2))
        have HYN := Lib.hid (show ∀ p, a2 = some p → wr.heap.size ≤ p.block ∧ p.block < w2.heap.size from fun p hp => by subst hp; exact ho2.lt p.block rfl)
        refine hK _ _ (HC0.out _ (HPR.out.below.trans (BW2.out.mono HPR.out.below.size))) ?_
        clear hK K ho2 hg2 B1 BW1
        try simp only [Act.put, List.setIfInBounds_toArray, List.set_cons_zero, List.set_cons_succ]
        refine seqH_readG (.agg (putV xi a2 xn cap2)) rfl (by rfl) (by rintro u hu1; unfold putV; go_simp) ?_
        try simp only [Act.put, List.setIfInBounds_toArray, List.set_cons_zero, List.set_cons_succ]
        refine seqH_moveG rfl (by rfl) (fun K hK => ?_)
        refine wp_buildSliceV 22 1 _ rfl #[(0, .agg (putV xi a2 xn cap2))] (by simp [go_sem]) _ _ (built_put xi _ _ _ _) ?_
        have BW3 := Lib.hid (BW2.out.alloc BW2.out.size (.cells (putV xi a2 xn cap2) 69))
        refine hK _ _ (HC0.out _ (HPR.out.below.trans (BW3.out.mono HPR.out.below.size))) ?_
        clear hK K
        try simp only [Act.put, List.setIfInBounds_toArray, List.set_cons_zero, List.set_cons_succ]
        refine seqH_moveG rfl (by rfl) (fun K hK => ?_)
        refine wp_append_recs (f := putC) _ _ 22 rfl 69 i0 (.agg #[.int .i64 0, .slice none 0 0]) 2 32 Try.underlying22 HI.out.1 HI.out.2.1 HI.out.2.2.1 HI.out.2.2.2 rfl (by omega) (.slice a' k cap') N rfl ((HPR.out.quiet BW3.out).recs) ⟨w2.heap.size, 0, none⟩ 1 1 [⟨xi, a2, xn, cap2, xb.take 130⟩] rfl rfl (fun y hy => rfl) (fun y hy => putC_one y) (put_news (heap_alloc_new w2 _)) (by rw [HNl.out]; unfold maxLen; omega) (by rw [HNl.out]; omega) ?_
        intro v7 w7 hr7 hg7 hv7
        obtain ⟨a7, c7, rfl, _, _⟩ := hr7.form
        have HROW := Lib.hid (HPR.out.snoc BW3.out ⟨xi, a2, xn, cap2, xb.take 130⟩ (HY.out.below ((Below.refl _ _).alloc (Nat.le_refl _) _)) (fun p hp => ⟨(HYN.out p hp).1, by have := (HYN.out p hp).2; simp; omega⟩) hr7 hg7 hv7)
        have hl7 : (N ++ [(⟨xi, a2, xn, cap2, xb.take 130⟩ : PutM)]).length = k + 1 := by rw [List.length_append, HNl.out, List.length_singleton]
        rw [hl7] at HROW
        have HL7 := Lib.hid hl7
        refine hK _ _ (HC0.out _ HROW.out.below) ?_
        rw [hl7]
        clear hK K hr7 hg7 hv7 hl7
        try simp only [Act.put, List.setIfInBounds_toArray, List.set_cons_zero, List.set_cons_succ]
        refine seqH_nil ?_
        go_wp2
        go_roundw
        case rel => exact ⟨k + 1, a7, c7, _, by omega, by go_num, rfl, HL7.out, HROW.out, by rw [HTK.out, List.map_append, HN.out]; rfl⟩
        case measure => simp [intOf]; omega
    · obtain rfl : k = 42 := by omega
      rw [List.take_of_length_le (by simp only [List.length_map]; rw [HML.out]; omega)] at HN
      go_wp2
      go_ret
      exact ⟨a', _, cap', N, rfl, HPR.out.puts, HN.out, HPR.out.below⟩

theorem jfew_any (a : Option Addr) (n cap : Nat) (M : List PutM) (w : World) (h : PutsCame w a n cap M) :
    Calls Try.prog 7 #[.slice a n cap] w (FewTo (fewL (M.map PutM.pt)) w) := by
  by_cases hn : n ≤ 42
  · have e : fewL (M.map PutM.pt) = (M.map PutM.pt).map fun p => (p.1, p.2.take 130) := by
      unfold fewL; rw [List.take_of_length_le (by rw [List.length_map, h.came.1]; exact hn)]
    rw [e]; exact few_small a n cap M w h hn
  · have e : fewL (M.map PutM.pt) = ((M.take 42).map PutM.pt).map fun p => (p.1, p.2.take 130) := by
      unfold fewL; simp only [List.map_take]
    rw [e]; exact few_great a n cap M w h (by omega)

set_option maxRecDepth 100000
open Go.ChangeShapes Go.WideShapes Go.ChangeAt Go.RowKit Go.Deep
open Go.ChangeMaps (open_string shut_string)
def PutM.Good (W : World) (x : PutM) : Prop := BytesAt W x.a x.n x.cap x.b

section
variable {H : Type} {enc : TypeId × Value → H} {W : World} {held : Bool}

theorem put_of {fuel : Nat} {cs : List Value} {y : DataW H × List MemPlace} (h : DataW.trod enc Try.prog W 0 (fun _ => true) held fuel 69 cs = some y) : ∃ x : PutM, cs = putC x ∧ x.Good W := by
  obtain ⟨xs, n, _, _, hlen, hxl, hf⟩ := DataW.trod_struct Try.underlying69 h
  have h2 : cs.length = 2 := hlen.trans (by kernel_rfl)
  have hx2 : xs.length = 2 := hxl.trans (by simp)
  have c1 : Try.prog.cellsOf 3 = 1 := by kernel_rfl
  have c2 : Try.prog.cellsOf 24 = 1 := by kernel_rfl
  match cs, h2, xs, hx2 with
  | [v0, v1], _, [y0, y1], _ =>
    have g0 := hf 0 _ rfl
    have g1 := hf 1 _ rfl
    simp only [c1, c2, List.drop_zero, List.drop_succ_cons, List.take_succ_cons, List.take_zero, List.getElem?_cons_zero, List.getElem?_cons_succ] at g0 g1
    obtain ⟨n0, e0, _, w0⟩ := DataW.trod_int Try.underlying3 g0
    obtain ⟨a, len, cap, l, e1, hb⟩ := trod_bytes g1
    obtain ⟨rfl, _⟩ := List.cons.inj e0
    obtain ⟨rfl, _⟩ := List.cons.inj e1
    exact ⟨⟨n0, a, len, cap, l⟩, rfl, hb⟩

theorem puts_at {n : Nat} {x : Addr} (len cap : Nat) (hl : len ≤ cap) (hm : cap ≤ maxLen)
    (hx : ∀ i, i < len → ∃ (cs : List Value) (n : Nat) (y : DataW H × List MemPlace), cs.length = 2 ∧ (∀ j, j < cs.length → W.cell? (x.add (i * 2 + j)) = cs[j]?) ∧ DataW.trod enc Try.prog W 0 (fun _ => true) held n 69 cs = some y) :
    ∃ L, CameAt putC 2 W (some x) len cap L ∧ ∀ x ∈ L, x.Good W := by
  obtain ⟨B, hB⟩ := choose_lt (α := PutM) (n := len) (p := fun i y => (∀ j, j < 2 → W.cell? (x.add (i * 2 + j)) = (putC y)[j]?) ∧ y.Good W) (fun i hi => by
    obtain ⟨cs, n, y, h1, h2, h3⟩ := hx i hi
    obtain ⟨z, rfl, hz⟩ := put_of h3
    exact ⟨z, fun j hj => h2 j (by simpa [putC] using hj), hz⟩)
  refine ⟨(List.range len).map B, ⟨by simp, hl, hm, fun _ _ => rfl, .inr ⟨x, rfl, fun i j y hi hj => ?_⟩⟩, fun y hy => ?_⟩
  · have hil : i < len := by simpa using (List.getElem?_eq_some_iff.1 hi).1
    simp [hil] at hi
    rw [← hi]
    exact (hB i hil).1 j hj
  · simp only [List.mem_map, List.mem_range] at hy
    obtain ⟨i, hi, rfl⟩ := hy
    exact (hB i hi).2

theorem puts_of {r : Reach} {b0 : Nat} {v : Value} {d : DataW H} {p : List MemPlace} (hv : Value.okWide Try.prog W r b0 22 v) (h : DataW.Trod enc Try.prog W 0 (fun _ => true) held 22 v d p) :
    ∃ a n cap L, v = .slice a n cap ∧ CameAt putC 2 W a n cap L ∧ ∀ x ∈ L, x.Good W := by
  have c2 : Try.prog.cellsOf 69 = 2 := by kernel_rfl
  rcases slice_of Try.underlying22 hv h with rfl | ⟨x, len, cap, rfl, hl, hm, hx⟩
  · exact ⟨_, _, _, [], rfl, CameAt.nil _ _ _, by simp⟩
  · rw [c2] at hx
    obtain ⟨L, h1, h2⟩ := puts_at (n := 0) (x := x) len cap hl hm hx
    exact ⟨_, _, _, L, rfl, h1, h2⟩
end

end Go.Proofs.Ytinfgfgmijjhjaa
