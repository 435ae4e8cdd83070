/-
  A piece of the proof, laid together by program: SpL HtA HtB HtC HtD HtE OctRd.
-/
import Derived.Test.YtjcmphjjkeigjaaGreatPbB
import Derived.Test.YtjcmphjjkeigjaaGreatPbE
import Derived.Test.YtjcmphjjkeigjaaGreatPbF
import Derived.Test.YtjcmphjjkeigjaaGreatPbG
import Derived.BigFrame
import Derived.Deep.MidRow
import Derived.Lib.SlBytesConst
import Derived.Deep.QuietTactic
import Derived.BigQuiet
import Derived.StillTailTactics

namespace Go.Proofs.YtjcmphjjkeigjaaGreat
open Go.ChangeShapes Go.WideShapes Go.ChangeAt Go.RowKit
set_option linter.unusedVariables false
set_option linter.unusedSimpArgs false
set_option maxRecDepth 100000

def zvals (L : List Int) : List Value := L.map fun z => .int .i64 z
theorem zvals_one (l : List Int) : ∀ u ∈ zvals l, u.oneCell' = true := by
  intro u hu
  simp only [zvals, List.mem_map] at hu
  obtain ⟨b, _, rfl⟩ := hu
  rfl
/-- ints laid behind a row of the call's own, whatever slice they come from; the operation may stand behind a guard -/
theorem wpList_append_intsG {w : World} {ops : Array Oper} {rest : List Oper} {o : Oper} {a : Act} {Q : Exit → Act → World → Prop} (hw : Region.wanted o (yielded ops a.tmps) = true) (s x : Operand)
    (ho : o.op = .call { callee := .builtin .append, args := #[s, x], argTypes := #[78, 78] })
    (base : Nat) (v : Value) (n : Nat) (xs : List Value) (hs : a.eval s = v) (hown : w.ownsRow base 3 1 v n xs)
    (sa : Option Addr) (m c : Nat) (l : List Int) (hx : a.eval x = .slice sa m c) (hsrc : IntsAt w sa m c l) (N : Nat) (hN : N = n + m)
    (h63 : N * 8 ≤ 140737488355328) (hbase : base ≤ w.heap.size)
    (h : ∀ a' cap' w', w'.ownsRow base 3 1 (.slice a' N cap') N (xs ++ zvals l) → w.grownBy w' v.ownBlock → wpList Tryz.prog ops Q rest (a.put o.dst (.slice a' N cap')) w') : wpList Tryz.prog ops Q (o :: rest) a w := by
  refine Go.BigFrame.wpList_want hw fun K hK => ?_
  obtain ⟨i0, hi, hz0, hz1, hz2⟩ := info_parts infoIntS
  subst hN
  obtain ⟨h1, h2, h3, h5, h4⟩ := hsrc
  rcases h4 with ⟨rfl, rfl, rfl⟩ | ⟨ad, rfl, hc⟩
  · have : l = [] := List.eq_nil_of_length_eq_zero h1
    subst this
    have hrun := run_append_owned_none (P := Tryz.prog) (w := w) base 78 o.type 3 i0 1 Tryz.underlying78 hi v n xs hown
    unfold Oper.wp
    simp [execOp, ho, resolve, invoke, builtin, hs, hx, hrun, Result.andThen]
    rw [Oper.upon_value]
    obtain ⟨a', cap', rfl⟩ := owned_shape hown
    have := h a' cap' w (by simpa [zvals] using hown) (World.grownBy.refl _ _)
    exact hK _ _ (by simpa using this)
  · subst h1
    refine wp_append_own w s x 78 ho base 3 i0 (.int .i64 0) 1 8 Tryz.underlying78 hi hz0 hz1 hz2 rfl (by decide) v n xs hs hown ad l.length c (zvals l) hx (by simp [zvals]) ?_ (zvals_one l) (by unfold maxLen; omega) (by omega) hbase ?_
    · intro j u hj
      have hj' : j < l.length := by
        have := (List.getElem?_eq_some_iff.1 hj).1
        simpa [zvals] using this
      have := hc j 0 l[j] (List.getElem?_eq_getElem hj') (by omega)
      rw [Nat.mul_one, Nat.add_zero] at this
      rw [this, ← hj]
      simp [intCS, zvals, List.getElem?_eq_getElem hj']
    · intro v' w' ho' hg' _
      obtain ⟨a', cap', rfl⟩ := owned_shape ho'
      exact hK _ _ (h a' cap' w' ho' hg')
theorem build_ints (u : World) : (Instr.buildSlice 78 0 #[]).run Tryz.prog u = .ok (.slice (some ⟨u.heap.size, 0, none⟩) 0 0) (u.alloc (.cells #[] 3)) := by
  obtain ⟨i0, hi, hz0, hz1, hz2⟩ := info_parts infoIntS
  simp [Instr.buildSlice, run_underlying Tryz.underlying78, sizeOf, typeInfo, hi, Instr.fill, newRow, Array.range_zero']

section
variable {u : World} {N : Int} {a : Option Addr} {n cap : Nat} {F : List Bool} {l : List UInt8}
end

section
variable {H : Type} {enc : TypeId × Value → H} {W : World} {base : Nat} {sp : Nat → Bool} {held : Bool}
end

end Go.Proofs.YtjcmphjjkeigjaaGreat

namespace Go.Proofs.YtjcmphjjkeigjaaGreat
open Go.RowKit
set_option linter.unusedVariables false
set_option linter.unusedSimpArgs false
set_option maxRecDepth 100000

theorem hnumber_any (v : Nat) (w : World) (hv : v < 65536) :
    Calls Tryz.prog 144 #[.int .i64 v] w (FreshB id 2 (leB 2 v) w) := by
  have hu : IntKind.u64.wrap (v : Int) = (v : Int) := by rw [IntKind.wrap_u64]; omega
  have CP := Lib.hid (put_ok v 2 w (by omega) (by omega) (by omega))
  go_enter Tryz.func144, Tryz.ntmps144
  go_wp2_with fail
  refine CP.out.mono ?_
  rintro e w1 ⟨a, cap, rfl, ho, hb⟩
  go_wp2
  go_ret
  exact ⟨a, cap, rfl, ho, hb⟩
theorem hpagesFor_any (n : Nat) (w : World) (hn : n ≤ 1000000) :
    Calls Tryz.prog 99 #[.int .i64 n] w fun e w' => e = .returned (.int .i64 (pfor n : Nat)) ∧ w' = w := by
  obtain ⟨q, hq⟩ : ∃ q, q = pfor n := ⟨_, rfl⟩
  have hqj : ((n : Int) + 126 - 1) / 126 = (q : Int) := by rw [hq]; unfold pfor; omega
  rw [← hq]
  clear hq
  go_enter Tryz.func99, Tryz.ntmps99
  go_wp2
  go_ret
  refine ⟨?_, rfl⟩
  show Ending.returned (.int .i64 (((n : Int) + 126 - 1) / 126)) = _
  rw [hqj]
theorem linkTo_any (a : Option Addr) (n cap : Nat) (l : List Nat) (w : World) (h : IntsAt w a n cap (pagesI l)) (hl : ∀ p ∈ l, p < 1000000) :
    Calls Tryz.prog 145 #[.slice a n cap] w fun e w' => e = .returned (.int .i64 (linkN l : Nat)) ∧ w' = w := by
  have hlen : l.length = n := by have := h.1; simpa [pagesI] using this
  cases l with
  | nil =>
    have h0 : n = 0 := by simpa using hlen.symm
    subst h0
    clear h hlen
    go_enter Tryz.func145, Tryz.ntmps145
    go_wp2
    go_ret
    exact ⟨rfl, rfl⟩
  | cons p l =>
    have hn0 : 0 < n := by simp at hlen; omega
    have hne : ¬ (n : Int) = 0 := by omega
    obtain ⟨b, off, rfl, hb, hc⟩ := IntsAt.cell h hn0
    have hc0 := hc 0 hn0
    have hp := hl p (by simp)
    have e0 : (pagesI (p :: l)).getD 0 0 = (p : Int) := rfl
    rw [e0, Nat.add_zero] at hc0
    clear h hl hc hlen e0
    go_enter Tryz.func145, Tryz.ntmps145
    go_wp2
    go_ret
    exact ⟨by simp [linkN], rfl⟩
theorem sizePutH : (Tryz.prog.info? 118).map (·.size) = some 2 := by kernel_rfl
theorem pagePut_any (p : Nat) (v : Value) (w : World) (hp : p < 1000000) (hv : ∃ a n c, v = .slice a n c) :
    Calls Tryz.prog 146 #[.int .i64 p, v] w fun e w' => e = .returned (.agg #[.int .i64 ((42 + p : Nat) : Int), v]) ∧ Below w.heap.size w w' := by
  obtain ⟨a, n, c, rfl⟩ := hv
  have h0 : (42 : Int) + (p : Int) = ((42 + p : Nat) : Int) := by omega
  obtain ⟨q, hq⟩ : ∃ q, q = 42 + p := ⟨_, rfl⟩
  rw [← hq] at h0 ⊢
  clear hq
  go_enter Tryz.func146, Tryz.ntmps146
  go_wp2
  exact bodyPost_ret (v := .agg #[.int .i64 (q : Int), .slice a n c]) (results_cell_row rfl _ _ w.heap.size 118 #[.int .i64 (q : Int), .slice a n c] (0, 0) _ rfl (heap_alloc_new w _) Tryz.underlying118 rfl sizePutH) rfl ⟨rfl, (Below.refl _ _).alloc (Nat.le_refl _) _⟩

section
variable {w : World} {S U : Nat → Prop} {g gd : Nat} {D : Dk} {h : Ht}
/-- what a page has -/
def pageAt (D : Dk) (N p : Nat) : List UInt8 := if p < N then D.content (42 + p) else []
theorem total_any (k : HotAt w S U g gd D h) : Calls Tryz.prog 38 #[.pointer (some ⟨g, 0, none⟩)] w fun e w' => e = .returned (.int .i64 (h.used.length : Nat)) ∧ w' = w := by
  obtain ⟨mb, da, dn, dc, ba, bn, bc, M, hg, hv⟩ := k.ex
  obtain ⟨c0, c1, c2, c3, c4, cf⟩ := hot_cells hg
  clear k hg hv
  go_enter Tryz.func38, Tryz.ntmps38
  go_wp2
  go_ret
  exact ⟨rfl, rfl⟩
theorem has7_any (k : HotAt w S U g gd D h) (q : Nat) (hq : q < 18446744073709551616) : Calls Tryz.prog 48 #[.pointer (some ⟨g, 0, none⟩), .int .u64 q] w fun e w' => e = .returned (.bool (hasL h.at_ q)) ∧ Below w.heap.size w w' := by
  obtain ⟨mb, da, dn, dc, ba, bn, bc, M, hg, hv⟩ := k.ex
  obtain ⟨c0, c1, c2, c3, c4, cf⟩ := hot_cells hg
  obtain ⟨fa, fn, fc, hl, _, _, _⟩ := hv.found q hq
  generalize hasL h.at_ q = bb at *
  generalize lenAt h.at_ q = sz at *
  generalize sumAt h.at_ q = sm at *
  clear k hg hv
  go_enter Tryz.func48, Tryz.ntmps48
  go_wp2
  go_ret
  exact ⟨rfl, (Below.refl _ _).alloc (Nat.le_refl _) _⟩
/-- what Read answers of a page, with the power on: in memory of its own -/
theorem readp_any (k : HotAt w S U g gd D h) (p : Nat) (hp : p < 1000000) (hpw : D.power = true) : Calls Tryz.prog 25 #[.pointer (some ⟨gd, 0, none⟩), .int .i64 ((42 + p : Nat) : Int)] w fun e w' => ∃ a m cap ee, e = .returned (.tuple #[.slice a m cap, .int .i64 ee]) ∧ decide (p < h.used.length) = decide (ee = 0) ∧ BytesAt w' a m cap (pageAt D h.used.length p) ∧ Below w.heap.size w w' ∧ ∀ x, a = some x → w.heap.size ≤ x.block := by
  have hsz := k.size
  by_cases hlt : p < h.used.length
  · refine (read_yes gd (42 + p) D S w k.disk (by omega) hpw).mono fun e w' ⟨a, cap, he, hr, hb, hf⟩ => ⟨a, 128, cap, 0, he, by simp [hlt], by unfold pageAt; rw [if_pos hlt]; exact hr, hb, fun x hx => (hf x hx).1⟩
  · refine (read_range gd _ D S w k.disk (.inr (by omega))).mono fun e w' ⟨he, hw⟩ => ?_
    subst hw
    exact ⟨none, 0, 0, 4, he, by simp [hlt], by unfold pageAt; rw [if_neg hlt]; exact BytesAt.nil _, Below.refl _ _, by simp⟩
theorem read7_any (k : HotAt w S U g gd D h) (p : Nat) (hp : p < 1000000) (hpw : D.power = true) : Calls Tryz.prog 66 #[.pointer (some ⟨g, 0, none⟩), .int .i64 p] w fun e w' => ∃ a m cap, e = .returned (.tuple #[.slice a m cap, .bool (decide (p < h.used.length))]) ∧ BytesAt w' a m cap (pageAt D h.used.length p) ∧ Below w.heap.size w w' ∧ ∀ x, a = some x → w.heap.size ≤ x.block := by
  obtain ⟨mb, da, dn, dc, ba, bn, bc, M, hg, hv⟩ := k.ex
  obtain ⟨c0, c1, c2, c3, c4, cf⟩ := hot_cells hg
  have CR := Lib.hid (readp_any k p hp hpw)
  obtain ⟨q, hq⟩ : ∃ q, q = 42 + p := ⟨_, rfl⟩
  have hqi : (42 : Int) + (p : Int) = (q : Int) := by omega
  rw [← hq] at CR
  clear k hg hv hq
  go_enter Tryz.func66, Tryz.ntmps66
  go_wp2_with fail
  refine CR.out.mono ?_
  rintro e w1 ⟨a, m, cap, ee, rfl, he, hr, hb, hf⟩
  have HR := Lib.hid hr
  have HB := Lib.hid hb
  have HF := Lib.hid hf
  have HE := Lib.hid he
  clear hr hb hf he
  go_wp2
  go_ret2
  refine ⟨a, m, cap, ?_, HR.out, HB.out, HF.out⟩
  rw [HE.out]
  rfl
theorem ids_any (k : HotAt w S U g gd D h) (hf : h.at_.length ≤ 60000) : Calls Tryz.prog 62 #[.pointer (some ⟨g, 0, none⟩)] w (KeysTo (h.at_.map (·.key)) w) := by
  obtain ⟨mb, da, dn, dc, ba, bn, bc, M, hg, hv⟩ := k.ex
  obtain ⟨c0, c1, c2, c3, c4, cf⟩ := hot_cells hg
  have hb0 : Below w.heap.size w (w.alloc (.cells #[.map (some mb)] 99)) := (Below.refl _ _).alloc (Nat.le_refl _) _
  have hml : (mapL M).map (·.1) = h.at_.map (·.key) := by rw [← hv.eq]; simp [mapL]
  have CS := Lib.hid (sortedkeys_any w.heap.size mb (mapL M) _ (by have := congrArg List.length hml; simp only [List.length_map] at this; omega) (heap_alloc_new w (.cells #[.map (some mb)] 99)) (hv.at_.below hb0))
  rw [hml] at CS
  have HB0 := Lib.hid hb0
  clear k hg hv hml hb0
  go_enter Tryz.func62, Tryz.ntmps62
  go_wp2_with fail
  refine (keys_any mb w).mono ?_
  rintro e w1 ⟨rfl, rfl⟩
  go_wp2_with fail
  refine CS.out.mono ?_
  rintro e w2 ⟨v, rfl, hr, hbl, hb⟩
  go_wp2
  go_ret
  exact ⟨v, rfl, hr, fun q hq => by have := hbl q hq; simp at this; omega, HB0.out.trans (hb.mono (by simp))⟩
end

end Go.Proofs.YtjcmphjjkeigjaaGreat

namespace Go.Proofs.YtjcmphjjkeigjaaGreat
open Go.RowKit
set_option linter.unusedVariables false
set_option linter.unusedSimpArgs false
set_option maxRecDepth 100000

/-- the pages that are used, rising, among the first i -/
def usedB (F : List Bool) (i : Nat) : List Nat := (List.range i).filter fun p => F.getD p false
theorem usedB_succ (F : List Bool) (i : Nat) : usedB F (i + 1) = usedB F i ++ (if F.getD i false then [i] else []) := by
  unfold usedB
  rw [List.range_succ, List.filter_append]
  congr 1
  rw [List.filter_cons]
  cases h : F.getD i false <;> rfl
theorem usedB_len (F : List Bool) (i : Nat) : (usedB F i).length ≤ i := by
  have := List.length_filter_le (fun p => F.getD p false) (List.range i)
  simpa [usedB] using this
def usedsL (F : List Bool) : List Nat := usedB F F.length
section
variable {w : World} {S U : Nat → Prop} {g gd : Nat} {D : Dk} {h : Ht}
/-- the cells of a store in a later world -/
theorem HotAt.later (k : HotAt w S U g gd D h) : ∃ mb da dn dc ba bn bc M, (∀ u, Below w.heap.size w u → u.heap[g]? = some (.cells (hotC gd mb da dn dc h.used.length ba bn bc) 103 (0, 0)) ∧ HotV u U mb da dn dc ba bn bc M h) := by
  obtain ⟨mb, da, dn, dc, ba, bn, bc, M, hg, hv⟩ := k.ex
  exact ⟨mb, da, dn, dc, ba, bn, bc, M, fun u hu => ⟨(hu.block g k.lt).trans hg, hv.below hu⟩⟩
theorem hot_space {u : World} {mb : Nat} {da : Option Addr} {dn dc N : Nat} {ba : Option Addr} {bn bc : Nat} (hg : u.heap[g]? = some (.cells (hotC gd mb da dn dc N ba bn bc) 103 (0, 0))) : u.rangeAt g 3 [.int .i64 (N : Nat), .slice ba bn bc] := by
  obtain ⟨_, _, _, c3, c4, _⟩ := hot_cells hg
  intro j x hj
  match j, hj with
  | 0, hj => simp only [List.getElem?_cons_zero, Option.some.injEq] at hj; rw [← hj]; exact c3
  | 1, hj => simp only [List.getElem?_cons_succ, List.getElem?_cons_zero, Option.some.injEq] at hj; rw [← hj]; exact c4
  | j + 2, hj => simp at hj

theorem free7_any (k : HotAt w S U g gd D h) : Calls Tryz.prog 37 #[.pointer (some ⟨g, 0, none⟩)] w fun e w' => e = .returned (.int .i64 ((h.used.length - h.used.count true : Nat) : Int)) ∧ Below w.heap.size w w' := by
  obtain ⟨mb, da, dn, dc, ba, bn, bc, M, hL⟩ := k.later
  have CT := Lib.hid (fun u (hu : Below w.heap.size w u) => total_any (k.below hu))
  have CC := Lib.hid (fun u (hu : Below w.heap.size w u) => count_ok h.used.length ba bn bc h.used u (hL u hu).2.used)
  have HL := Lib.hid hL
  have hc : h.used.count true ≤ h.used.length := List.count_le_length
  have hlen := (hL w (Below.refl _ _)).2.used.len
  have hci : (h.used.length : Int) - (h.used.count true : Nat) = ((h.used.length - h.used.count true : Nat) : Int) := by omega
  generalize h.used.count true = ct at *
  generalize h.used.length = N at *
  have hci2 : IntKind.i64.wrap ((N : Int) - (ct : Int)) = ((N - ct : Nat) : Int) := by rw [IntWalk.i64_in _ (by omega)]; exact hci
  obtain ⟨rr, hrr⟩ : ∃ r, r = N - ct := ⟨_, rfl⟩
  have hrw : IntKind.i64.wrap (rr : Int) = (rr : Int) := IntWalk.i64_in _ (by omega)
  rw [← hrr] at hci hci2 ⊢
  clear k hL hrr
  unfold spV at CC
  go_enter Tryz.func37, Tryz.ntmps37
  go_upto_region 1 with (fail)
  refine region_head 8 [0, 2, 3, 4, 5, 1, 6, 7] [1, 6] (fun u => Below w.heap.size w u) (by kernel_rfl) (by kernel_rfl) ((Below.refl _ _).drew) ?_
  simp only [pickO, List.filterMap_cons, List.filterMap_nil, List.getElem?_cons_zero, List.getElem?_cons_succ, Option.map_some, List.drop_succ_cons, List.drop_zero]
  have hb0 : Below w.heap.size w w.drew := (Below.refl _ _).drew
  generalize w.drew = w0 at *
  refine seqH_read _ rfl rfl (by rintro u hu; go_simp; with_reducible rfl) ?_
  try simp only [Act.put, List.setIfInBounds_toArray, List.set_cons_zero, List.set_cons_succ]
  iterate 3
    refine seqH_read _ rfl rfl (by rintro u hu; obtain ⟨c0, c1, c2, c3, c4, cf⟩ := hot_cells (HL.out u hu).1; clear hu; go_simp; with_reducible rfl) ?_
    try simp only [Act.put, List.setIfInBounds_toArray, List.set_cons_zero, List.set_cons_succ]
  refine seqH_load_mid rfl rfl 101 _ rfl g 3 rfl [.int .i64 (N : Nat), .slice ba bn bc] _ (fun u hu => hot_space (HL.out u hu).1) Tryz.underlying101 rfl sizeSp ?_
  try simp only [Act.put, List.setIfInBounds_toArray, List.set_cons_zero, List.set_cons_succ]
  refine seqH_move rfl rfl (fun K hK => ?_)
  go_simp
  refine (CT.out w0 hb0).mono ?_
  rintro e w1 ⟨rfl, rfl⟩
  refine hK _ _ hb0 ?_
  clear hK K
  try simp only [Act.put, List.setIfInBounds_toArray, List.set_cons_zero, List.set_cons_succ]
  refine seqH_move rfl rfl (fun K hK => ?_)
  go_simp
  refine (CC.out w1 hb0).mono ?_
  rintro e w2 ⟨rfl, hb⟩
  have hb2 : Below w.heap.size w w2 := hb0.trans (hb.mono hb0.size)
  refine hK _ _ hb2 ?_
  clear hK K
  try simp only [Act.put, List.setIfInBounds_toArray, List.set_cons_zero, List.set_cons_succ]
  refine seqH_read (.int .i64 (rr : Int)) rfl rfl (by rintro u hu; clear hu; go_simp; try rw [hrw]) ?_
  try simp only [Act.put, List.setIfInBounds_toArray, List.set_cons_zero, List.set_cons_succ]
  refine seqH_nil ?_
  go_wp2
  go_ret
  exact ⟨rfl, hb2⟩

/-- pages, in memory of the call's own -/
def IntsTo (P : List Nat) (w : World) (e : Ending) (w' : World) : Prop := ∃ a cap, e = .returned (.slice a P.length cap) ∧ w'.ownsRow w.heap.size 3 1 (.slice a P.length cap) P.length (ivals P) ∧ Below w.heap.size w w'

set_option maxHeartbeats 2000000 in
theorem used7_any (k : HotAt w S U g gd D h) : Calls Tryz.prog 36 #[.pointer (some ⟨g, 0, none⟩)] w (IntsTo (usedsL h.used) w) := by
  obtain ⟨mb, da, dn, dc, ba, bn, bc, M, hL⟩ := k.later
  have CT := Lib.hid (total_any k)
  have CU := Lib.hid (fun (p : Int) u (hu : Below w.heap.size w u) => used_ok p h.used.length ba bn bc h.used u (hL u hu).2.used)
  have HL := Lib.hid hL
  have hlen := (hL w (Below.refl _ _)).2.used.len
  have HF := Lib.hid (show usedsL h.used = usedB h.used h.used.length from rfl)
  generalize h.used = F at *
  generalize hN : F.length = N at *
  rw [HF.out]
  clear k hL HF hN
  unfold spV at CU
  go_enter Tryz.func36, Tryz.ntmps36
  go_wp2_with fail
  refine CT.out.mono ?_
  rintro e w1 ⟨rfl, rfl⟩
  go_wp2
  go_loopw [3, 7] (fun x i wr => ∃ (j a cap : _) (n : Nat), n = (usedB F j).length ∧ j ≤ N ∧ i = .int .i64 (j : Nat) ∧ x = .slice a n cap ∧ wr.ownsRow w1.heap.size 3 1 (.slice a n cap) n (ivals (usedB F j)) ∧ Below w1.heap.size w1 wr) (fun _ i _ => N - (intOf i).toNat)
  case atStart => exact ⟨0, none, 0, 0, rfl, Nat.zero_le _, rfl, rfl, World.ownsRow_nil _ _ _ _, Below.refl _ _⟩
  case round =>
    obtain ⟨j, a, cap, n, hn, hj, rfl, rfl, hr, hb⟩ := hrel
    have HR := Lib.hid hr
    have HB := Lib.hid hb
    have hnj : n ≤ j := by rw [hn]; exact usedB_len F j
    have HN := Lib.hid hn
    clear hr hb hn
    by_cases hlt : j < N
    · have hlti : (j : Int) < (N : Int) := by omega
      have hsc := usedB_succ F j
      have HSC := Lib.hid hsc
      obtain ⟨c0, c1, c2, c3, c4, cf⟩ := hot_cells (HL.out wr HB.out).1
      have hsp := hot_space (HL.out wr HB.out).1
      have HSP := Lib.hid hsp
      have CU1 := CU.out (j : Int) wr HB.out
      have hdj : decide (0 ≤ (j : Int)) = true := by simp
      rw [hdj, Bool.true_and, Int.toNat_natCast] at CU1
      obtain ⟨bb, hbb⟩ : ∃ bb, bb = F.getD j false := ⟨_, rfl⟩
      rw [← hbb] at CU1 HSC
      have CU2 := Lib.hid CU1
      clear hsc hsp CU1 hdj hbb
      go_wp2_with (refine wpList_load_mid rfl 101 _ rfl g 3 rfl [.int .i64 (N : Nat), .slice ba bn bc] _ HSP.out Tryz.underlying101 rfl sizeSp ?_)
      refine CU2.out.mono ?_
      rintro e w2 ⟨rfl, hb2⟩
      have HB2 := Lib.hid (HB.out.trans (hb2.mono HB.out.size))
      have HR2 := Lib.hid (owned_below HR.out hb2)
      cases bb with
      | false =>
        have hse : usedB F (j + 1) = usedB F j := by rw [HSC.out]; simp
        have HSE := Lib.hid hse
        clear hse hb2 c0 c1 c2 c3 c4 cf
        go_wp2_with fail
        go_roundw
        case rel => exact ⟨j + 1, a, cap, n, by rw [HSE.out]; exact HN.out, by omega, by first | rfl | simp, rfl, by rw [HSE.out]; exact HR2.out, HB2.out⟩
        case measure => simp only [intOf]; omega
      | true =>
        have hse : usedB F (j + 1) = usedB F j ++ [j] := by rw [HSC.out]; simp
        have HSE := Lib.hid hse
        clear hse hb2 c0 c1 c2 c3 c4 cf
        go_wp2_with (at_builtin; go_loud (refine wpList_append_intsG (by rfl) (.tmp 16) (.tmp 18) rfl w1.heap.size _ n _ rfl (HR2.out.alloc _) (some ⟨w2.heap.size, 0, none⟩) 1 1 [(j : Int)] rfl (ints1 w2 (j : Int)) (n + 1) rfl (by omega) (by have := HB2.out.size; simp; omega) ?_; intro a' cap' w3 ho3 hg3))
        go_roundw
        case rel =>
          refine ⟨j + 1, a', cap', n + 1, by rw [HSE.out]; simp [HN.out], by omega, by first | rfl | simp, rfl, ?_, ?_⟩
          · rw [HSE.out]
            simpa [ivals, zvals] using ho3
          · exact HB2.out.trans (((Only.alloc (S := fun q => (Value.slice a n cap).ownBlock = some q) w2 _).trans (Only.of_grown (S := fun q => (Value.slice a n cap).ownBlock = some q) hg3 fun q e => e) fun _ _ e => e).below HB2.out.size fun q hq e => by have := (HR2.out.lt q e).1; omega)
        case measure => simp only [intOf]; omega
    · have hlti : ¬ (j : Int) < (N : Int) := by omega
      have hjN : j = N := by omega
      subst hjN
      have hn2 := HN.out
      subst hn2
      go_wp2
      go_ret
      exact ⟨a, cap, rfl, HR.out, HB.out⟩
end

end Go.Proofs.YtjcmphjjkeigjaaGreat

namespace Go.Proofs.YtjcmphjjkeigjaaGreat
open Go.RowKit
set_option linter.unusedVariables false
set_option linter.unusedSimpArgs false
set_option maxRecDepth 100000

def HotTo (v : Value) (S U : Nat → Prop) (g gd : Nat) (D : Dk) (h' : Ht) (w : World) (e : Ending) (w' : World) : Prop :=
  e = .returned v ∧ ∃ U', HotAt w' S U' g gd D h' ∧ Only (fun q => q = g) w w' ∧ ∀ k, U' k → U k ∨ w.heap.size ≤ k

theorem turnF_err (st : Bool) (e : Int) (he : e ≠ 0) : ∀ (L : List Int) (F : List Bool), ((turnF st e F L).1 = none → (turnF st e F L).2 ≠ 0) ∧ (∀ F', (turnF st e F L).1 = some F' → (turnF st e F L).2 = 0 ∧ F'.length = F.length)
  | [], F => ⟨fun h => by simp [turnF] at h, fun F' h => by simp [turnF] at h ⊢; rw [h]⟩
  | p :: L, F => by
    unfold turnF
    split
    · exact ⟨fun _ => by simp, fun F' h => by simp at h⟩
    · split
      · exact ⟨fun _ => he, fun F' h => by simp at h⟩
      · have ih := turnF_err st e he L (F.set p.toNat !st)
        exact ⟨ih.1, fun F' h => by obtain ⟨h1, h2⟩ := ih.2 F' h; rw [List.length_set] at h2; exact ⟨h1, h2⟩⟩

theorem hot_there {w : World} {g gd : Nat} {mb : Nat} {da : Option Addr} {dn dc N : Nat} {ba : Option Addr} {bn bc : Nat} (hg : w.heap[g]? = some (.cells (hotC gd mb da dn dc N ba bn bc) 103 (0, 0))) : w.there g 3 2 := by
  obtain ⟨_, _, _, c3, c4, cf⟩ := hot_cells hg
  intro j hj
  have h2 : j = 0 ∨ j = 1 := by omega
  rcases h2 with rfl | rfl
  · exact ⟨by rw [c3]; rfl, cf _⟩
  · exact ⟨by rw [c4]; rfl, cf _⟩
theorem hot_stored {w : World} {g gd : Nat} {mb : Nat} {da : Option Addr} {dn dc N : Nat} {ba : Option Addr} {bn bc : Nat} (hg : w.heap[g]? = some (.cells (hotC gd mb da dn dc N ba bn bc) 103 (0, 0))) (N' : Nat) (a : Option Addr) (n c : Nat) :
    (w.setCells g 3 [.int .i64 (N' : Nat), .slice a n c]).heap[g]? = some (.cells (hotC gd mb da dn dc N' a n c) 103 (0, 0)) ∧ Only (fun q => q = g) w (w.setCells g 3 [.int .i64 (N' : Nat), .slice a n c]) := by
  have h1 := heap_setCell_same w g 3 _ _ (.int .i64 (N' : Nat)) hg
  have h2 := heap_setCell_same (w.setCell ⟨g, 3, none⟩ (.int .i64 (N' : Nat))) g 4 _ _ (.slice a n c) h1
  exact ⟨h2, (Only.setCell (S := fun q => q = g) w ⟨g, 3, none⟩ _ rfl).trans (Only.setCell (S := fun q => q = g) _ ⟨g, 4, none⟩ _ rfl) fun _ _ e => e⟩

section
variable {w : World} {S U : Nat → Prop} {g gd : Nat} {D : Dk} {h : Ht}

def ClaimTo (r : Option (List Bool)) (S U : Nat → Prop) (g gd : Nat) (D : Dk) (h : Ht) (w : World) (e : Ending) (w' : World) : Prop :=
  (∃ F', r = some F' ∧ HotTo (.bool true) S U g gd D { h with used := F' } w e w') ∨ (r = none ∧ e = .returned (.bool false) ∧ Below w.heap.size w w')

set_option maxHeartbeats 2000000 in
theorem claim_any (k : HotAt w S U g gd D h) (la : Option Addr) (ln lc : Nat) (L : List Nat) (hl : IntsAt w la ln lc (pagesI L)) :
    Calls Tryz.prog 121 #[.pointer (some ⟨g, 0, none⟩), .slice la ln lc] w (ClaimTo (turnF false 15 h.used (pagesI L)).1 S U g gd D h w) := by
  obtain ⟨mb, da, dn, dc, ba, bn, bc, M, hg, hv⟩ := k.ex
  obtain ⟨c0, c1, c2, c3, c4, cf⟩ := hot_cells hg
  have hsp := hot_space hg
  have CM := Lib.hid (mark_ok h.used.length ba bn bc h.used la ln lc (pagesI L) w hv.used hl)
  have HTE := Lib.hid (turnF_err false 15 (by omega) (pagesI L) h.used)
  have HK := Lib.hid k
  have HG := Lib.hid hg
  have HV := Lib.hid hv
  have hglt := k.lt
  have HSP := Lib.hid hsp
  have HUL := Lib.hid (show h.used.length ≤ 2048 from hv.used.len)
  unfold spV at CM
  clear k hv hg hl hsp
  generalize (turnF false 15 h.used (pagesI L)).1 = r at *
  generalize (turnF false 15 h.used (pagesI L)).2 = er at *
  generalize hN : h.used.length = N at *
  have HNN := Lib.hid hN
  clear hN
  go_enter Tryz.func121, Tryz.ntmps121
  go_wp2_with (refine wpList_load_mid rfl 101 _ rfl g 3 rfl [.int .i64 (N : Nat), .slice ba bn bc] _ HSP.out Tryz.underlying101 rfl sizeSp ?_)
  refine CM.out.mono ?_
  rintro e w1 ⟨a1, n1, cp1, rfl, ho1, hb1⟩
  have HO1 := Lib.hid ho1
  have HB1 := Lib.hid hb1
  unfold spV
  have hb2 : Below w.heap.size w (w1.alloc (.cells #[.int .i64 (((r.getD []).length : Nat) : Int), .slice a1 n1 cp1] 101)) := hb1.trans (((Below.refl w1.heap.size w1).alloc (Nat.le_refl _) _).mono hb1.size)
  have HB2 := Lib.hid hb2
  cases r with
  | none =>
    have he : er ≠ 0 := HTE.out.1 rfl
    have hei : ¬ er = 0 := he
    clear ho1 hb1 hb2 c0 c1 c2 c3 c4 cf he
    go_wp2
    go_ret
    exact Or.inr ⟨rfl, rfl, HB2.out⟩
  | some F' =>
    have he : er = 0 := (HTE.out.2 F' rfl).1
    have hfl : F'.length = N := (HTE.out.2 F' rfl).2
    have HFL := Lib.hid hfl
    subst he
    simp only [Option.getD_some] at ho1 hb2 HB2 HO1 ⊢
    have hg2 := (hb2.block g hglt).trans HG.out
    have hth := hot_there hg2
    have hst := hot_stored hg2 F'.length a1 n1 cp1
    have HTH := Lib.hid hth
    have HST := Lib.hid hst
    clear ho1 hb1 hb2 c0 c1 c2 c3 c4 cf hg2 hth hst hfl
    go_wp2_with (refine wpList_store_mid rfl 101 _ _ rfl g 3 #[.int .i64 ((F'.length : Nat) : Int), .slice a1 n1 cp1] rfl rfl HTH.out sizeSp (by simp [Value.oneCell']) ?_)
    go_ret
    refine Or.inl ⟨F', rfl, rfl, fun q => U q ∨ (w.heap.size ≤ q ∧ q < w1.heap.size), ?_, ?_, fun q hq => hq.imp id fun hh => hh.1⟩
    · have ho := HST.out.2
      have hpost := HST.out.1
      have hOn : Only (fun q => q = g) w ((w1.alloc (.cells #[.int .i64 ((F'.length : Nat) : Int), .slice a1 n1 cp1] 101)).setCells g 3 [.int .i64 ((F'.length : Nat) : Int), .slice a1 n1 cp1]) := (Only.of_below HB2.out).trans ho fun _ _ e => e
      have hvv := HV.out.only hOn fun q hq e => HK.out.offU (e ▸ hq)
      have howb : (w1.alloc (.cells #[.int .i64 ((F'.length : Nat) : Int), .slice a1 n1 cp1] 101)).ownsRow w.heap.size 5 1 (.slice a1 n1 cp1) n1 (vals (packB F')) := owned_below HO1.out ((Below.refl _ _).alloc (Nat.le_refl _) _)
      have hblk : ∀ p, a1 = some p → w.heap.size ≤ p.block ∧ p.block < w1.heap.size := fun p hp => by
        subst hp
        have hx := HO1.out.lt p.block (by simp [Value.ownBlock])
        exact hx
      have hby := (BytesAt.owned howb).only ho fun x hx => by have := hblk x hx; omega
      refine ⟨HK.out.disk.only hOn fun q hq e => HK.out.offS (e ▸ hq), ⟨mb, da, dn, dc, a1, n1, cp1, M, hpost, ⟨hvv.at_, hvv.eq, hvv.pages, hvv.dir, ⟨by show F'.length ≤ 2048; rw [HFL.out]; exact HUL.out, rfl, hby⟩, fun q hq => ?_, .inl hvv.inM, fun x hx p hp => .inl (hvv.inP x hx p hp), fun p hp => .inl (hvv.inD p hp), fun p hp => .inr (hblk p hp)⟩⟩, fun q hq hS => ?_, HK.out.offS, fun hq => ?_, by show F'.length + 42 = _; rw [HFL.out, ← HNN.out]; exact HK.out.size⟩
      · rcases hq with hq | hq
        · exact hvv.lt q hq
        · have := ho.size; simp at this; omega
      · rcases hq with hq | hq
        · exact HK.out.apart q hq hS
        · have := HK.out.disk.lt q hS; omega
      · rcases hq with hq | hq
        · exact HK.out.offU hq
        · omega
    · exact (Only.of_below HB2.out).trans HST.out.2 fun _ _ e => e
end

end Go.Proofs.YtjcmphjjkeigjaaGreat

namespace Go.Proofs.YtjcmphjjkeigjaaGreat
open Go.RowKit
set_option linter.unusedVariables false
set_option linter.unusedSimpArgs false
set_option maxRecDepth 100000

/-- what is read so far, before what is left of a chain -/
def chainPre (P : List Nat) (X : List UInt8) : Option (List Nat × List UInt8) → Option (List Nat × List UInt8)
  | none => none
  | some r => some (P ++ r.1, X ++ r.2)
theorem chainPre_nil (o : Option (List Nat × List UInt8)) : chainPre [] [] o = o := by cases o <;> rfl
theorem chain_zero (D : Dk) (N : Nat) (P : List Nat) (X : List UInt8) (n : Nat) : chainPre P X (chainOf D N (n + 1) 0) = none := by simp [chainOf, chainPre]
theorem chain_out (D : Dk) (N : Nat) (P : List Nat) (X : List UInt8) (n p : Nat) (h : ¬ p < N) : chainPre P X (chainOf D N (n + 1) (p + 1)) = none := by
  simp only [chainOf]; rw [if_pos (by omega)]; rfl
theorem chain_step (D : Dk) (N : Nat) (P : List Nat) (X : List UInt8) (n p : Nat) (h : p < N) :
    chainPre P X (chainOf D N (n + 1) (p + 1)) = chainPre (P ++ [p]) (X ++ (D.content (42 + p)).drop 2) (chainOf D N n (le ((D.content (42 + p)).take 2))) := by
  simp only [chainOf]
  rw [if_neg (by omega), show 41 + (p + 1) = 42 + p by omega]
  cases chainOf D N n (le ((D.content (42 + p)).take 2)) with
  | none => rfl
  | some r => simp [chainPre]
theorem chain_end (D : Dk) (N : Nat) (P : List Nat) (X : List UInt8) (lk : Nat) : chainPre P X (chainOf D N 0 lk) = if lk = 0 then some (P, X) else none := by
  simp only [chainOf]
  split <;> simp [chainPre]

def ChainTo (r : Option (List Nat × List UInt8)) (w : World) (e : Ending) (w' : World) : Prop :=
  Below w.heap.size w w' ∧ ((r = none ∧ ∃ v, e = .returned (.tuple #[v, .bool false])) ∨
    ∃ P X a cap, r = some (P, X) ∧ e = .returned (.tuple #[.slice a P.length cap, .bool true]) ∧ w'.ownsRow w.heap.size 3 1 (.slice a P.length cap) P.length (ivals P))

section
variable {w : World} {S U : Nat → Prop} {g gd : Nat} {D : Dk} {h : Ht}
set_option maxHeartbeats 4000000 in
theorem chain_any (k : HotAt w S U g gd D h) (hp : D.power = true) (link n : Nat) (hlk : link < 65536) (hn : n ≤ 100) :
    Calls Tryz.prog 123 #[.pointer (some ⟨g, 0, none⟩), .int .i64 link, .int .i64 n] w (ChainTo (chainOf D h.used.length n link) w) := by
  have CR := Lib.hid (fun (p : Nat) (hq : p < 1000000) u (hu : Below w.heap.size w u) => read7_any (k.below hu) p hq hp)
  have HSZ := Lib.hid k.size
  have HOK := Lib.hid k.disk.ok
  generalize h.used.length = N at *
  obtain ⟨R, hR⟩ : ∃ R, R = chainOf D N n link := ⟨_, rfl⟩
  have HR := Lib.hid ((chainPre_nil _).trans hR.symm)
  rw [← hR]
  clear k hR
  go_enter Tryz.func123, Tryz.ntmps123
  go_wp2
  go_loopw [1, 8, 15] (fun s1 s8 s15 wr => ∃ (lk j a cap : _) (P : List Nat) (X : List UInt8) (m : Nat), s1 = .int .i64 (lk : Nat) ∧ s15 = .int .i64 (j : Nat) ∧ s8 = .slice a m cap ∧ m = P.length ∧ m = j ∧ j ≤ n ∧ lk < 65536 ∧ wr.ownsRow w.heap.size 3 1 (.slice a m cap) m (ivals P) ∧ Below w.heap.size w wr ∧ chainPre P X (chainOf D N (n - j) lk) = R) (fun _ _ s15 _ => n - (intOf s15).toNat)
  case atStart => exact ⟨link, 0, none, 0, [], [], 0, rfl, rfl, rfl, rfl, rfl, Nat.zero_le _, hlk, World.ownsRow_nil _ _ _ _, Below.refl _ _, HR.out⟩
  case round =>
    clear HR
    obtain ⟨lk, j, a, cap, P, X, m, rfl, rfl, rfl, hmP, hmj, hj, hlk2, hr, hb, hch⟩ := hrel
    have HRW := Lib.hid hr
    have HB := Lib.hid hb
    have HCH := Lib.hid hch
    have HMP := Lib.hid hmP
    have HMJ := Lib.hid hmj
    have hm100 : m ≤ 100 := by omega
    clear hr hb hch hmP hmj
    by_cases hlt : j < n
    · have hlti : (j : Int) < (n : Int) := by omega
      obtain ⟨q, hq⟩ : ∃ q, n - j = q + 1 := ⟨n - j - 1, by omega⟩
      rw [hq] at HCH
      have HQ := Lib.hid hq
      clear hq
      by_cases hl0 : lk = 0
      · subst hl0
        have hnone := HCH.out
        rw [chain_zero] at hnone
        have HN := Lib.hid hnone
        clear hnone
        go_wp2_with fail
        go_ret2
        exact ⟨HB.out, .inl ⟨HN.out.symm, _, rfl⟩⟩
      · have hl0i : ¬ (lk : Int) = 0 := by omega
        obtain ⟨p, hpk⟩ : ∃ p, lk = p + 1 := ⟨lk - 1, by omega⟩
        have hpi : (lk : Int) - 1 = (p : Int) := by omega
        have hp6 : p < 1000000 := by omega
        rw [hpk] at HCH
        clear hpk hl0
        have CR1 := Lib.hid (CR.out p hp6 wr HB.out)
        go_wp2_with fail
        refine CR1.out.mono ?_
        rintro e w1 ⟨ra, rm, rc, rfl, hrb, hb1, hfr⟩
        have HB1 := Lib.hid (HB.out.trans (hb1.mono HB.out.size))
        have HR1 := Lib.hid (owned_below HRW.out hb1)
        by_cases hpN : p < N
        · have hdp : decide (p < N) = true := by simpa using hpN
          rw [hdp]
          have hpg : pageAt D N p = D.content (42 + p) := by unfold pageAt; rw [if_pos hpN]
          rw [hpg] at hrb
          have h128 : (D.content (42 + p)).length = 128 := HOK.out.content _ (by have := HSZ.out; omega)
          have hst := HCH.out
          rw [chain_step D N P X q p hpN] at hst
          have HST := Lib.hid hst
          obtain ⟨nl, hnl⟩ : ∃ nl, nl = le ((D.content (42 + p)).take 2) := ⟨_, rfl⟩
          have hnl6 : nl < 65536 := by
            rw [hnl]
            have := le_lt ((D.content (42 + p)).take 2)
            rw [List.length_take, h128] at this
            exact this
          rw [← hnl] at HST
          generalize D.content (42 + p) = pg at *
          have hrm : rm = 128 := by have := hrb.1; omega
          subst hrm
          have HRB := Lib.hid hrb
          have HFR := Lib.hid hfr
          have hsz1 := hb1.size
          clear hrb hb1 hdp hpg hst h128 hfr
          go_wp2_with (at_builtin; refine wpList_append_intsG (by rfl) (.tmp 29) (.tmp 31) rfl w.heap.size _ m _ rfl (HR1.out.alloc _) (some ⟨w1.heap.size, 0, none⟩) 1 1 [(p : Int)] rfl (ints1 w1 (p : Int)) (m + 1) rfl (by omega) (by have := HB1.out.size; simp; omega) ?_; intro a' cap' w3 ho3 hg3)
          have hon : Only (fun q => (Value.slice a m cap).ownBlock = some q) w1 w3 := (Only.alloc (S := fun q => (Value.slice a m cap).ownBlock = some q) w1 _).trans (Only.of_grown (S := fun q => (Value.slice a m cap).ownBlock = some q) hg3 fun q e => e) fun _ _ e => e
          have HB3 := Lib.hid (HB1.out.trans (hon.below HB1.out.size fun q hq e => by have := (HR1.out.lt q e).1; omega))
          have HRB3 := Lib.hid (HRB.out.only hon fun x hx e => by have h1 := HFR.out x hx; have h2 := (HRW.out.lt x.block e).2; omega)
          have CN := Lib.hid (num_ok ra 128 rc pg 0 2 w3 (by omega) (by omega) (by omega) HRB3.out)
          rw [List.drop_zero, ← hnl] at CN
          have HO3 := Lib.hid ho3
          clear hon ho3 hg3 hnl
          refine CN.out.mono ?_
          rintro e w4 ⟨rfl, rfl⟩
          have hnw : IntKind.i64.wrap (nl : Int) = (nl : Int) := IntWalk.i64_in _ (by omega)
          go_wp2_with fail
          go_roundw
          case rel =>
            refine ⟨nl, j + 1, a', cap', P ++ [p], X ++ pg.drop 2, m + 1, rfl, by first | rfl | simp, rfl, by simp [HMP.out], by have := HMJ.out; omega, by omega, hnl6, ?_, HB3.out, ?_⟩
            · simpa [ivals, zvals] using HO3.out
            · rw [show n - (j + 1) = q by have := HQ.out; omega]; exact HST.out
          case measure => simp only [intOf]; omega
        · have hdp : decide (p < N) = false := by simpa using hpN
          rw [hdp]
          have hnone := HCH.out
          rw [chain_out D N P X q p hpN] at hnone
          have HN := Lib.hid hnone
          clear hnone hrb hb1 hdp
          go_wp2_with fail
          go_ret2
          exact ⟨HB1.out, .inl ⟨HN.out.symm, _, rfl⟩⟩
    · have hlti : ¬ (j : Int) < (n : Int) := by omega
      have hq : n - j = 0 := by omega
      rw [hq] at HCH
      have he := HCH.out
      rw [chain_end] at he
      have HE := Lib.hid he
      clear he hq
      by_cases hl0 : lk = 0
      · have HE2 := Lib.hid (show some (P, X) = R by have := HE.out; rwa [if_pos hl0] at this)
        subst hl0
        go_wp2_with fail
        go_ret2
        have hm2 := HMP.out
        exact ⟨HB.out, .inr ⟨P, X, a, cap, HE2.out.symm, by rw [← hm2]; rfl, by rw [← hm2]; exact HRW.out⟩⟩
      · have hl0i : ¬ (lk : Int) = 0 := by omega
        have HE2 := Lib.hid (show none = R by have := HE.out; rwa [if_neg hl0] at this)
        have HL0 := Lib.hid hl0
        clear hl0
        go_wp2_with fail
        go_ret2
        exact ⟨HB.out, .inl ⟨HE2.out.symm, .slice a m cap, by have := HL0.out; simp [this]⟩⟩
end

end Go.Proofs.YtjcmphjjkeigjaaGreat

namespace Go.Proofs.YtjcmphjjkeigjaaGreat
open Go.RowKit
set_option linter.unusedVariables false
set_option linter.unusedSimpArgs false
set_option maxRecDepth 100000

/-- the superblock's octets, as far as the first j numbers -/
def superK (dir : List Nat) (j : Nat) : List UInt8 := (markH ++ leB 2 dir.length) ++ (dir.take j).flatMap (leB 2)
theorem superK_length (dir : List Nat) (j : Nat) (hj : j ≤ dir.length) : (superK dir j).length = 6 + 2 * j := by
  have : ((dir.take j).flatMap (leB 2)).length = 2 * (dir.take j).length := flatMap_lenT (leB 2) 2 _ (fun x _ => leB_length 2 x)
  rw [List.length_take, Nat.min_eq_left hj] at this
  simp [superK, markH, leB_length, this]; omega
theorem superK_succ (dir : List Nat) (j : Nat) (hj : j < dir.length) : superK dir (j + 1) = superK dir j ++ leB 2 (dir.getD j 0) := by
  unfold superK
  rw [List.take_succ_eq_append_getElem hj, List.flatMap_append, List.append_assoc, List.append_assoc, List.append_assoc]
  congr 3
  simp [List.getD, List.getElem?_eq_getElem hj]
theorem superK_all (dir : List Nat) : superK dir dir.length = superRaw dir := by
  unfold superK superRaw
  rw [List.take_length, List.append_assoc]

theorem markH_at (w w1 : World) (hb : Below (w.alloc (.cells #[.int .u8 104, .int .u8 115, .int .u8 117, .int .u8 112] 5 (4, 5))).heap.size (w.alloc (.cells #[.int .u8 104, .int .u8 115, .int .u8 117, .int .u8 112] 5 (4, 5))) w1) :
    BytesAt w1 (some ⟨w.heap.size, 0, none⟩) 4 4 markH := by
  refine BytesAt.of_cells rfl (Nat.le_refl _) (by unfold maxLen; omega) fun i hi => ?_
  rw [Nat.zero_add, cell_of_row _ _ i _ _ _ ((hb.block w.heap.size (by simp)).trans (heap_alloc_new w _))]
  match i, hi with
  | 0, _ => rfl
  | 1, _ => rfl
  | 2, _ => rfl
  | 3, _ => rfl

set_option maxHeartbeats 4000000 in
theorem superH_own (a : Option Addr) (n cap : Nat) (dir : List Nat) (w : World) (h : IntsAt w a n cap (pagesI dir)) (hd : ∀ p ∈ dir, p < 65536) (hn : n < 65536) :
    Calls Tryz.prog 102 #[.slice a n cap] w fun e w' => ∃ a' m c, e = .returned (.slice a' m c) ∧ BytesAt w' a' m c (superL dir) ∧ Below w.heap.size w w' ∧ (∀ x, a' = some x → w.heap.size ≤ x.block) ∧ OctO w' (.slice a' m c) (superL dir) := by
  have HI := Lib.hid h
  have hlen : dir.length = n := by have := h.1; simpa [pagesI] using this
  have HK := Lib.hid (fun j (hj : j ≤ dir.length) => superK_length dir j hj)
  have HKS := Lib.hid (fun j (hj : j < dir.length) => superK_succ dir j hj)
  have HKA := Lib.hid (superK_all dir)
  have HD := Lib.hid (fun j (hj : j < dir.length) => hd (dir.getD j 0) (by rw [List.getD, List.getElem?_eq_getElem hj]; exact List.getElem_mem hj))
  have HLN := Lib.hid hlen
  have CN := Lib.hid (fun (v : Nat) u (hv : v < 65536) => hnumber_any v u hv)
  have kc := fun (w : World) (C : Array Value) (n c : Nat) => Lib.run_convert_bytes_const (P := Tryz.prog) w 49 5 C n c Tryz.underlying49 Tryz.underlying5
  clear h hd hlen
  go_enter Tryz.func102, Tryz.ntmps102
  go_wp2_with fail
  refine (CN.out n _ hn).mono ?_
  rintro e w1 ⟨a1, c1, rfl, ho1, hb1⟩
  have BM := Lib.hid (markH_at w w1 hb1)
  have BE1 := Lib.hid (((Below.refl _ _).alloc (Nat.le_refl _) _).trans (hb1.mono (by simp)) : Below w.heap.size w w1)
  have BO1 := Lib.hid (BytesAt.owned ho1)
  clear ho1 hb1 kc
  go_wp2_with (refine wpList_buildSliceV rfl 190 2 _ rfl #[(0, .slice (some ⟨w.heap.size, 0, none⟩) 4 4), (1, .slice a1 2 c1)] (by simp [go_sem]) _ _ (built2 _ _ _ _ _ _ _) ?_)
  have hk0 : [markH, leB 2 n].flatten = superK dir 0 := by unfold superK; rw [HLN.out]; simp
  have hba : Below w1.heap.size w1 (w1.alloc (.cells #[.slice (some ⟨w.heap.size, 0, none⟩) 4 4, .slice a1 2 c1] 49)) := (Below.refl _ _).alloc (Nat.le_refl _) _
  have C3 := Lib.hid (concat_to (some ⟨w1.heap.size, 0, none⟩) 2 2 6 [markH, leB 2 n] (superK dir 0) _ (rows2 (heap_alloc_new w1 (.cells #[.slice (some ⟨w.heap.size, 0, none⟩) 4 4, .slice a1 2 c1] 49)) (BM.out.below hba) (BO1.out.below hba)) hk0 (by rw [HK.out 0 (Nat.zero_le _)]) (by omega) (by omega))
  have BEA := Lib.hid (BE1.out.trans (hba.mono BE1.out.size))
  clear hk0 hba
  refine (C3.out).mono ?_
  rintro e w3 ⟨a3, c3, rfl, ho3, hb3⟩
  have HB3 := Lib.hid (BEA.out.trans (hb3.mono BEA.out.size))
  have HO3 := Lib.hid (owned_base ho3 BEA.out.size)
  clear ho3 hb3 C3 BM BO1 BE1
  go_wp2
  go_loopw [3, 17] (fun x i wr => ∃ (j : Nat) (a' : Option Addr) (N cap' : Nat), N = 6 + 2 * j ∧ j ≤ n ∧ i = .int .i64 (j : Nat) ∧ x = .slice a' N cap' ∧ wr.ownsRow w.heap.size 5 1 (.slice a' N cap') N (vals (superK dir j)) ∧ Below w.heap.size w wr) (fun _ i _ => n - (intOf i).toNat)
  case atStart => exact ⟨0, a3, 6, c3, rfl, Nat.zero_le _, rfl, rfl, HO3.out, HB3.out⟩
  case round =>
    obtain ⟨j, a', N, cap', hN, hj, rfl, rfl, ho, hb⟩ := hrel
    have HO := Lib.hid ho
    have HB := Lib.hid hb
    have HNN := Lib.hid hN
    have hN6 : N ≤ 200000 := by omega
    clear ho hb HO3 HB3 hN
    by_cases hlt : j < n
    · have hlti : (j : Int) < (n : Int) := by omega
      obtain ⟨b, off, rfl, hbb, hc⟩ := IntsAt.cell (HI.out.below (Nat.zero_lt_succ 0) HB.out) (by omega)
      have hc0 := hc j hlt
      have hjd : j < dir.length := by rw [HLN.out]; exact hlt
      have e0 : (pagesI dir).getD j 0 = ((dir.getD j 0 : Nat) : Int) := by simp [pagesI, List.getD, List.getElem?_eq_getElem hjd]
      rw [e0] at hc0
      have hp6 := HD.out j hjd
      have HS := Lib.hid (HKS.out j hjd)
      generalize dir.getD j 0 = p at *
      clear hc e0
      go_wp2_with fail
      refine (CN.out p wr hp6).mono ?_
      rintro e w4 ⟨a4, c4, rfl, ho4, hb4⟩
      have HB4 := Lib.hid (HB.out.trans (hb4.mono HB.out.size))
      have HO4 := Lib.hid (owned_below HO.out hb4)
      have HY4 := Lib.hid (BytesAt.owned ho4)
      clear ho4 hb4 hc0
      go_wp2_with (at_builtin; refine wpList_append_bytes rfl _ _ rfl w.heap.size _ N _ rfl HO4.out a4 2 c4 (leB 2 p) rfl HY4.out (N + 2) rfl (by omega) HB4.out.size ?_; intro a5 c5 w5 ho5 hg5)
      have hon : Only (fun q => (Value.slice a' N cap').ownBlock = some q) w4 w5 := Only.of_grown hg5 fun q e => e
      have HB5 := Lib.hid (HB4.out.trans (hon.below HB4.out.size fun q hq e => by have := (HO4.out.lt q e).1; omega))
      have HO5 := Lib.hid ho5
      clear hon ho5 hg5
      go_roundw
      case rel => exact ⟨j + 1, a5, N + 2, c5, by have := HNN.out; omega, by omega, by first | rfl | simp, rfl, by rw [HS.out]; simpa [vals] using HO5.out, HB5.out⟩
      case measure => simp only [intOf]; omega
    · have hlti : ¬ (j : Int) < (n : Int) := by omega
      have hjn : j = n := by omega
      subst hjn
      have hka := HKA.out
      rw [HLN.out] at hka
      have hO2 := HO.out
      rw [hka] at hO2
      have CS := Lib.hid (seal_any a' N cap' (superRaw dir) wr (BytesAt.owned hO2) (by omega))
      have hrl : (superRaw dir).length = N := by rw [← hka, HK.out j (by rw [HLN.out]; exact Nat.le_refl _)]; exact HNN.out.symm
      have HRL := Lib.hid hrl
      clear hka hO2 hrl
      go_wp2_with fail
      refine CS.out.mono ?_
      rintro e w4 ⟨a4, c4, rfl, ho4, hb4⟩
      have HB4 := Lib.hid (HB.out.trans (hb4.mono HB.out.size))
      by_cases h59 : j ≤ 59
      · have CP := Lib.hid (pad_ok a4 (N + 4) c4 (sealL (superRaw dir)) 128 w4 (by omega) (by have := HNN.out; omega) (BytesAt.owned ho4))
        have e5 : sealL (superRaw dir) ++ List.replicate (128 - (N + 4)) 0 = superL dir := by
          unfold superL padL; rw [if_pos (by rw [HLN.out]; exact h59), sealL_length, HRL.out]
        rw [e5] at CP
        clear ho4 hb4 e5
        dsimp only [id]
        go_wp2_with fail
        refine CP.out.mono ?_
        rintro e w5 ⟨a5, c5, rfl, ho5, hb5⟩
        go_wp2
        go_ret
        exact ⟨a5, 128, c5, rfl, BytesAt.owned ho5, HB4.out.trans (hb5.mono HB4.out.size), fun x hx => by
          subst hx
          have := (ho5.lt x.block (by simp [Value.ownBlock])).1
          have := HB4.out.size
          omega, (octO_of ho5).1⟩
      · have CP := Lib.hid (pad_full a4 (N + 4) c4 128 w4 (by omega) (by have := HNN.out; omega))
        have e5 : superL dir = [] := by unfold superL; rw [if_neg (by rw [HLN.out]; exact h59)]
        have HE5 := Lib.hid e5
        clear ho4 hb4 e5
        dsimp only [id]
        go_wp2_with fail
        refine CP.out.mono ?_
        rintro e w5 ⟨rfl, rfl⟩
        go_wp2
        go_ret
        exact ⟨none, 0, 0, rfl, by rw [HE5.out]; exact BytesAt.nil _, HB4.out, by simp, by rw [HE5.out]; exact Recs.nil _ _ _ _⟩
theorem superH_any (a : Option Addr) (n cap : Nat) (dir : List Nat) (w : World) (h : IntsAt w a n cap (pagesI dir)) (hd : ∀ p ∈ dir, p < 65536) (hn : n < 65536) :
    Calls Tryz.prog 102 #[.slice a n cap] w fun e w' => ∃ a' m c, e = .returned (.slice a' m c) ∧ BytesAt w' a' m c (superL dir) ∧ Below w.heap.size w w' ∧ ∀ x, a' = some x → w.heap.size ≤ x.block :=
  (superH_own a n cap dir w h hd hn).mono fun _ _ ⟨a', m, c, h1, h2, h3, h4, _⟩ => ⟨a', m, c, h1, h2, h3, h4⟩

end Go.Proofs.YtjcmphjjkeigjaaGreat

namespace Go.Proofs.YtjcmphjjkeigjaaGreat
open Go.RowKit
set_option linter.unusedVariables false
set_option maxRecDepth 100000
set_option linter.unusedSimpArgs false

/-- a reader in block g: its octets l, how far it is, its first error -/
def Rd (w : World) (g : Nat) (sl : Option Addr × Nat) (n : Nat) (l : List UInt8) (at_ er : Nat) : Prop :=
  w.heap[g]? = some (.cells #[.slice sl.1 n sl.2, .int .i64 at_, .int .i64 er] 265 (0, 0)) ∧ BytesAt w sl.1 n sl.2 l ∧ ∀ x, sl.1 = some x → x.block ≠ g

theorem Rd.drewN {w : World} {g : Nat} {sl : Option Addr × Nat} {n : Nat} {l : List UInt8} {at_ er : Nat} (h : Rd w g sl n l at_ er) (k : Nat) : Rd (w.drewN k) g sl n l at_ er := h
theorem Rd.below {w w' : World} {g : Nat} {sl : Option Addr × Nat} {n : Nat} {l : List UInt8} {at_ er : Nat} (h : Rd w g sl n l at_ er) (hb : Below w.heap.size w w') : Rd w' g sl n l at_ er := by
  obtain ⟨h1, h2, h3⟩ := h
  exact ⟨by rw [hb.block g (Array.getElem?_eq_some_iff.1 h1).1]; exact h1, h2.below hb, h3⟩
theorem Rd.agree {w w' : World} {g : Nat} {sl : Option Addr × Nat} {n : Nat} {l : List UInt8} {at_ er : Nat} (h : Rd w g sl n l at_ er) (hg : w'.heap[g]? = w.heap[g]?)
    (hx : ∀ x, sl.1 = some x → w'.heap[x.block]? = w.heap[x.block]?) : Rd w' g sl n l at_ er := by
  obtain ⟨h1, ⟨b1, b2, b3, b4⟩, h3⟩ := h
  refine ⟨by rw [hg]; exact h1, ⟨b1, b2, b3, ?_⟩, h3⟩
  rcases b4 with b4 | ⟨x, ha, hc⟩
  · exact .inl b4
  · exact .inr ⟨x, ha, fun i hi => by rw [World.cell?_of_block (w := w) (by rw [add_block]; exact hx x ha)]; exact hc i hi⟩
theorem Rd.other {w w' : World} {g h : Nat} {sl : Option Addr × Nat} {n : Nat} {l : List UInt8} {at_ er : Nat} (k : Rd w g sl n l at_ er) (hg : w.grownBy w' (some h)) (h1 : g ≠ h) (h2 : ∀ x, sl.1 = some x → x.block ≠ h) : Rd w' g sl n l at_ er :=
  ⟨by rw [hg.block g (Array.getElem?_eq_some_iff.1 k.1).1 (by simpa using h1)]; exact k.1, k.2.1.grown hg (fun x hx => by simpa using h2 x hx), k.2.2⟩
theorem Rd.lt {w : World} {g : Nat} {sl : Option Addr × Nat} {n : Nat} {l : List UInt8} {at_ er : Nat} (h : Rd w g sl n l at_ er) : g < w.heap.size := by
  obtain ⟨h1, h2, h3⟩ := h
  exact (Array.getElem?_eq_some_iff.1 h1).1

theorem Rd.er {w : World} {g : Nat} {sl : Option Addr × Nat} {n : Nat} {l : List UInt8} {at_ er : Nat} (h : Rd w g sl n l at_ er) : w.cell? ⟨g, 2, none⟩ = some (.int .i64 er) := by
  obtain ⟨h1, h2, h3⟩ := h
  exact cell_of_row w g 2 _ _ _ h1
theorem Rd.fr {w : World} {g : Nat} {sl : Option Addr × Nat} {n : Nat} {l : List UInt8} {at_ er : Nat} (h : Rd w g sl n l at_ er) (j : Nat) : w.frozen? ⟨g, j, none⟩ = false := by
  obtain ⟨h1, h2, h3⟩ := h
  exact frozen_of_row w g j _ _ h1
theorem Rd.pl {w : World} {g : Nat} {sl : Option Addr × Nat} {n : Nat} {l : List UInt8} {at_ er : Nat} (h : Rd w g sl n l at_ er) : w.cell? ⟨g, 1, none⟩ = some (.int .i64 at_) := by
  obtain ⟨h1, h2, h3⟩ := h
  exact cell_of_row w g 1 _ _ _ h1

theorem Rd.set_at {w : World} {g : Nat} {sl : Option Addr × Nat} {n : Nat} {l : List UInt8} {at_ er : Nat} (h : Rd w g sl n l at_ er) (at' : Nat) : Rd (w.setCell ⟨g, 1, none⟩ (.int .i64 at')) g sl n l at' er := by
  obtain ⟨h1, h2, h3⟩ := h
  refine ⟨?_, h2.grown (setCell_grown w g 1 _) (fun x hx => by have := h3 x hx; simpa using this), h3⟩
  rw [heap_setCell_same w g 1 _ _ _ h1]
  rfl
theorem Rd.set_er {w : World} {g : Nat} {sl : Option Addr × Nat} {n : Nat} {l : List UInt8} {at_ er : Nat} (h : Rd w g sl n l at_ er) (er' : Nat) : Rd (w.setCell ⟨g, 2, none⟩ (.int .i64 er')) g sl n l at_ er' := by
  obtain ⟨h1, h2, h3⟩ := h
  refine ⟨?_, h2.grown (setCell_grown w g 2 _) (fun x hx => by have := h3 x hx; simpa using this), h3⟩
  rw [heap_setCell_same w g 2 _ _ _ h1]
  rfl

theorem read_any (a : Option Addr) (n cap : Nat) (l : List UInt8) (w : World) (hl : BytesAt w a n cap l) (hn : n ≤ 140737488355328) :
    Calls Tryz.prog 159 #[.slice a n cap] w fun e w' => ∃ g sl, e = .returned (.pointer (some ⟨g, 0, none⟩)) ∧ w.heap.size ≤ g ∧ Rd w' g sl n l 0 0 ∧ (∀ x, sl.1 = some x → w.heap.size ≤ x.block ∧ x.block < g) ∧ Below w.heap.size w w' := by
  have hno : w.ownsRow w.heap.size 5 1 (.slice none 0 0) 0 [] := World.ownsRow_nil _ _ _ _
  have HNO := Lib.hid hno
  clear hno
  go_enter Tryz.func159, Tryz.ntmps159
  go_wp2_with (at_builtin; refine wpList_append_bytes rfl _ _ rfl w.heap.size (.slice none 0 0) 0 [] rfl HNO.out a n cap l rfl hl n (by omega) hn (Nat.le_refl _) ?_; intro a1 cap1 w1 ho hg)
  go_ret
  have hb1 : Below w.heap.size w w1 := (Below.refl _ _).grown hg (Nat.le_refl _) (fun k hk => by cases hk)
  have hb2 : Below w1.heap.size w1 (w1.alloc (.cells #[.slice a1 n cap1, .int .i64 0, .int .i64 0] 265)) := (Below.refl _ _).alloc (Nat.le_refl _) _
  rw [List.nil_append] at ho
  have hblk : ∀ x, a1 = some x → w.heap.size ≤ x.block ∧ x.block < w1.heap.size := fun x hx => by subst hx; exact ho.lt x.block rfl
  exact ⟨w1.heap.size, (a1, cap1), rfl, hb1.size, ⟨heap_alloc_new w1 _, (BytesAt.owned ho).below hb2, fun x hx => by have := (hblk x hx).2; omega⟩, hblk, hb1.trans (hb2.mono hb1.size)⟩

theorem wp_region_tail {P : Program} {id : Nat} {Q : Exit → Act → World → Prop} {a : Act} {w : World} {l : List Oper} (n : Nat) (hm : P.follows .mixedOrders = true) (hB : Region.lexTailB .any l.toArray n = true)
    (h : wpStill P l.toArray w.drew (fun a' => wpList P l.toArray Q (l.drop n) a' w.drew) (l.take n) a) : (Code.region id l.toArray true).wp P Q a w :=
  wp_region_still_tail n hm hB h

def rNum (l : List UInt8) (at_ er : Nat) (wd : Int) : Nat × Nat × Nat :=
  if er ≠ 0 then (0, at_, er) else if wd < 1 ∨ 8 < wd then (0, at_, 1) else if (l.length : Int) < at_ + wd then (0, at_, 2) else (le ((l.drop at_).take wd.toNat), at_ + wd.toNat, 0)

def RdPost (v : Value) (w : World) (g : Nat) (sl : Option Addr × Nat) (n : Nat) (l : List UInt8) (at_ er : Nat) (e : Ending) (w' : World) : Prop :=
  e = .returned v ∧ Rd w' g sl n l at_ er ∧ w.grownBy w' (some g)

theorem rdnum_stuck (w : World) (g : Nat) (sl : Option Addr × Nat) (n : Nat) (l : List UInt8) (at_ er : Nat) (wd : Int) (hr : Rd w g sl n l at_ er) (he : er ≠ 0) :
    Calls Tryz.prog 161 #[.pointer (some ⟨g, 0, none⟩), .int .i64 wd] w (RdPost (.int .u64 0) w g sl n l at_ er) := by
  obtain ⟨a, cap⟩ := sl
  obtain ⟨h1, h2, h3⟩ := hr
  simp only at h1 h2 h3
  have c2 : w.cell? ⟨g, 2, none⟩ = some (.int .i64 er) := cell_of_row w g 2 _ _ _ h1
  have hb : ((er : Int) != 0) = true := by simp; exact he
  have HR : Rd w g (a, cap) n l at_ er := ⟨h1, h2, h3⟩
  clear h1 h2 h3
  go_enter Tryz.func161, Tryz.ntmps161
  go_wp2
  go_ret
  exact ⟨rfl, HR, World.grownBy.refl _ _⟩

theorem rdnum_wrong (w : World) (g : Nat) (sl : Option Addr × Nat) (n : Nat) (l : List UInt8) (at_ : Nat) (wd : Int) (er : Nat) (hr : Rd w g sl n l at_ 0) (he : er ≠ 0)
    (hcall : ∀ a cap u, BytesAt u a n cap l → Calls Tryz.prog 165 #[.slice a n cap, .int .i64 at_, .int .i64 wd] u fun e w' => e = .returned (.tuple #[.int .u64 0, .int .i64 er]) ∧ u = w') :
    Calls Tryz.prog 161 #[.pointer (some ⟨g, 0, none⟩), .int .i64 wd] w (RdPost (.int .u64 0) w g sl n l at_ er) := by
  obtain ⟨a, cap⟩ := sl
  obtain ⟨h1, h2, h3⟩ := hr
  simp only at h1 h2 h3
  have c0 : w.cell? ⟨g, 0, none⟩ = some (.slice a n cap) := cell_of_row w g 0 _ _ _ h1
  have c1 : w.cell? ⟨g, 1, none⟩ = some (.int .i64 at_) := cell_of_row w g 1 _ _ _ h1
  have c2 : w.cell? ⟨g, 2, none⟩ = some (.int .i64 0) := cell_of_row w g 2 _ _ _ h1
  have f2 : w.frozen? ⟨g, 2, none⟩ = false := frozen_of_row w g 2 _ _ h1
  have hb : ((er : Int) != 0) = true := by simp; exact he
  have HR := Lib.hid (show Rd w g (a, cap) n l at_ 0 from ⟨h1, h2, h3⟩)
  have HC := Lib.hid (fun k => hcall a cap (w.drewN k) (h2.below (below_drewN (Below.refl _ _) k)))
  clear h1 h2 h3 hcall
  go_enter Tryz.func161, Tryz.ntmps161
  go_wp2
  go_quiet ((go_at_call 165; exact quiet_left (HC.out _)))
  go_wp2
  go_ret
  exact ⟨rfl, (HR.out.drewN nq).set_er er, grown_of_drewN (n := nq) (setCell_grown _ g 2 _)⟩

theorem rdnum_good (w : World) (g : Nat) (sl : Option Addr × Nat) (n : Nat) (l : List UInt8) (at_ wd v : Nat) (hr : Rd w g sl n l at_ 0) (hmax : at_ + wd ≤ 9223372036854775807)
    (hcall : ∀ a cap u, BytesAt u a n cap l → Calls Tryz.prog 165 #[.slice a n cap, .int .i64 at_, .int .i64 wd] u fun e w' => e = .returned (.tuple #[.int .u64 v, .int .i64 0]) ∧ u = w') :
    Calls Tryz.prog 161 #[.pointer (some ⟨g, 0, none⟩), .int .i64 wd] w (RdPost (.int .u64 v) w g sl n l (at_ + wd) 0) := by
  obtain ⟨a, cap⟩ := sl
  obtain ⟨h1, h2, h3⟩ := hr
  simp only at h1 h2 h3
  have c0 : w.cell? ⟨g, 0, none⟩ = some (.slice a n cap) := cell_of_row w g 0 _ _ _ h1
  have c1 : w.cell? ⟨g, 1, none⟩ = some (.int .i64 at_) := cell_of_row w g 1 _ _ _ h1
  have c2 : w.cell? ⟨g, 2, none⟩ = some (.int .i64 0) := cell_of_row w g 2 _ _ _ h1
  have f1 : w.frozen? ⟨g, 1, none⟩ = false := frozen_of_row w g 1 _ _ h1
  have HR := Lib.hid (show Rd w g (a, cap) n l at_ 0 from ⟨h1, h2, h3⟩)
  have HC := Lib.hid (fun k => hcall a cap (w.drewN k) (h2.below (below_drewN (Below.refl _ _) k)))
  clear h1 h2 h3 hcall
  go_enter Tryz.func161, Tryz.ntmps161
  go_wp2
  go_quiet ((go_at_call 165; exact quiet_left (HC.out _)))
  go_wp2
  go_ret
  exact ⟨rfl, (HR.out.drewN nq).set_at (at_ + wd), grown_of_drewN (n := nq) (setCell_grown _ g 1 _)⟩

theorem BytesAt.max {w : World} {a : Option Addr} {n cap : Nat} {l : List UInt8} (h : BytesAt w a n cap l) : n ≤ 9223372036854775807 := by
  have := h.2.1; have := h.2.2.1; unfold maxLen at this; omega

/-- a number is read on -/
theorem rdnum_any (w : World) (g : Nat) (sl : Option Addr × Nat) (n : Nat) (l : List UInt8) (at_ er : Nat) (wd : Int) (hr : Rd w g sl n l at_ er) (hat : at_ ≤ n) :
    Calls Tryz.prog 161 #[.pointer (some ⟨g, 0, none⟩), .int .i64 wd] w (RdPost (.int .u64 (rNum l at_ er wd).1) w g sl n l (rNum l at_ er wd).2.1 (rNum l at_ er wd).2.2) := by
  have hn : l.length = n := by exact hr.2.1.1
  have hmax : n ≤ 9223372036854775807 := by exact hr.2.1.max
  by_cases he : er = 0
  · subst he
    by_cases hw : wd < 1 ∨ 8 < wd
    · have e : rNum l at_ 0 wd = (0, at_, 1) := by simp only [rNum]; rw [if_neg (by simp), if_pos hw]
      rw [e]
      exact rdnum_wrong w g sl n l at_ wd 1 hr (by decide) (fun a cap u hb => num_arg a n cap at_ wd u hw)
    · obtain ⟨m, rfl⟩ := Int.eq_ofNat_of_zero_le (show 0 ≤ wd by omega)
      by_cases hs : l.length < at_ + m
      · have e : rNum l at_ 0 m = (0, at_, 2) := by simp only [rNum]; rw [if_neg (by simp), if_neg hw, if_pos (by omega)]
        rw [e]
        exact rdnum_wrong w g sl n l at_ m 2 hr (by decide) (fun a cap u hb => num_short a n cap at_ m u (by omega) (by omega) hat (by omega) hb.max)
      · have e : rNum l at_ 0 m = (le ((l.drop at_).take m), at_ + m, 0) := by
          simp only [rNum]; rw [if_neg (by simp), if_neg hw, if_neg (by omega), Int.toNat_natCast]
        rw [e]
        exact rdnum_good w g sl n l at_ m _ hr (by omega) (fun a cap u hb => num_ok a n cap l at_ m u (by omega) (by omega) (by omega) hb)
  · have e : rNum l at_ er wd = (0, at_, er) := by simp only [rNum]; rw [if_pos he]
    rw [e]
    exact rdnum_stuck w g sl n l at_ er wd hr he

def rRaw (l : List UInt8) (at_ er : Nat) (m : Int) : List UInt8 × Nat × Nat :=
  if er ≠ 0 then ([], at_, er) else if m < 0 then ([], at_, 1) else if (l.length : Int) < at_ + m then ([], at_, 2) else ((l.drop at_).take m.toNat, at_ + m.toNat, 0)

/-- what is handed back is a slice of new memory that reads as r -/
def RawPost (r : List UInt8) (w : World) (g : Nat) (sl : Option Addr × Nat) (n : Nat) (l : List UInt8) (at_ er : Nat) (e : Ending) (w' : World) : Prop :=
  ∃ a cap, e = .returned (.slice a r.length cap) ∧ BytesAt w' a r.length cap r ∧ Rd w' g sl n l at_ er ∧ w.grownBy w' (some g) ∧ ∀ x, a = some x → w.heap.size ≤ x.block

theorem rdraw_stuck (w : World) (g : Nat) (sl : Option Addr × Nat) (n : Nat) (l : List UInt8) (at_ er : Nat) (m : Int) (hr : Rd w g sl n l at_ er) (he : er ≠ 0) :
    Calls Tryz.prog 160 #[.pointer (some ⟨g, 0, none⟩), .int .i64 m] w (RawPost [] w g sl n l at_ er) := by
  obtain ⟨a, cap⟩ := sl
  obtain ⟨h1, h2, h3⟩ := hr
  simp only at h1 h2 h3
  have c2 : w.cell? ⟨g, 2, none⟩ = some (.int .i64 er) := cell_of_row w g 2 _ _ _ h1
  have hb : ((er : Int) != 0) = true := by simp; exact he
  have HR := Lib.hid (show Rd w g (a, cap) n l at_ er from ⟨h1, h2, h3⟩)
  clear h1 h2 h3
  go_enter Tryz.func160, Tryz.ntmps160
  go_wp2
  go_ret
  exact ⟨none, 0, rfl, BytesAt.nil _, HR.out, World.grownBy.refl _ _, fun x hx => by cases hx⟩

theorem rdraw_arg (w : World) (g : Nat) (sl : Option Addr × Nat) (n : Nat) (l : List UInt8) (at_ : Nat) (m : Int) (hr : Rd w g sl n l at_ 0) (hm : m < 0) :
    Calls Tryz.prog 160 #[.pointer (some ⟨g, 0, none⟩), .int .i64 m] w (RawPost [] w g sl n l at_ 1) := by
  obtain ⟨a, cap⟩ := sl
  obtain ⟨h1, h2, h3⟩ := hr
  simp only at h1 h2 h3
  have c2 : w.cell? ⟨g, 2, none⟩ = some (.int .i64 0) := cell_of_row w g 2 _ _ _ h1
  have f2 : w.frozen? ⟨g, 2, none⟩ = false := frozen_of_row w g 2 _ _ h1
  have HR := Lib.hid (show Rd w g (a, cap) n l at_ 0 from ⟨h1, h2, h3⟩)
  clear h1 h2 h3
  go_enter Tryz.func160, Tryz.ntmps160
  go_wp2
  go_ret
  exact ⟨none, 0, rfl, BytesAt.nil _, HR.out.set_er 1, setCell_grown _ g 2 _, fun x hx => by cases hx⟩

theorem rdraw_short (w : World) (g : Nat) (sl : Option Addr × Nat) (n : Nat) (l : List UInt8) (at_ m : Nat) (hr : Rd w g sl n l at_ 0) (hat : at_ ≤ n) (hm : n < at_ + m) :
    Calls Tryz.prog 160 #[.pointer (some ⟨g, 0, none⟩), .int .i64 m] w (RawPost [] w g sl n l at_ 2) := by
  obtain ⟨a, cap⟩ := sl
  obtain ⟨h1, h2, h3⟩ := hr
  simp only at h1 h2 h3
  have c0 : w.cell? ⟨g, 0, none⟩ = some (.slice a n cap) := cell_of_row w g 0 _ _ _ h1
  have c1 : w.cell? ⟨g, 1, none⟩ = some (.int .i64 at_) := cell_of_row w g 1 _ _ _ h1
  have c2 : w.cell? ⟨g, 2, none⟩ = some (.int .i64 0) := cell_of_row w g 2 _ _ _ h1
  have f2 : w.frozen? ⟨g, 2, none⟩ = false := frozen_of_row w g 2 _ _ h1
  have hmax := h2.max
  have hd : (n : Int) - at_ < m := by omega
  have HR := Lib.hid (show Rd w g (a, cap) n l at_ 0 from ⟨h1, h2, h3⟩)
  clear h1 h2 h3
  go_enter Tryz.func160, Tryz.ntmps160
  go_wp2
  go_quiet (fail)
  go_wp2
  go_ret
  exact ⟨none, 0, rfl, BytesAt.nil _, (HR.out.drewN nq).set_er 2, grown_of_drewN (n := nq) (setCell_grown _ g 2 _), fun x hx => by cases hx⟩

theorem BytesAt.cut {w : World} {a : Option Addr} {n cap at_ m : Nat} {l : List UInt8} (h : BytesAt w a n cap l) (hm : at_ + m ≤ n) :
    BytesAt w (if cap = at_ then a else Option.map (fun x => x.add at_) a) m (cap - at_) ((l.drop at_).take m) := by
  obtain ⟨h1, h2, h3, h4⟩ := h
  refine ⟨by simp; omega, by omega, by omega, ?_⟩
  by_cases hc : cap = at_
  · have : m = 0 := by omega
    subst this
    rw [if_pos hc]
    rcases h4 with ⟨rfl, _, _⟩ | ⟨x, rfl, hx⟩
    · exact .inl ⟨rfl, rfl, by omega⟩
    · exact .inr ⟨x, rfl, fun i hi => by omega⟩
  · rw [if_neg hc]
    rcases h4 with ⟨rfl, h5, h6⟩ | ⟨x, rfl, hx⟩
    · omega
    · refine .inr ⟨_, rfl, fun i hi => ?_⟩
      have e : (x.add at_).add i = x.add (at_ + i) := by
        unfold Addr.add
        by_cases h0 : at_ = 0 <;> by_cases h1 : i = 0 <;> simp [h0, h1, Nat.add_assoc]
      rw [e, hx _ (by omega)]
      simp [List.getD, List.getElem?_take, List.getElem?_drop, hi]

theorem rdraw_ok (w : World) (g : Nat) (sl : Option Addr × Nat) (n : Nat) (l : List UInt8) (at_ m : Nat) (hr : Rd w g sl n l at_ 0) (hm : at_ + m ≤ n) (hn : n ≤ 140737488355328) :
    Calls Tryz.prog 160 #[.pointer (some ⟨g, 0, none⟩), .int .i64 m] w (RawPost ((l.drop at_).take m) w g sl n l (at_ + m) 0) := by
  obtain ⟨a, cap⟩ := sl
  obtain ⟨h1, h2, h3⟩ := hr
  simp only at h1 h2 h3
  have c0 : w.cell? ⟨g, 0, none⟩ = some (.slice a n cap) := cell_of_row w g 0 _ _ _ h1
  have c1 : w.cell? ⟨g, 1, none⟩ = some (.int .i64 at_) := cell_of_row w g 1 _ _ _ h1
  have c2 : w.cell? ⟨g, 2, none⟩ = some (.int .i64 0) := cell_of_row w g 2 _ _ _ h1
  have f1 : w.frozen? ⟨g, 1, none⟩ = false := frozen_of_row w g 1 _ _ h1
  have hmax := h2.max
  have hnc := h2.2.1
  have BY := Lib.hid h2
  have hgl : g < w.heap.size := (Array.getElem?_eq_some_iff.1 h1).1
  have hd : ¬ (n : Int) - at_ < m := by omega
  have HR := Lib.hid (show Rd w g (a, cap) n l at_ 0 from ⟨h1, h2, h3⟩)
  clear h1 h2 h3
  go_enter Tryz.func160, Tryz.ntmps160
  go_wp2
  go_quiet (fail)
  go_wp2
  have c0' : (w.drewN nq).cell? ⟨g, 0, none⟩ = some (.slice a n cap) := c0
  have c1' : (w.drewN nq).cell? ⟨g, 1, none⟩ = some (.int .i64 at_) := c1
  have HR' := Lib.hid (HR.out.drewN nq)
  have hb2 : Below w.heap.size w (w.drewN nq) := below_drewN (Below.refl _ _) nq
  have HBY := Lib.hid ((BY.out).below hb2)
  clear c0 c1 c2 HR BY
  obtain ⟨w2, hw2⟩ : ∃ w2, w2 = w.drewN nq := ⟨_, rfl⟩
  rw [← hw2] at c0' c1' HR' hb2 HBY ⊢
  clear hw2
  have ew : IntKind.i64.wrap ((at_ : Int) + m) = (at_ : Int) + m := IntWalk.i64_in _ (by omega)
  have e0 : 0 ≤ (at_ : Int) + m := by omega
  have e1 : (at_ : Int) + m ≤ cap := by omega
  have e2 : ((at_ : Int) + m).toNat = at_ + m := by omega
  refine wp_region_tail 15 (by kernel_rfl) (by kernel_rfl) ?_
  simp only [List.take_succ_cons, List.take_zero, List.drop_succ_cons, List.drop_zero]
  repeat still_step
  refine wpStill_nil ?_
  clear ew e0 e1 e2
  obtain ⟨sa, hsa⟩ : ∃ sa, sa = (if cap = at_ then a else Option.map (fun x => x.add at_) a) := ⟨_, rfl⟩
  rw [← hsa]
  have hsl : BytesAt w2.drew sa m (cap - at_) ((l.drop at_).take m) := by
    rw [hsa]; exact (HBY.out.below (w' := w2.drew) (Below.drew (Below.refl _ _))).cut hm
  clear hsa
  have HNO := Lib.hid (World.ownsRow_nil w2.drew w2.heap.size 5 1)
  have c3 : ∀ w3, w2.drew.grownBy w3 none → w3.cell? ⟨g, 1, none⟩ = some (.int .i64 at_) := fun w3 hg => hg.cell c1' (by simp)
  have f3 : ∀ w3, w2.drew.grownBy w3 none → w3.frozen? ⟨g, 1, none⟩ = false := fun w3 hg => by
    rw [World.frozen?_of_block (w := w2) (w' := w3) (a := ⟨g, 1, none⟩) (hg.block g HR'.out.lt (by simp)), World.frozen?_of_block (w := w) (w' := w2) (a := ⟨g, 1, none⟩) (hb2.block g hgl)]
    exact f1
  have C3 := Lib.hid c3
  have F3 := Lib.hid f3
  clear c3 f3
  go_wp2_with (at_builtin; refine wpList_append_bytes rfl _ _ rfl w2.heap.size (.slice none 0 0) 0 [] rfl HNO.out sa m (cap - at_) _ rfl hsl m (by omega) (by omega) (Nat.le_refl _) ?_; intro a1 cap1 w3 ho hg; have c1'' := C3.out w3 hg; have f1'' := F3.out w3 hg)
  go_ret
  have hb3 : Below w2.heap.size w2 w3 := ((Below.refl _ _).drew).grown hg (Nat.le_refl _) (fun k hk => by cases hk)
  have hs3 := setCell_grown w3 g 1 (.int .i64 ((at_ : Int) + m))
  rw [List.nil_append] at ho
  have hlen : ((l.drop at_).take m).length = m := hsl.1
  unfold RawPost
  rw [hlen]
  refine ⟨a1, cap1, rfl, (BytesAt.owned ho).grown hs3 ?_, ((HR'.out.drewN 0).below hb3).set_at (at_ + m), grown_trans (grown_trans (grown_below hb2) (grown_below hb3)) hs3, ?_⟩
  · intro x hx
    subst hx
    have h5 := (ho.lt x.block rfl).1
    have h6 := HR'.out.lt
    intro he
    have : x.block = g := by simpa using he
    omega
  · intro x hx
    subst hx
    have h5 := (ho.lt x.block rfl).1
    have := hb2.size
    omega

theorem rdraw_any (w : World) (g : Nat) (sl : Option Addr × Nat) (n : Nat) (l : List UInt8) (at_ er : Nat) (m : Int) (hr : Rd w g sl n l at_ er) (hat : at_ ≤ n) (hn : n ≤ 140737488355328) :
    Calls Tryz.prog 160 #[.pointer (some ⟨g, 0, none⟩), .int .i64 m] w (RawPost (rRaw l at_ er m).1 w g sl n l (rRaw l at_ er m).2.1 (rRaw l at_ er m).2.2) := by
  have hln : l.length = n := by exact hr.2.1.1
  by_cases he : er = 0
  · subst he
    by_cases hw : m < 0
    · have e : rRaw l at_ 0 m = ([], at_, 1) := by simp only [rRaw]; rw [if_neg (by simp), if_pos hw]
      rw [e]
      exact rdraw_arg w g sl n l at_ m hr hw
    · obtain ⟨k, rfl⟩ := Int.eq_ofNat_of_zero_le (show 0 ≤ m by omega)
      by_cases hs : l.length < at_ + k
      · have e : rRaw l at_ 0 k = ([], at_, 2) := by simp only [rRaw]; rw [if_neg (by simp), if_neg hw, if_pos (by omega)]
        rw [e]
        exact rdraw_short w g sl n l at_ k hr hat (by omega)
      · have e : rRaw l at_ 0 k = ((l.drop at_).take k, at_ + k, 0) := by
          simp only [rRaw]; rw [if_neg (by simp), if_neg hw, if_neg (by omega), Int.toNat_natCast]
        rw [e]
        exact rdraw_ok w g sl n l at_ k hr (by omega) hn
  · have e : rRaw l at_ er m = ([], at_, er) := by simp only [rRaw]; rw [if_pos he]
    rw [e]
    exact rdraw_stuck w g sl n l at_ er m hr he

theorem le2_lt (l : List UInt8) (at_ : Nat) : le ((l.drop at_).take 2) < 65536 := by
  have h1 := le_lt ((l.drop at_).take 2)
  have h2 : ((l.drop at_).take 2).length ≤ 2 := by simp; omega
  have h3 : 256 ^ ((l.drop at_).take 2).length ≤ 256 ^ 2 := Nat.pow_le_pow_right (by omega) h2
  omega

end Go.Proofs.YtjcmphjjkeigjaaGreat
