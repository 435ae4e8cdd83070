/-
  A piece of the proof, laid together by program: TrC HtF HtG JnA Made JnB RowsAt.
-/
import Derived.Test.YtjcmphjjkeigjaaGreatPbA
import Derived.Test.YtjcmphjjkeigjaaGreatPbB
import Derived.Test.YtjcmphjjkeigjaaGreatPbE
import Derived.Test.YtjcmphjjkeigjaaGreatPbF
import Derived.Test.YtjcmphjjkeigjaaGreatPbG
import Derived.Test.YtjcmphjjkeigjaaGreatPbH
import Derived.Laws.MakeOwn
import Derived.Deep.Matrix
import Derived.OpenShut
import Derived.ChangeOld

namespace Go.Proofs.YtjcmphjjkeigjaaGreat
open Go.RowKit
set_option linter.unusedVariables false
set_option linter.unusedSimpArgs false
set_option maxRecDepth 100000

theorem list_beq (l m : List UInt8) : (l == m) = decide (l = m) := by
  by_cases h : l = m
  · subst h; simp
  · rw [decide_eq_false h]
    exact beq_eq_false_iff_ne.2 h
theorem results_cell_slot1 {P : Program} {fn : Func} {p q : Tmp} {ty : TypeId} (h : fn.results = #[.cell p ty, .tmp q]) (tmps : Array Value) (w : World) (g : Nat) (t : TypeId) (cs : Array Value) (fr : Nat × Nat) (d : TypeDesc) (v : Value)
    (hp : tmps.getD p undef = .pointer (some ⟨g, 0, none⟩)) (hg : w.heap[g]? = some (.cells cs t fr)) (hq : tmps.getD q undef = v)
    (hu : P.underlying ty = some d) (hd : (match d with | .struct _ | .array _ _ => true | _ => false) = true) (hi : (P.info? ty).map (·.size) = some cs.size) :
    (results fn tmps).run P w = .ok (.tuple #[.agg cs, v]) w := by
  have hp' : tmps[p]?.getD undef = .pointer (some ⟨g, 0, none⟩) := by simpa using hp
  have hq' : tmps[q]?.getD undef = v := by simpa using hq
  simp [results, h, hp', hq', asAddr, run_loadVar_row w g t ty cs fr d hg hu hd hi]

theorem equal_anyT (a : Option Addr) (n cap : Nat) (l : List UInt8) (b : Option Addr) (m c : Nat) (q : List UInt8) (w : World) (hl : BytesAt w a n cap l) (hq : BytesAt w b m c q) :
    Calls Tryz.prog 118 #[.slice a n cap, .slice b m c] w fun e w' => e = .returned (.bool (decide (l = q))) ∧ w = w' := by
  have h1 := hl.conv
  have h2 := hq.conv
  have HS := Lib.hid (list_beq l q)
  clear hl hq
  go_enter Tryz.func118, Tryz.ntmps118
  go_wp2
  go_ret
  exact ⟨congrArg (fun b => Ending.returned (.bool b)) HS.out, rfl⟩

theorem rdnum_le (w : World) (g : Nat) (sl : Option Addr × Nat) (n : Nat) (l : List UInt8) (at_ wd : Nat) (hr : Rd w g sl n l at_ 0) (h1 : 1 ≤ wd) (h2 : wd ≤ 8) (h3 : at_ + wd ≤ n) :
    Calls Tryz.prog 161 #[.pointer (some ⟨g, 0, none⟩), .int .i64 wd] w (RdPost (.int .u64 (le ((l.drop at_).take wd) : Nat)) w g sl n l (at_ + wd) 0) :=
  rdnum_good w g sl n l at_ wd _ hr (by have := hr.2.1.max; omega) (fun a cap u hb => num_ok a n cap l at_ wd u h1 h2 h3 hb)

theorem le_one (l : List UInt8) (i : Nat) (h : i < l.length) : le ((l.drop i).take 1) = (l.getD i 0).toNat := by
  rw [List.drop_eq_getElem_cons h, List.take_succ_cons, List.take_zero]
  show l[i].toNat + 256 * 0 = _
  simp [List.getD, List.getElem?_eq_getElem h]

theorem sizeNode : (Tryz.prog.info? 240).map (·.size) = some 2 := by kernel_rfl
def nodeZ : Array Value := #[.int .u64 0, .slice none 0 0]
def NodePost (l : List UInt8) (w : World) (e : Ending) (w' : World) : Prop :=
  Below w.heap.size w w' ∧ ((isP l = false ∧ e = .returned (.tuple #[.agg nodeZ, .bool false])) ∨
    (isP l = true ∧ ∃ a n cap, e = .returned (.tuple #[.agg #[.int .u64 (kindL l : Nat), .slice a n cap], .bool true]) ∧ Recs pairC w' 114 2 (.slice a n cap) (entsOf l) ∧ ∀ q, (Value.slice a n cap).ownBlock = some q → w.heap.size ≤ q))

/-- between two rounds of nodeOf's loop -/
structure NdW (w : World) (g B5 : Nat) (sl : Option Addr × Nat) (l : List UInt8) (k j : Nat) (W : World) : Prop where
  rd : Rd W g sl 128 l (2 + ewN k * j) 0
  b2 : W.heap[w.heap.size]? = some (.cells nodeZ 240 (0, 0))
  bel : Below w.heap.size w W
  hg : w.heap.size < g ∧ g < B5
  hsl : ∀ x, sl.1 = some x → w.heap.size < x.block ∧ x.block < g
  box : ∃ a n cap, W.heap[B5]? = some (.cells #[.int .u64 (k : Int), .slice a n cap] 240 (0, 0)) ∧ Recs pairC W 114 2 (.slice a n cap) ((entsOf l).take j) ∧ ∀ q, (Value.slice a n cap).ownBlock = some q → g < q

theorem ents_succ (l : List UInt8) (j : Nat) (h : j < cntL l) : (entsOf l).take (j + 1) = (entsOf l).take j ++ [entAt (kindL l) l j] := by
  rw [List.take_succ_eq_append_getElem (by rw [entsOf_length]; exact h)]
  simp [entsOf]

theorem all_node (v : Value) (h : v.oneCell' = true) (k : Int) : (#[.int .u64 k, v] : Array Value).all (·.oneCell') = true := by simp [h, show (Value.int .u64 k).oneCell' = true from rfl]

set_option maxHeartbeats 4000000 in
theorem nodeOf_any (a : Option Addr) (n cap : Nat) (l : List UInt8) (w : World) (hl : BytesAt w a n cap l) :
    Calls Tryz.prog 163 #[.slice a n cap] w (NodePost l w) := by
  have HL := Lib.hid hl
  have hlen := hl.1
  have hmx := hl.max
  clear hl
  have hz0 : Below w.heap.size w (w.alloc (.cells nodeZ 240)) := (Below.refl _ w).alloc (Nat.le_refl _) _
  have HZ0 := Lib.hid hz0
  have HBX0 := Lib.hid (heap_alloc_new w (.cells nodeZ 240))
  have HSN := Lib.hid (show (Tryz.prog.info? 240).map (·.size) = some nodeZ.size from sizeNode)
  have HAN := Lib.hid (show nodeZ.all (·.oneCell') = true from all_node _ rfl 0)
  clear hz0
  by_cases h128 : n = 128
  · subst h128
    have hlr := HL.out.below HZ0.out
    have CR := Lib.hid (read_any a 128 cap l _ hlr (by omega))
    clear hlr
    go_enter Tryz.func163, Tryz.ntmps163
    go_wp2_with fail
    refine (CR.out).mono ?_
    rintro e w1 ⟨g, sl, rfl, hg, hr, hsl, hb1⟩
    clear CR
    have hk0 : le ((l.drop 0).take 1) = kindL l := le_one l 0 (by omega)
    have hk1 : le ((l.drop 1).take 1) = cntL l := le_one l 1 (by omega)
    have hifp := fun h => isP_iff (l := l) hlen h
    have hnop : mayN (kindL l) (cntL l) = false → isP l = false := fun h => by unfold isP; rw [h]; simp
    have hpos : ∀ j, entAt (kindL l) l j = (le ((l.drop (2 + ewN (kindL l) * j)).take 8), le ((l.drop (10 + ewN (kindL l) * j)).take (vwN (kindL l)))) := fun _ => rfl
    have hent := fun j h => ents_succ l j h
    have hel := entsOf_length l
    have hfit := fits_ents l
    have hkl : kindL l < 256 := (l.getD 0 0).toNat_lt
    have hcl : cntL l < 256 := (l.getD 1 0).toNat_lt
    have hmay := fun h => mayN_size (k := kindL l) (c := cntL l) h
    have C1 := rdnum_le w1 g sl 128 l 0 1 hr (by omega) (by omega) (by omega)
    rw [hk0] at C1
    generalize hK : kindL l = K at *
    generalize hC : cntL l = C at *
    have C1 := Lib.hid C1
    have HIFP := Lib.hid hifp
    have HNOP := Lib.hid hnop
    have HPOS := Lib.hid hpos
    have HENT := Lib.hid hent
    have HEL := Lib.hid hel
    have HFIT := Lib.hid hfit
    have HK1 := Lib.hid hk1
    have HMAY := Lib.hid hmay
    have HK := Lib.hid hK
    have HLEN := Lib.hid hlen
    clear hk0 hk1 hifp hnop hpos hent hel hfit hmay hK hC hlen
    have hb01 : Below w.heap.size w w1 := HZ0.out.trans (hb1.mono HZ0.out.size)
    have hgz : w.heap.size < g := by simp at hg; omega
    have hsl2 : ∀ x, sl.1 = some x → w.heap.size < x.block ∧ x.block < g := fun x hx => by have := hsl x hx; simp at this; omega
    have hbx1 := (hb1.block w.heap.size (by simp)).trans HBX0.out
    have HSN2 := Lib.hid (show (Tryz.prog.info? 240).map (·.size) = some (#[Value.int .u64 (K : Int), Value.slice none 0 0] : Array Value).size from sizeNode)
    have HAN2 := Lib.hid (all_node (.slice none 0 0) rfl K)
    have HL0 := Lib.hid HL.out
    clear hg hsl hb1 hr HL
    go_wp2_with fail
    refine (C1.out).mono ?_
    rintro e w2 ⟨rfl, hr2, hg2⟩
    have hgl2 := hr2.lt
    go_wp2_with (refine wpList_store_row rfl _ _ _ rfl w2.heap.size #[.int .u64 (K : Int), .slice none 0 0] rfl rfl 240 _ (heap_alloc_new w2 _) HSN2.out rfl HAN2.out ?_)
    have hnew : Below w2.heap.size w2 ((w2.alloc (.cells #[.int .u64 0, .slice none 0 0] 240)).setRow w2.heap.size #[.int .u64 (K : Int), .slice none 0 0]) := below_setRow ((Below.refl _ _).alloc (Nat.le_refl _) _) (Nat.le_refl _) _
    have hbx5 := heap_setRow_same (w2.alloc (.cells #[.int .u64 0, .slice none 0 0] 240)) w2.heap.size #[.int .u64 (K : Int), .slice none 0 0] _ _ (heap_alloc_new w2 _)
    have hb02 : Below w.heap.size w w2 := hb01.grown hg2 hb01.size (fun k hk => by cases hk; omega)
    have hbx2 := (hg2.block w.heap.size (Nat.lt_of_lt_of_le (by have := (Array.getElem?_eq_some_iff.1 hbx1).1; exact this) (Nat.le_refl _)) (by simp; omega)).trans hbx1
    have hlt2 := (Array.getElem?_eq_some_iff.1 hbx2).1
    have hbx3 := (hnew.block w.heap.size hlt2).trans hbx2
    have hr3 := hr2.below hnew
    have hb03 : Below w.heap.size w ((w2.alloc (.cells #[.int .u64 0, .slice none 0 0] 240)).setRow w2.heap.size #[.int .u64 (K : Int), .slice none 0 0]) := hb02.trans (hnew.mono hb02.size)
    have hsz3 : w2.heap.size < ((w2.alloc (.cells #[.int .u64 0, .slice none 0 0] 240)).setRow w2.heap.size #[.int .u64 (K : Int), .slice none 0 0]).heap.size := by simp
    generalize (w2.alloc (.cells #[.int .u64 0, .slice none 0 0] 240)).setRow w2.heap.size #[.int .u64 (K : Int), .slice none 0 0] = w3 at *
    have C2 := rdnum_le w3 g sl 128 l 1 1 hr3 (by omega) (by omega) (by omega)
    rw [HK1.out] at C2
    have C2 := Lib.hid C2
    clear hr2 hg2 hnew hb02 hbx2 hbx1 hb01 hr3 C1
    refine (C2.out).mono ?_
    rintro e w4 ⟨rfl, hr4, hg4⟩
    have hb04 : Below w.heap.size w w4 := hb03.grown hg4 hb03.size (fun k hk => by cases hk; omega)
    have hbx4 := (hg4.block w.heap.size (by omega) (by simp; omega)).trans hbx3
    have hbx45 := (hg4.block w2.heap.size hsz3 (by simp; omega)).trans hbx5
    have hN : NdW w g w2.heap.size sl l K 0 w4 := ⟨by rw [Nat.mul_zero]; exact hr4, hbx4, hb04, ⟨hgz, hgl2⟩, hsl2, none, 0, 0, hbx45, by rw [List.take_zero]; exact Recs.nil _ _ _ _, fun q hq => by simp [Value.ownBlock] at hq⟩
    have HN := Lib.hid hN
    have cK : w4.cell? ⟨w2.heap.size, 0, none⟩ = some (.int .u64 (K : Int)) := by rw [cell_of_row _ _ _ _ _ _ hbx45]; rfl
    have HX4 := Lib.hid hbx4
    have HB4 := Lib.hid hb04
    clear hb04 hbx4 hbx45 hr4 hg4 hb03 hbx3 hbx5 C2 hN
    generalize w2.heap.size = B5 at *
    cases hmy : mayN K C with
    | false =>
      have hp := HNOP.out hmy
      have CM := Lib.hid (mayHave_any K C w4)
      rw [hmy] at CM
      unfold nodeZ at HSN HAN HX4
      go_wp2_with (first | (go_at_call 185; refine (CM.out).mono ?_; rintro e w5 ⟨rfl, rfl⟩) | (refine wpList_store_row rfl _ _ _ rfl w.heap.size #[.int .u64 0, .slice none 0 0] rfl rfl 240 _ HX4.out HSN.out rfl HAN.out ?_))
      exact bodyPost_ret (v := .tuple #[.agg nodeZ, .bool false]) (results_cell_slot1 rfl _ _ w.heap.size 240 nodeZ (0, 0) _ _ rfl (heap_setRow_same _ _ _ _ _ HX4.out) rfl Tryz.underlying240 rfl sizeNode) rfl ⟨below_setRow HB4.out (Nat.le_refl _) _, .inl ⟨hp, rfl⟩⟩
    | true =>
      have CM := Lib.hid (mayHave_any K C w4)
      rw [hmy] at CM
      have hms := HMAY.out hmy
      go_wp2_with (go_at_call 185; refine (CM.out).mono ?_; rintro e w5 ⟨rfl, rfl⟩)
      clear CM cK
      go_loopw [26] (fun i wr => ∃ j : Nat, j ≤ C ∧ i = .int .u64 j ∧ NdW w g B5 sl l K j wr) (fun i _ => C - (intOf i).toNat)
      case atStart => exact ⟨0, Nat.zero_le _, rfl, HN.out⟩
      case round =>
        obtain ⟨j, hj, rfl, hw⟩ := hrel
        clear HN
        have HW := Lib.hid hw
        obtain ⟨hrd, hb2, hbel, ⟨hg1, hg2⟩, hsl3, av, nv, cv, hbox, hrec, hown⟩ := hw
        by_cases hlt : j < C
        · have hq : 2 + ewN K * (j + 1) ≤ 2 + ewN K * C := Nat.add_le_add_left (Nat.mul_le_mul_left _ hlt) 2
          rw [Nat.mul_add, Nat.mul_one] at hq
          have hv8 := vwN_le K
          have hpe := HPOS.out j
          have hen := HENT.out j hlt
          rw [hpe] at hen
          have hew : ewN K = 8 + vwN K := rfl
          have D1 := rdnum_le wr g sl 128 l (2 + ewN K * j) 8 hrd (by omega) (by omega) (by omega)
          have hnx : 2 + ewN K * j + 8 + vwN K = 2 + ewN K * (j + 1) := by rw [Nat.mul_add, Nat.mul_one]; omega
          have h10 : 2 + ewN K * j + 8 = 10 + ewN K * j := by omega
          have hin : 2 + ewN K * j + 8 + vwN K ≤ 128 := by omega
          generalize hA : le ((l.drop (2 + ewN K * j)).take 8) = A at *
          have D1 := Lib.hid D1
          have HEN := Lib.hid hen
          have HNX := Lib.hid hnx
          have HIN := Lib.hid hin
          have HV8 := Lib.hid hv8
          have HREC := Lib.hid hrec
          have HBOX := Lib.hid hbox
          have HOWN := Lib.hid hown
          have H10 := Lib.hid h10
          clear hq hpe hen hnx hin hew hrec hbox hown hrd h10 hA hv8
          go_wp2_with fail
          refine (D1.out).mono ?_
          rintro e w5 ⟨rfl, hr5, hg5⟩
          have hlB5 : B5 < wr.heap.size := (Array.getElem?_eq_some_iff.1 HBOX.out).1
          have hbox5 := (hg5.block B5 hlB5 (by simp; omega)).trans HBOX.out
          have hb25 := (hg5.block w.heap.size (by omega) (by simp; omega)).trans hb2
          have hrec5 := HREC.out.keep (w' := w5) fun q hq => hg5.block q (HREC.out.lt q hq) (by have := HOWN.out q hq; simp; omega)
          have hbel5 := hbel.grown hg5 hbel.size (fun k hk => by cases hk; omega)
          have hlB5' : B5 < w5.heap.size := (Array.getElem?_eq_some_iff.1 hbox5).1
          have HR5 := Lib.hid hr5
          have HX5 := Lib.hid hbox5
          have HB25 := Lib.hid hb25
          have HREC5 := Lib.hid hrec5
          have HBEL5 := Lib.hid hbel5
          clear hb2 hbel hr5 hg5 hbox5 hb25 hrec5 hbel5 HREC HBOX D1
          have key : ∀ u : World, u.heap[B5]? = some (.cells #[.int .u64 (K : Int), .slice av nv cv] 240 (0, 0)) → u.cell? ⟨B5, 0, none⟩ = some (.int .u64 (K : Int)) ∧ u.cell? ⟨B5, 1, none⟩ = some (.slice av nv cv) := fun u hu => ⟨by rw [cell_of_row _ _ _ _ _ _ hu]; rfl, by rw [cell_of_row _ _ _ _ _ _ hu]; rfl⟩
          have KEY := Lib.hid key
          clear key
          have hS0 := KEY.out w5.drew HX5.out
          go_upto_region 11 with (fail)
          refine region_head 11 [0, 1, 2, 3, 4, 5, 6, 7, 8, 9, 10] [6, 7, 9, 10] (fun u => u.cell? ⟨B5, 0, none⟩ = some (.int .u64 (K : Int)) ∧ u.cell? ⟨B5, 1, none⟩ = some (.slice av nv cv)) (by kernel_rfl) (by kernel_rfl) hS0 ?_
          simp only [pickO, List.filterMap_cons, List.filterMap_nil, List.getElem?_cons_zero, List.getElem?_cons_succ, Option.map_some, List.drop_succ_cons, List.drop_zero]
          clear hS0
          iterate 6
            refine seqH_read _ rfl rfl (by rintro u ⟨hu1, hu2⟩; go_simp; with_reducible rfl) ?_
            try simp only [Act.put, List.setIfInBounds_toArray, List.set_cons_zero, List.set_cons_succ]
          refine seqH_move rfl rfl (fun Kk hK => ?_)
          go_simp
          refine (valueWidth_any K w5.drew).mono ?_
          rintro e w6 ⟨rfl, rfl⟩
          refine hK _ _ (KEY.out w5.drew HX5.out) ?_
          clear hK Kk
          try simp only [Act.put, List.setIfInBounds_toArray, List.set_cons_zero, List.set_cons_succ]
          have D2 := rdnum_le w5.drew g sl 128 l (2 + ewN K * j + 8) (vwN K) (HR5.out.drewN 1) HV8.out.1 HV8.out.2 HIN.out
          rw [HNX.out, H10.out] at D2
          generalize hV : le ((l.drop (10 + ewN K * j)).take (vwN K)) = V at *
          have D2 := Lib.hid D2
          refine seqH_move rfl rfl (fun Kk hK => ?_)
          go_simp
          refine (D2.out).mono ?_
          rintro e w7 ⟨rfl, hr7, hg7⟩
          have hbox7 := (hg7.block B5 hlB5' (by simp; omega)).trans HX5.out
          have hb27 := (hg7.block w.heap.size (Nat.lt_trans (Nat.lt_trans hg1 hg2) hlB5') (by simp; omega)).trans HB25.out
          have hrec7 := HREC5.out.keep (w' := w7) fun q hq => hg7.block q (HREC5.out.lt q hq) (by have := HOWN.out q hq; simp; omega)
          have hbel7 : Below w.heap.size w w7 := HBEL5.out.drew.grown hg7 HBEL5.out.size (fun k hk => by cases hk; omega)
          refine hK _ _ (KEY.out w7 hbox7) ?_
          clear hK Kk D2 hV
          try simp only [Act.put, List.setIfInBounds_toArray, List.set_cons_zero, List.set_cons_succ]
          refine seqH_read _ rfl rfl (by rintro u ⟨hu1, hu2⟩; go_simp; with_reducible rfl) ?_
          try simp only [Act.put, List.setIfInBounds_toArray, List.set_cons_zero, List.set_cons_succ]
          have hal : Below w7.heap.size w7 (w7.alloc (.cells (pairC (A, V)).toArray 114)) := (Below.refl _ _).alloc (Nat.le_refl _) _
          have hlB7 : B5 < w7.heap.size := (Array.getElem?_eq_some_iff.1 hbox7).1
          have hbox8 := (hal.block B5 hlB7).trans hbox7
          have hb28 := (hal.block w.heap.size (Nat.lt_trans (Nat.lt_trans hg1 hg2) hlB7)).trans hb27
          have hrec8 := hrec7.below hal
          have hr8 := hr7.below hal
          have hbel8 := hbel7.trans (hal.mono hbel7.size)
          have hlen8 : ((entsOf l).take j).length = nv := hrec8.came.1
          have hnv : nv ≤ 255 := by rw [← hlen8, List.length_take]; omega
          obtain ⟨i0, hi0, hz0, hz1, hz2⟩ := info_parts infoPair
          refine seqH_move rfl rfl (fun Kk hK => ?_)
          refine wp_buildSliceV 109 1 _ rfl #[(0, .agg (pairC (A, V)).toArray)] (by simp [go_sem, pairC]) _ _ (built_pair (pairC (A, V)).toArray rfl _) ?_
          refine hK _ _ (KEY.out _ hbox8) ?_
          clear hK Kk
          try simp only [Act.put, List.setIfInBounds_toArray, List.set_cons_zero, List.set_cons_succ]
          refine seqH_move rfl rfl (fun Kk hK => ?_)
          refine wp_append_recs _ _ 109 rfl 114 i0 _ 2 16 Tryz.underlying109 hi0 hz0 hz1 hz2 (by simp [Value.cells]) (by omega) _ _ rfl hrec8 ⟨w7.heap.size, 0, none⟩ 1 1 [(A, V)] rfl rfl (fun y _ => pairC_len y) (fun y _ => pairC_one y) (one_rec (heap_alloc_new w7 _)) (by unfold maxLen; omega) (by omega) ?_
          intro v' w9 hrec9 hg9 hv9
          obtain ⟨a9, c9, hv0, _, _⟩ := hrec9.form
          rw [List.length_append, List.length_singleton] at hv0
          subst hv0
          have hneB5 : some B5 ≠ (Value.slice av nv cv).ownBlock := fun e => hrec8.ne_of hbox8 (by decide) B5 e.symm rfl
          have hneB2 : some w.heap.size ≠ (Value.slice av nv cv).ownBlock := fun e => hrec8.ne_of hb28 (by decide) w.heap.size e.symm rfl
          have hbox9 := (hg9.block B5 (by simp; omega) hneB5).trans hbox8
          have hb29 := (hg9.block w.heap.size (by simp; omega) hneB2).trans hb28
          have hbel9 : Below w.heap.size w w9 := hbel8.grown hg9 hbel8.size (fun q hq => by have := HOWN.out q hq; omega)
          have hown9 : ∀ q, (Value.slice a9 (((entsOf l).take j).length + 1) c9).ownBlock = some q → g < q := fun q hq => by
            rcases hv9 with e | e
            · exact HOWN.out q (e ▸ hq)
            · rw [e] at hq; simp at hq; omega
          have hr9 : Rd w9 g sl 128 l (2 + ewN K * (j + 1)) 0 := by
            refine hr8.agree (hg9.block g (by have := hr8.lt; exact this) (fun e => hrec8.ne_of hr8.1 (by decide) g e.symm rfl)) (fun x hx => hg9.block x.block (by have := (hsl3 x hx).2; simp; omega) (fun e => by have := HOWN.out _ e.symm; have := (hsl3 x hx).2; omega))
          rw [← HEN.out, hlen8] at hrec9
          rw [hlen8] at hown9 ⊢
          refine hK _ _ (KEY.out _ hbox9) ?_
          have HREC9 := Lib.hid hrec9
          have HX9 := Lib.hid hbox9
          have HB29 := Lib.hid hb29
          have HBEL9 := Lib.hid hbel9
          have HOWN9 := Lib.hid hown9
          have HR9 := Lib.hid hr9
          clear hK Kk hal hlB7 hbox8 hb28 hrec8 hr8 hbel8 hrec7 hbox7 hb27 hr7 hg7 hbel7 hneB5 hneB2 hg9 hv9 hrec9 hbox9 hb29 hbel9 hown9 hr9 hi0 hz0 hz1 hz2
          try simp only [Act.put, List.setIfInBounds_toArray, List.set_cons_zero, List.set_cons_succ]
          refine seqH_nil ?_
          have f1 : w9.frozen? ⟨B5, 1, none⟩ = false := frozen_of_row _ _ _ _ _ HX9.out
          have c1 : w9.cell? ⟨B5, 1, none⟩ = some (.slice av nv cv) := (KEY.out _ HX9.out).2
          go_wp2
          have hgs : w9.grownBy (w9.setCell ⟨B5, 1, none⟩ (.slice a9 (nv + 1) c9)) (some B5) := setCell_grown _ _ _ _
          have hb5 := HX9.out
          refine ⟨⟨j + 1, by omega, by go_num, HR9.out.other hgs (by omega) (fun x hx => by have := (hsl3 x hx).2; omega), (hgs.block w.heap.size (Array.getElem?_eq_some_iff.1 HB29.out).1 (by simp; omega)).trans HB29.out, HBEL9.out.grown hgs HBEL9.out.size (fun k hk => by cases hk; omega), ⟨hg1, hg2⟩, hsl3, a9, nv + 1, c9, heap_setCell_same _ _ _ _ _ _ hb5, ?_, HOWN9.out⟩, by simp [intOf]; omega⟩
          exact HREC9.out.keep fun q hq => hgs.block q (HREC9.out.lt q hq) (by have := HREC9.out.ne_of hb5 (by decide) q hq; simpa using this)
        · obtain rfl : j = C := by omega
          rw [List.take_of_length_le (Nat.le_of_eq HEL.out)] at hrec
          have hlen8 : (entsOf l).length = nv := hrec.came.1
          have CP := Lib.hid (page_any K av nv cv (entsOf l) wr hrec.came (by rw [HEL.out]; exact hmy) HFIT.out)
          have c0 : wr.cell? ⟨B5, 0, none⟩ = some (.int .u64 (K : Int)) := by rw [cell_of_row _ _ _ _ _ _ hbox]; rfl
          have c1 : wr.cell? ⟨B5, 1, none⟩ = some (.slice av nv cv) := by rw [cell_of_row _ _ _ _ _ _ hbox]; rfl
          have hlb := HZ0.out
          have HREC := Lib.hid hrec
          have HBOX := Lib.hid hbox
          have HOWN := Lib.hid hown
          have HB2 := Lib.hid hb2
          have HBEL := Lib.hid hbel
          have HIF := Lib.hid (HIFP.out hmy)
          have hy := HL0.out.below hbel
          have HY := Lib.hid hy
          clear hrec hbox hown hb2 hbel hrd hlb hy hlen8
          go_wp2_with fail
          refine (CP.out).mono ?_
          rintro e w5 ⟨a5, c5, rfl, ho5, hb5⟩
          have CE := equal_anyT a5 128 c5 (pageL K (entsOf l)) a 128 cap l w5 (BytesAt.owned ho5) (HY.out.below hb5)
          rw [← HIF.out] at CE
          have CE := Lib.hid CE
          have hbox5 := (hb5.block B5 (Array.getElem?_eq_some_iff.1 HBOX.out).1).trans HBOX.out
          have hb25 := (hb5.block w.heap.size (Array.getElem?_eq_some_iff.1 HB2.out).1).trans HB2.out
          have hrec5 := HREC.out.below hb5
          have hbel5 := HBEL.out.trans (hb5.mono HBEL.out.size)
          have HX5 := Lib.hid hbox5
          have HB25 := Lib.hid hb25
          have HREC5 := Lib.hid hrec5
          have HBEL5 := Lib.hid hbel5
          clear ho5 hb5 hbox5 hb25 hrec5 hbel5 CP c0 c1
          cases hp : isP l with
          | false =>
            rw [hp] at CE
            unfold nodeZ at HSN HAN HB25
            go_wp2_with (first | (go_at_call 118; refine (CE.out).mono ?_; rintro e w6 ⟨rfl, rfl⟩) | (refine wpList_store_row rfl _ _ _ rfl w.heap.size #[.int .u64 0, .slice none 0 0] rfl rfl 240 _ HB25.out HSN.out rfl HAN.out ?_))
            exact bodyPost_ret (v := .tuple #[.agg nodeZ, .bool false]) (results_cell_slot1 rfl _ _ w.heap.size 240 nodeZ (0, 0) _ _ rfl (heap_setRow_same _ _ _ _ _ HB25.out) rfl Tryz.underlying240 rfl sizeNode) rfl ⟨below_setRow HBEL5.out (Nat.le_refl _) _, .inl ⟨hp, rfl⟩⟩
          | true =>
            rw [hp] at CE
            have HSN3 := Lib.hid (show (Tryz.prog.info? 240).map (·.size) = some (#[Value.int .u64 (K : Int), Value.slice av nv cv] : Array Value).size from sizeNode)
            have HAN3 := Lib.hid (all_node (.slice av nv cv) rfl K)
            unfold nodeZ at HB25
            go_wp2_with (first | (go_at_call 118; refine (CE.out).mono ?_; rintro e w6 ⟨rfl, rfl⟩) | (refine wpList_load_row rfl 240 _ rfl B5 rfl 240 _ _ _ HX5.out Tryz.underlying240 rfl HSN3.out ?_) | (refine wpList_store_row rfl _ _ _ rfl w.heap.size #[.int .u64 (K : Int), .slice av nv cv] rfl rfl 240 _ HB25.out HSN3.out rfl HAN3.out ?_))
            have hgs := setRow_grown w5 w.heap.size #[.int .u64 (K : Int), .slice av nv cv]
            refine bodyPost_ret (v := .tuple #[.agg #[.int .u64 (K : Int), .slice av nv cv], .bool true]) (results_cell_slot1 rfl _ _ w.heap.size 240 #[.int .u64 (K : Int), .slice av nv cv] (0, 0) _ _ rfl (heap_setRow_same _ _ _ _ _ HB25.out) rfl Tryz.underlying240 rfl HSN3.out) rfl ⟨below_setRow HBEL5.out (Nat.le_refl _) _, .inr ⟨hp, av, nv, cv, by rw [HK.out], ?_, fun q hq => by have := HOWN.out q hq; omega⟩⟩
            exact HREC5.out.keep fun q hq => hgs.block q (HREC5.out.lt q hq) (by have := HREC5.out.ne_of HB25.out (by decide) q hq; simpa using this)
  · have hp : isP l = false := by unfold isP; rw [decide_eq_false (by omega)]; rfl
    have hne : ¬ (n : Int) = 128 := by omega
    clear hlen
    unfold nodeZ at HSN HAN HBX0 HZ0
    go_enter Tryz.func163, Tryz.ntmps163
    go_wp2_with (refine wpList_store_row rfl _ _ _ rfl w.heap.size #[.int .u64 0, .slice none 0 0] rfl rfl 240 _ HBX0.out HSN.out rfl HAN.out ?_)
    exact bodyPost_ret (v := .tuple #[.agg nodeZ, .bool false]) (results_cell_slot1 rfl _ _ w.heap.size 240 nodeZ (0, 0) _ _ rfl (heap_setRow_same _ _ _ _ _ HBX0.out) rfl Tryz.underlying240 rfl sizeNode) rfl ⟨below_setRow HZ0.out (Nat.le_refl _) _, .inl ⟨hp, rfl⟩⟩

end Go.Proofs.YtjcmphjjkeigjaaGreat

namespace Go.Proofs.YtjcmphjjkeigjaaGreat
open Go.RowKit
set_option linter.unusedVariables false
set_option linter.unusedSimpArgs false
set_option maxRecDepth 100000

def dirNum (b : List UInt8) (k : Nat) : Nat := le ((b.drop (6 + 2 * k)).take 2)
theorem dirNum_lt (b : List UInt8) (k : Nat) : dirNum b k < 65536 := by
  have := le_lt ((b.drop (6 + 2 * k)).take 2)
  have h2 : ((b.drop (6 + 2 * k)).take 2).length ≤ 2 := by simp; omega
  have h3 : 256 ^ ((b.drop (6 + 2 * k)).take 2).length ≤ 256 ^ 2 := Nat.pow_le_pow_right (by omega) h2
  unfold dirNum; omega
theorem dirNum_out (b : List UInt8) (k : Nat) (h : b.length ≤ 6 + 2 * k) : dirNum b k = 0 := by
  unfold dirNum; rw [List.drop_eq_nil_of_le h]; rfl
theorem dirNums_eq (b : List UInt8) (n : Nat) (h : n = le ((b.drop 4).take 2)) : dirNums b = (List.range n).map (dirNum b) := by subst h; rfl

/-- the numbers that are read, noughts behind -/
def dirFill (b : List UInt8) (n j : Nat) : List Int := (List.range n).map fun k => if k < j then ((dirNum b k : Nat) : Int) else 0
theorem dirFill_len (b : List UInt8) (n j : Nat) : (dirFill b n j).length = n := by simp [dirFill]
theorem dirFill_set (b : List UInt8) (n j : Nat) (hj : j < n) : (dirFill b n j).set j ((dirNum b j : Nat) : Int) = dirFill b n (j + 1) := by
  apply List.ext_getElem
  · simp [dirFill]
  · intro k h1 h2
    rw [List.getElem_set]
    simp only [dirFill, List.getElem_map, List.getElem_range]
    by_cases hk : j = k
    · subst hk; simp
    · rw [if_neg hk]
      by_cases hkj : k < j
      · rw [if_pos hkj, if_pos (by omega)]
      · rw [if_neg hkj, if_neg (by omega)]
theorem dirFill_all (b : List UInt8) (n : Nat) (h : n = le ((b.drop 4).take 2)) : dirFill b n n = pagesI (dirNums b) := by
  rw [dirNums_eq b n h, pagesI, List.map_map]
  apply List.map_congr_left
  intro k hk
  simp only [List.mem_range] at hk
  simp [hk]
theorem dirFill_zero (b : List UInt8) (n : Nat) : dirFill b n 0 = List.replicate n 0 := by
  unfold dirFill
  rw [List.eq_replicate_iff]
  simp

/-- where the reader is behind j numbers -/
def rdAt (j at_ er : Nat) : Prop := at_ ≤ 128 ∧ ((er = 0 ∧ at_ = 6 + 2 * j) ∨ (er ≠ 0 ∧ 128 < 6 + 2 * j))
theorem rdAt_step (b : List UInt8) (hb : b.length = 128) (j at_ er : Nat) (h : rdAt j at_ er) : (rNum b at_ er 2).1 = dirNum b j ∧ rdAt (j + 1) (rNum b at_ er 2).2.1 (rNum b at_ er 2).2.2 := by
  obtain ⟨h1, h2⟩ := h
  unfold rNum
  rcases h2 with ⟨rfl, rfl⟩ | ⟨h2, h3⟩
  · rw [if_neg (by simp), if_neg (by omega)]
    by_cases hs : (b.length : Int) < ((6 + 2 * j : Nat) : Int) + 2
    · rw [if_pos hs]
      exact ⟨(dirNum_out b j (by omega)).symm, h1, .inr ⟨by simp, by omega⟩⟩
    · rw [if_neg hs]
      refine ⟨rfl, ?_, .inl ⟨rfl, ?_⟩⟩
      · simp; omega
      · simp; omega
  · rw [if_pos h2]
    exact ⟨(dirNum_out b j (by omega)).symm, h1, .inr ⟨h2, by omega⟩⟩

theorem flat_ints (L : List Int) : L.flatMap intCS = L.map fun z => Value.int .i64 z := by
  induction L with
  | nil => rfl
  | cons x L ih => rw [List.flatMap_cons, ih]; rfl
theorem recs_ints {w : World} {B n : Nat} {v : Value} {L : List Int} {xs : List Value} (h : w.ownsRow B 3 1 v n xs) (hx : xs = L.map fun z => Value.int .i64 z) (hn : n = L.length) : Recs intCS w 3 1 v L := by
  subst hx; subst hn
  exact ⟨fun _ _ => rfl, fun x _ u hu => by simp [intCS] at hu; subst hu; rfl, by rw [flat_ints]; exact owned_zero h⟩

def DirTo (b : List UInt8) (w : World) (e : Ending) (w' : World) : Prop :=
  ∃ a m c, e = .returned (.tuple #[.slice a m c, .bool (decide (superL (dirNums b) = b))]) ∧ IntsAt w' a m c (pagesI (dirNums b)) ∧ Below w.heap.size w w' ∧ ∀ x, a = some x → w.heap.size ≤ x.block ∧ x.block < w'.heap.size

set_option maxHeartbeats 4000000 in
theorem dirOf_any (a : Option Addr) (cap : Nat) (b : List UInt8) (w : World) (h : BytesAt w a 128 cap b) :
    Calls Tryz.prog 120 #[.slice a 128 cap] w (DirTo b w) := by
  have hlen : b.length = 128 := h.1
  have HB := Lib.hid h
  have CR := Lib.hid (read_any a 128 cap b w h (by omega))
  obtain ⟨n, hn⟩ : ∃ n, n = le ((b.drop 4).take 2) := ⟨_, rfl⟩
  have hn6 : n < 65536 := by
    rw [hn]
    have := le_lt ((b.drop 4).take 2)
    rw [List.length_take, List.length_drop, hlen] at this
    exact this
  have HN := Lib.hid hn
  have HST := Lib.hid (fun j at_ er (hh : rdAt j at_ er) => rdAt_step b hlen j at_ er hh)
  have HLE := Lib.hid hlen
  obtain ⟨i0, hi, hz0, hz1, hz2⟩ := info_parts infoIntS
  have hb1 : Hid (i0.bytes * n ≤ 281474976710656) := by unfold Hid; rw [hz2]; omega
  have hb2 : Hid (n ≤ maxLen) := by unfold Hid maxLen; omega
  clear h hlen hn
  go_enter Tryz.func120, Tryz.ntmps120
  go_wp2_with fail
  refine CR.out.mono ?_
  rintro e w1 ⟨g, sl, rfl, hg, hr, hsl, hb⟩
  have CW := Lib.hid (rdraw_ok w1 g sl 128 b 0 4 hr (by omega) (by omega))
  have HB1 := Lib.hid hb
  have HSL := Lib.hid hsl
  clear hr hsl hb CR
  go_wp2_with fail
  refine CW.out.mono ?_
  rintro e w2 ⟨a2, c2, rfl, _, hr2, hg2, _⟩
  have CN := Lib.hid (rdnum_le w2 g sl 128 b 4 2 hr2 (by omega) (by omega) (by omega))
  rw [← HN.out] at CN
  have hon2 : Only (fun q => q = g) w1 w2 := Only.of_grown hg2 fun q e => by cases e; rfl
  have HB2 := Lib.hid (HB1.out.trans (hon2.below HB1.out.size fun q hq e => by omega))
  clear hr2 hg2 hon2 CW
  go_wp2_with fail
  refine CN.out.mono ?_
  rintro e w3 ⟨rfl, hr3, hg3⟩
  have hon3 : Only (fun q => q = g) w2 w3 := Only.of_grown hg3 fun q e => by cases e; rfl
  have HB3 := Lib.hid (HB2.out.trans (hon3.below HB2.out.size fun q hq e => by omega))
  have HR3 := Lib.hid hr3
  clear hr3 hg3 hon3 CN
  go_wp2_with (at_make; refine wpList_make_full _ rfl (.tmp 12) (.tmp 12) 78 rfl w3.heap.size 3 i0 (.int .i64 0) 1 Tryz.underlying78 hi hz0 hz1 .u64 .u64 _ _ n rfl rfl rfl rfl hb1.out hb2.out (Nat.le_refl _) ?_; intro w4 hown hgrow)
  have hrc : Recs intCS w4 3 1 (.slice (some ⟨w3.heap.size, 0, none⟩) n n) (dirFill b n 0) := recs_ints hown (by rw [dirFill_zero, Nat.mul_one]; show (madeCells #[.int .i64 0] n).toList = _; rw [toList_madeCells_one, List.map_replicate]) (dirFill_len _ _ _).symm
  have hb34 : Below w3.heap.size w3 w4 := ⟨hgrow.os, hgrow.tape, hgrow.output, hgrow.size, fun i hi => hgrow.block i hi (by simp)⟩
  have HB4 := Lib.hid (HB3.out.trans (hb34.mono HB3.out.size))
  have HR4 := Lib.hid (HR3.out.below hb34)
  have HRC := Lib.hid hrc
  obtain ⟨B, hB⟩ : ∃ B, B = w3.heap.size := ⟨_, rfl⟩
  have hgB : g < B := by
    rw [hB]
    exact (Array.getElem?_eq_some_iff.1 HR3.out.1).1
  have hBw : w.heap.size ≤ B := by rw [hB]; exact HB3.out.size
  rw [← hB] at HRC ⊢
  clear hrc hb34 hown hgrow hB HB3 HR3
  go_loopw [16] (fun i wr => ∃ (j at_ er : Nat), i = .int .i64 (j : Nat) ∧ j ≤ n ∧ rdAt j at_ er ∧ Rd wr g sl 128 b at_ er ∧ Recs intCS wr 3 1 (.slice (some ⟨B, 0, none⟩) n n) (dirFill b n j) ∧ Below w.heap.size w wr) (fun i _ => n - (intOf i).toNat)
  case atStart => exact ⟨0, 6, 0, rfl, Nat.zero_le _, ⟨by omega, .inl ⟨rfl, rfl⟩⟩, HR4.out, HRC.out, HB4.out⟩
  case round =>
    clear HR4 HRC HB4
    obtain ⟨j, at_, er, rfl, hj, hra, hrd, hrc, hb⟩ := hrel
    have HRA := Lib.hid hra
    have HRD := Lib.hid hrd
    have HRC := Lib.hid hrc
    have HBW := Lib.hid hb
    clear hra hrd hrc hb
    by_cases hlt : j < n
    · have hlti : (j : Int) < (n : Int) := by omega
      obtain ⟨hv, hra2⟩ := HST.out j at_ er HRA.out
      have CN := rdnum_any wr g sl 128 b at_ er 2 HRD.out HRA.out.1
      rw [hv] at CN
      have HRA2 := Lib.hid hra2
      generalize (rNum b at_ er 2).2.1 = at2 at *
      generalize (rNum b at_ er 2).2.2 = er2 at *
      have CN2 := Lib.hid CN
      have hset := dirFill_set b n j hlt
      have HSET := Lib.hid hset
      have hdl := dirNum_lt b j
      have hwr : IntKind.i64.wrap ((dirNum b j : Nat) : Int) = ((dirNum b j : Nat) : Int) := IntWalk.i64_in _ (by omega)
      generalize dirNum b j = q at *
      clear CN hra2 hset hv
      go_wp2_with fail
      refine CN2.out.mono ?_
      rintro e w5 ⟨rfl, hr5, hg5⟩
      have hon5 : Only (fun x => x = g) wr w5 := Only.of_grown hg5 fun x e => by cases e; rfl
      have hrc5 := HRC.out.only hon5 fun x hx e => by simp [Value.ownBlock] at hx; omega
      have hst := Recs.stored hrc5 j 0 (by rw [dirFill_len]; exact hlt) (by omega) (q : Int) (.int .i64 (q : Int)) rfl rfl
      rw [Nat.mul_one, Nat.add_zero, HSET.out] at hst
      have HSTD := Lib.hid hst
      have hcell := Recs.cellAt hrc5 j 0 _ (List.getElem?_eq_getElem (by rw [dirFill_len]; exact hlt)) (by omega)
      have hfro := Recs.frozenAt hrc5 j
      rw [Nat.mul_one, Nat.add_zero] at hcell
      have hcell2 : w5.cell? ⟨B, j, none⟩ = some (.int .i64 ((dirFill b n j)[j]'(by rw [dirFill_len]; exact hlt))) := hcell
      have hon6 : Only (fun x => x = B) w5 (w5.setCell ⟨B, j, none⟩ (.int .i64 (q : Int))) := Only.setCell (S := fun x => x = B) _ _ _ rfl
      have HB6 := Lib.hid ((HBW.out.trans (hon5.below HBW.out.size fun i hi e => by omega)).trans (hon6.below (Nat.le_trans HBW.out.size hon5.size) fun i hi e => by omega))
      have HR6 := Lib.hid (show Rd (w5.setCell ⟨B, j, none⟩ (.int .i64 (q : Int))) g sl 128 b at2 er2 from ⟨(Below.heap_setCell _ _ _ _ (by show g ≠ B; omega)).trans hr5.1, hr5.2.1.only hon6 fun x hx e => by have := (HSL.out x hx).2; omega, hr5.2.2⟩)
      generalize (dirFill b n j)[j]'(by rw [dirFill_len]; exact hlt) = old at *
      clear hr5 hg5 hon5 hrc5 hst hcell hon6
      go_wp2_with fail
      go_roundw
      case rel => exact ⟨j + 1, at2, er2, by first | rfl | simp, by omega, HRA2.out, HR6.out, HSTD.out, HB6.out⟩
      case measure => simp only [intOf]; omega
    · have hlti : ¬ (j : Int) < (n : Int) := by omega
      have hjn : j = n := by omega
      subst hjn
      have hcm := HRC.out.came
      rw [dirFill_all b j HN.out] at hcm
      have hdl : (dirNums b).length = j := by rw [dirNums_eq b j HN.out]; simp
      have CS := Lib.hid (superH_any (some ⟨B, 0, none⟩) j j (dirNums b) wr hcm (by rw [dirNums_eq b j HN.out]; intro p hp; simp at hp; obtain ⟨k, _, rfl⟩ := hp; exact dirNum_lt b k) hn6)
      have HCM := Lib.hid hcm
      clear hcm hdl
      go_wp2_with fail
      refine CS.out.mono ?_
      rintro e w5 ⟨a5, m5, c5, rfl, hy5, hb5, _⟩
      have CE := Lib.hid (equal_anyT a5 m5 c5 (superL (dirNums b)) a 128 cap b w5 hy5 (HB.out.below (HBW.out.trans (hb5.mono HBW.out.size))))
      have HB5 := Lib.hid (HBW.out.trans (hb5.mono HBW.out.size))
      have hBlt : B < w5.heap.size := Nat.lt_of_lt_of_le (HRC.out.lt B rfl) hb5.size
      have HC5 := Lib.hid (CameAt.below HCM.out (Nat.zero_lt_succ 0) hb5)
      clear hy5 hb5 CS
      go_wp2_with fail
      refine CE.out.mono ?_
      rintro e w6 ⟨rfl, rfl⟩
      go_wp2
      go_ret2
      exact ⟨some ⟨B, 0, none⟩, j, j, rfl, HC5.out, HB5.out, fun x hx => by cases hx; exact ⟨hBw, hBlt⟩⟩

end Go.Proofs.YtjcmphjjkeigjaaGreat

namespace Go.Proofs.YtjcmphjjkeigjaaGreat
open Go.RowKit
set_option linter.unusedVariables false
set_option linter.unusedSimpArgs false
set_option maxRecDepth 100000

def putM (M : List SpM) (x : SpM) : List SpM := M.filter (fun y => decide (y.s.key < x.s.key)) ++ x :: M.filter fun y => decide (x.s.key < y.s.key)
theorem mapL_put (M : List SpM) (x : SpM) : mputV (mapL M) x.s.key (spotV x) = mapL (putM M x) := by
  unfold mputV mapL putM
  rw [List.filter_map, List.filter_map, List.map_append, List.map_cons]
  rfl
theorem spts_put (M : List SpM) (x : SpM) : (putM M x).map (·.s) = insL (M.map (·.s)) x.s := by
  unfold putM insL
  rw [List.filter_map, List.filter_map, List.map_append, List.map_cons]
  rfl
theorem putM_mem (M : List SpM) (x y : SpM) (h : y ∈ putM M x) : y = x ∨ y ∈ M := by
  unfold putM at h
  rcases List.mem_append.1 h with h | h
  · exact .inr (List.mem_filter.1 h).1
  · rcases List.mem_cons.1 h with h | h
    · exact .inl h
    · exact .inr (List.mem_filter.1 h).1

theorem chain_len {D : Dk} (hk : D.Ok) {N : Nat} (hN : N + 42 = D.secs.length) : ∀ (n lk : Nat) (r : List Nat × List UInt8), chainOf D N n lk = some r → r.1.length = n ∧ r.2.length = 126 * n ∧ ∀ p ∈ r.1, p < N
  | 0, lk, r, hr => by
    simp only [chainOf] at hr
    split at hr
    · simp only [Option.some.injEq] at hr; subst hr; simp
    · cases hr
  | n + 1, lk, r, hr => by
    simp only [chainOf] at hr
    split at hr
    · cases hr
    · rename_i hc
      split at hr
      · cases hr
      · rename_i r' hr'
        simp only [Option.some.injEq] at hr
        subst hr
        obtain ⟨h1, h2, h3⟩ := chain_len hk hN n _ r' hr'
        have hl := hk.content (41 + lk) (by omega)
        refine ⟨by simp [h1], by simp only [List.length_append, List.length_drop, hl, h2]; omega, fun p hp => ?_⟩
        rcases List.mem_cons.1 hp with hp | hp
        · omega
        · exact h3 p hp

theorem cell_not_map {u : World} {p : Addr} {v : Value} (hc : u.cell? p = some v) {mb : Nat} {Ml : List (Nat × Value)} (hm : MapAt u mb Ml) : p.block ≠ mb := by
  intro e
  obtain ⟨es, clock, hb, _⟩ := hm.own
  unfold World.cell? at hc
  rw [e, hb] at hc
  cases hc
theorem CameAt.offmap {α : Type} {f : α → List Value} {size n cap : Nat} {u : World} {a : Option Addr} {L : List α} (h : CameAt f size u a n cap L) (hs : 0 < size) {mb : Nat} {Ml : List (Nat × Value)} (hm : MapAt u mb Ml) :
    ∀ p, a = some p → 0 < n → p.block ≠ mb := by
  rintro p rfl hn
  obtain ⟨h1, h2, h3, h4, h5⟩ := h
  rcases h5 with h5 | ⟨q, hq, hp⟩
  · cases h5.1
  · cases hq
    have hc := hp 0 0 (L[0]'(by omega)) (List.getElem?_eq_getElem (by omega)) hs
    have hl := h4 _ (List.getElem_mem (by omega : 0 < L.length))
    rw [List.getElem?_eq_getElem (by omega)] at hc
    have := cell_not_map hc hm
    rwa [add_block] at this
theorem BytesAt.offmap {n cap : Nat} {u : World} {a : Option Addr} {l : List UInt8} (h : BytesAt u a n cap l) {mb : Nat} {Ml : List (Nat × Value)} (hm : MapAt u mb Ml) : ∀ p, a = some p → 0 < n → p.block ≠ mb := by
  rintro p rfl hn
  obtain ⟨h1, h2, h3, h4⟩ := h
  rcases h4 with h4 | ⟨q, hq, hp⟩
  · cases h4.1
  · cases hq
    have := cell_not_map (hp 0 hn) hm
    rwa [add_block] at this
theorem BytesAt.keepN {u u' : World} {a : Option Addr} {n cap : Nat} {l : List UInt8} (h : BytesAt u a n cap l) (hk : ∀ p, a = some p → 0 < n → u'.heap[p.block]? = u.heap[p.block]?) : BytesAt u' a n cap l := by
  rcases Nat.eq_zero_or_pos n with hn | hn
  · obtain ⟨h1, h2, h3, h4⟩ := h
    refine ⟨h1, h2, h3, ?_⟩
    rcases h4 with h4 | ⟨x, rfl, hx⟩
    · exact .inl h4
    · exact .inr ⟨x, rfl, fun i hi => by omega⟩
  · exact h.keepB fun p hp => hk p hp hn

/-- the map alone changed -/
theorem HotV.turned {u u' : World} {U V : Nat → Prop} {mb : Nat} {da : Option Addr} {dn dc : Nat} {ba : Option Addr} {bn bc : Nat} {M M' : List SpM} {h : Ht} {l : List Spt} (k : HotV u U mb da dn dc ba bn bc M h)
    (ho : Only (fun q => q = mb) u u') (hm : MapAt u' mb (mapL M')) (he : M'.map (·.s) = l) (hU : ∀ q, U q → V q) (hlt : ∀ q, V q → q < u'.heap.size)
    (hp : ∀ x ∈ M', x ∈ M ∨ (IntsAt u' x.a x.n x.cap (pagesI x.s.pages) ∧ ∀ p, x.a = some p → V p.block)) : HotV u' V mb da dn dc ba bn bc M' { h with at_ := l } := by
  have hb : ∀ p : Addr, (p.block ≠ mb) → p.block < u.heap.size → u'.heap[p.block]? = u.heap[p.block]? := fun p h1 h2 => ho.block p.block h2 h1
  refine ⟨hm, he, fun x hx => ?_, ?_, ⟨k.used.len, k.used.num, ?_⟩, hlt, hU _ k.inM, fun x hx => ?_, fun p hp => hU _ (k.inD p hp), fun p hp => hU _ (k.inB p hp)⟩
  · rcases hp x hx with h1 | h1
    · exact (k.pages x h1).keep (by omega) fun p hp h0 hl => hb p (CameAt.offmap (k.pages x h1) (by omega) k.at_ p hp h0) hl
    · exact h1.1
  · exact k.dir.keep (by omega) fun p hp h0 hl => hb p (CameAt.offmap k.dir (by omega) k.at_ p hp h0) hl
  · exact k.used.oct.keepN fun p hp h0 => hb p (k.used.oct.offmap k.at_ p hp h0) (k.lt _ (k.inB p hp))
  · rcases hp x hx with h1 | h1
    · exact fun p hp => hU _ (k.inP x h1 p hp)
    · exact h1.2

section
variable {w : World} {S U : Nat → Prop} {g gd : Nat} {D : Dk} {h : Ht}

def LoadTo (r : Option (Spt × List Bool)) (S U : Nat → Prop) (g gd : Nat) (D : Dk) (h : Ht) (w : World) (e : Ending) (w' : World) : Prop :=
  (r = none ∧ e = .returned (.bool false) ∧ Below w.heap.size w w') ∨
    ∃ s F', r = some (s, F') ∧ e = .returned (.bool true) ∧ ∃ U', HotAt w' S U' g gd D { h with at_ := insL h.at_ s, used := F' } ∧ Only (fun q => q = g ∨ U q) w w' ∧ ∀ k, U' k → U k ∨ w.heap.size ≤ k

theorem box_pair (u : World) (B k v : Nat) (h : u.heap[B]? = some (.cells #[.int .u64 (k : Nat), .int .u64 (v : Nat)] 114 (0, 0))) : u.cell? ⟨B, 0, none⟩ = some (.int .u64 (k : Nat)) ∧ u.cell? ⟨B, 1, none⟩ = some (.int .u64 (v : Nat)) :=
  ⟨by rw [cell_of_row u B 0 _ _ _ h]; rfl, by rw [cell_of_row u B 1 _ _ _ h]; rfl⟩

set_option maxHeartbeats 4000000 in
theorem loadBlob_any (k : HotAt w S U g gd D h) (hp : D.power = true) (p : Nat × Nat) (hp1 : p.1 < 18446744073709551616) (hp2 : p.2 < 18446744073709551616) (hm : h.at_.length < 100000) :
    Calls Tryz.prog 80 #[.pointer (some ⟨g, 0, none⟩), .agg #[.int .u64 p.1, .int .u64 p.2]] w (LoadTo (loadBlob D h.used p) S U g gd D h w) := by
  obtain ⟨ky, vl⟩ := p
  dsimp only at hp1 hp2
  obtain ⟨lk, hlk⟩ : ∃ x, x = vl % 65536 := ⟨_, rfl⟩
  obtain ⟨sz, hsz⟩ : ∃ x, x = vl / 65536 % 65536 := ⟨_, rfl⟩
  obtain ⟨sm, hsm⟩ : ∃ x, x = vl / 4294967296 := ⟨_, rfl⟩
  have e1 : IntKind.u16.wrap (vl : Int) = (lk : Int) := by rw [IntKind.wrap_u16]; omega
  have e2 : IntKind.u16.wrap ((vl : Int) / 65536) = (sz : Int) := by rw [IntKind.wrap_u16]; omega
  have e3 : IntKind.u32.wrap ((vl : Int) / 4294967296) = (sm : Int) := by rw [IntKind.wrap_u32]; omega
  have hlk6 : lk < 65536 := by omega
  have hsz6 : sz < 65536 := by omega
  obtain ⟨r, hr⟩ : ∃ r, r = loadBlob D h.used (ky, vl) := ⟨_, rfl⟩
  have hr2 := hr
  unfold loadBlob at hr2
  dsimp only at hr2
  rw [← hlk, ← hsz, ← hsm] at hr2
  have HRR := Lib.hid hr2
  rw [← hr]
  have hb0 : Below w.heap.size w (w.alloc (.cells #[.int .u64 (ky : Nat), .int .u64 (vl : Nat)] 114)) := (Below.refl _ _).alloc (Nat.le_refl _) _
  have HB0 := Lib.hid hb0
  have HBX := Lib.hid (heap_alloc_new w (.cells #[.int .u64 (ky : Nat), .int .u64 (vl : Nat)] 114))
  have HK := Lib.hid k
  have hszw : (w.alloc (.cells #[.int .u64 (ky : Nat), .int .u64 (vl : Nat)] 114)).heap.size = w.heap.size + 1 := by simp
  have HSW := Lib.hid hszw
  clear k hr hr2 hb0 hlk hsz hsm hszw
  go_enter Tryz.func80, Tryz.ntmps80
  go_upto_region 1 with (fail)
  obtain ⟨B, hB⟩ : ∃ B, B = w.heap.size := ⟨_, rfl⟩
  generalize World.alloc w _ = w0 at *
  rw [← hB] at HBX ⊢
  obtain ⟨x0, x1⟩ := box_pair w0 B ky vl HBX.out
  have HBB := Lib.hid hB
  clear hB
  go_big_quiet (fail)
  clear x0 x1
  have hq1 : Below w0.heap.size w0 (w0.drewN nq) := below_drewN (Below.refl _ _) _
  have HBX1 := Lib.hid ((show (w0.drewN nq).heap[B]? = w0.heap[B]? from rfl).trans HBX.out)
  have HB1 := Lib.hid (HB0.out.trans (hq1.mono HB0.out.size))
  have HBL := Lib.hid (show w.heap.size ≤ B ∧ B < (w0.drewN nq).heap.size from ⟨by rw [HBB.out]; exact Nat.le_refl _, by have := HSW.out; have := HBB.out; show B < w0.heap.size; omega⟩)
  clear hq1 HBX HB0 HSW HBB
  generalize w0.drewN nq = w1 at *
  by_cases hsz4 : 4032 < sz
  · have hszi : (4032 : Int) < (sz : Int) := by omega
    have hrn : r = none := by have := HRR.out; rw [if_pos hsz4] at this; exact this
    subst hrn
    clear hsz4 HRR
    go_wp2
    go_ret
    exact Or.inl ⟨rfl, rfl, HB1.out⟩
  · have hszi : ¬ (4032 : Int) < (sz : Int) := by omega
    have hrn := HRR.out
    rw [if_neg hsz4] at hrn
    have HR2 := Lib.hid hrn
    have hsz4' : sz ≤ 4032 := by omega
    clear hsz4 HRR hrn
    obtain ⟨pn, hpn⟩ : ∃ pn, pn = pfor sz := ⟨_, rfl⟩
    have hpn100 : pn ≤ 100 := by rw [hpn]; unfold pfor; omega
    have PN := Lib.hid (fun u => hpagesFor_any sz u (by omega))
    have HPN := Lib.hid hpn
    rw [← hpn] at HR2 PN
    have CH := Lib.hid (fun u (hu : Below w.heap.size w u) => chain_any (HK.out.below hu) hp lk pn hlk6 hpn100)
    have HCL := Lib.hid (fun r hr => chain_len HK.out.disk.ok HK.out.size pn lk r hr)
    clear hpn
    go_wp2_with fail
    refine (PN.out w1).mono ?_
    rintro e w2 ⟨rfl, rfl⟩
    go_wp2_with fail
    refine (CH.out w2 HB1.out).mono ?_
    rintro e w3 ⟨hb3, hch⟩
    have HBX3 := Lib.hid ((hb3.block B HBL.out.2).trans HBX1.out)
    have HB3 := Lib.hid (HB1.out.trans (hb3.mono HB1.out.size))
    have HS3 := Lib.hid hb3.size
    clear hb3 HBX1 HB1
    rcases hch with ⟨hn, v, rfl⟩ | ⟨P, X, a, cap, hsome, rfl, hown⟩
    · have hrn := HR2.out
      rw [hn] at hrn
      dsimp only at hrn
      subst hrn
      clear HR2 hn
      go_wp2
      go_ret
      exact Or.inl ⟨rfl, rfl, HB3.out⟩
    · have hrn := HR2.out
      rw [hsome] at hrn
      dsimp only at hrn
      have HR3 := Lib.hid hrn
      have HLN := Lib.hid (HCL.out _ hsome)
      have HPI := Lib.hid (show IntsAt w3 a P.length cap (pagesI P) from ints_owned hown)
      have CL := Lib.hid (claim_any (HK.out.below HB3.out) a P.length cap P HPI.out)
      rw [show (turnF false 15 h.used (pagesI P)).1 = (turnF false 15 h.used (P.map Int.ofNat)).1 from rfl] at CL
      have HOW := Lib.hid hown
      clear hrn hsome hown HR2
      go_wp2_with fail
      refine CL.out.mono ?_
      rintro e w4 (⟨F', hF, rfl, U', hA4, hO4, hU4⟩ | ⟨hF, rfl, hb4⟩)
      case inr =>
        have hrn := HR3.out
        rw [hF] at hrn
        dsimp only at hrn
        subst hrn
        have HB4 := Lib.hid (HB3.out.trans (hb4.mono HB3.out.size))
        clear hF hb4 HR3
        go_wp2
        go_ret
        exact Or.inl ⟨rfl, rfl, HB4.out⟩
      case inl =>
        have hrn := HR3.out
        rw [hF] at hrn
        dsimp only at hrn
        have HR4 := Lib.hid hrn
        have HA4 := Lib.hid hA4
        obtain ⟨mb, da, dn, dc, ba, bn, bc, M, hg4, hv4⟩ := hA4.ex
        have HG4 := Lib.hid hg4
        have HV4 := Lib.hid hv4
        have hBg : B ≠ g := by have := HBL.out.1; have := HK.out.lt; omega
        have HBX4 := Lib.hid ((hO4.block B (Nat.lt_of_lt_of_le HBL.out.2 HS3.out) hBg).trans HBX3.out)
        have key : ∀ u : World, u.heap[g]? = some (.cells (hotC gd mb da dn dc F'.length ba bn bc) 103 (0, 0)) → u.heap[B]? = some (.cells #[.int .u64 (ky : Nat), .int .u64 (vl : Nat)] 114 (0, 0)) → u.cell? ⟨g, 1, none⟩ = some (.map (some mb)) ∧ u.cell? ⟨B, 0, none⟩ = some (.int .u64 (ky : Nat)) ∧ u.cell? ⟨B, 1, none⟩ = some (.int .u64 (vl : Nat)) := fun u h1 h2 => ⟨(hot_cells h1).2.1, box_pair u B ky vl h2⟩
        have hS0 := key w4.drew HG4.out HBX4.out
        have HO4 := Lib.hid hO4
        have HU4 := Lib.hid hU4
        have HA4 := Lib.hid hA4
        clear hF hrn HR3 hA4 hg4 hv4 hO4 hU4 key
        go_upto_region 7 with (fail)
        refine region_head 14 [0, 1, 2, 3, 4, 5, 6, 7, 8, 9, 10, 11, 12, 13] [13] (fun u => u.cell? ⟨g, 1, none⟩ = some (.map (some mb)) ∧ u.cell? ⟨B, 0, none⟩ = some (.int .u64 (ky : Nat)) ∧ u.cell? ⟨B, 1, none⟩ = some (.int .u64 (vl : Nat))) (by kernel_rfl) (by kernel_rfl) hS0 ?_
        simp only [pickO, List.filterMap_cons, List.filterMap_nil, List.getElem?_cons_zero, List.getElem?_cons_succ, Option.map_some, List.drop_succ_cons, List.drop_zero]
        clear hS0
        iterate 13
          refine seqH_read _ rfl rfl (by rintro u ⟨hu1, hu2, hu3⟩; go_simp; with_reducible rfl) ?_
          try simp only [Act.put, List.setIfInBounds_toArray, List.set_cons_zero, List.set_cons_succ]
        refine seqH_move rfl rfl (fun Kk hK => ?_)
        obtain ⟨x, hx⟩ : ∃ x : SpM, x = ⟨⟨ky, P, X.take sz, sm⟩, a, P.length, cap⟩ := ⟨_, rfl⟩
        have hxl : (X.take sz).length = sz := by
          have h1 := HLN.out.2.1
          have h2 := HPN.out
          unfold pfor at h2
          rw [List.length_take]; omega
        have hsv : spotV x = .agg #[.slice a P.length cap, .int .i64 (sz : Nat), .int .u32 (sm : Nat)] := by rw [hx]; unfold spotV; dsimp only; rw [hxl]
        have hml : (mapL M).length < 1000000 := by
          have h1 := congrArg List.length HV4.out.eq
          simp only [List.length_map] at h1
          unfold mapL; rw [List.length_map]; omega
        obtain ⟨w5, hrun, hmap, ho5⟩ := MapAt.put (w := w4.drew) (HV4.out.at_.keep rfl) (t := 99) rfl hml ky hp1 (spotV x)
        rw [hsv] at hrun
        go_simp
        have hg5 := (ho5.block g (by have := (Array.getElem?_eq_some_iff.1 HG4.out).1; simpa using this) (HV4.out.at_.ne_cells HG4.out)).trans HG4.out
        have hB5 := (ho5.block B (by have := (Array.getElem?_eq_some_iff.1 HBX4.out).1; simpa using this) (HV4.out.at_.ne_cells HBX4.out)).trans HBX4.out
        refine hK _ _ ⟨(hot_cells hg5).2.1, box_pair w5 B ky vl hB5⟩ ?_
        refine seqH_nil ?_
        have HG5 := Lib.hid hg5
        have HM5 := Lib.hid hmap
        have HO5 := Lib.hid ho5
        have HX := Lib.hid hx
        clear hK Kk hrun hx hsv hg5 hB5 hmap ho5
        try simp only [Act.put, List.setIfInBounds_toArray, List.set_cons_zero, List.set_cons_succ]
        go_wp2
        go_ret
        have hx := HX.out
        have hR := HR4.out
        have hxs : x.s = ⟨ky, P, X.take sz, sm⟩ := by rw [hx]
        have hxk : x.s.key = ky := by rw [hxs]
        have hmap := HM5.out
        rw [show mputV (mapL M) ky (spotV x) = mapL (putM M x) by rw [← hxk]; exact mapL_put M x] at hmap
        have hw0 := HK.out.lt
        have hb3 := HB3.out
        have hBs := HBL.out
        have ho4 := HO4.out
        have ho5 := HO5.out
        have hs5 := ho5.size
        have hs4 := ho4.size
        rw [show w4.drew.heap.size = w4.heap.size from rfl] at hs5
        have hblk : ∀ p, a = some p → w.heap.size ≤ p.block ∧ p.block < w3.heap.size := fun p hp => by
          have hl := HOW.out.lt p.block (by rw [hp]; rfl)
          have := HB3.out.size
          omega
        have hmbM : U mb ∨ w3.heap.size ≤ mb := HU4.out mb HV4.out.inM
        have hmbn : ∀ p, a = some p → p.block ≠ mb := fun p hp e => by
          have h1 := hblk p hp
          rcases hmbM with h2 | h2
          · obtain ⟨_, _, _, _, _, _, _, _, _, hv⟩ := HK.out.ex
            have := hv.lt mb h2
            omega
          · omega
        have hP5 : IntsAt w5 a P.length cap (pagesI P) := HPI.out.keep (by omega) fun p hp h0 hl => by
          have h1 := hblk p hp
          rw [ho5.block p.block (by show p.block < w4.heap.size; omega) (hmbn p hp)]
          exact ho4.block p.block hl (by omega)
        have hv5 : HotV w5 (fun q => U' q ∨ ∃ p, a = some p ∧ q = p.block) mb da dn dc ba bn bc (putM M x) { at_ := insL h.at_ ⟨ky, P, X.take sz, sm⟩, dir := h.dir, used := F' } := by
          refine HotV.turned (u := w4.drew) (M' := putM M x) (HV4.out.keep (Nat.le_refl _) fun _ _ => rfl) ho5 hmap (by rw [spts_put, HV4.out.eq, hxs]) (fun q hq => .inl hq) ?_ ?_
          · rintro q (hq | ⟨p, hp, rfl⟩)
            · exact Nat.lt_of_lt_of_le (HV4.out.lt q hq) hs5
            · have := hblk p hp; omega
          · intro y hy
            rcases putM_mem M x y hy with rfl | hy
            · refine .inr ⟨?_, ?_⟩
              · rw [hx]; exact hP5
              · rw [hx]; exact fun p hp => .inr ⟨p, hp, rfl⟩
            · exact .inl hy
        refine Or.inr ⟨⟨ky, P, X.take sz, sm⟩, F', hR, rfl, fun q => U' q ∨ ∃ p, a = some p ∧ q = p.block, ⟨?_, ⟨mb, da, dn, dc, ba, bn, bc, putM M x, HG5.out, hv5⟩, ?_, HK.out.offS, ?_, ?_⟩, ?_, ?_⟩
        · exact (HA4.out.disk.below (Below.refl w4.heap.size w4).drew).only ho5 fun q hq e => HA4.out.apart mb HV4.out.inM (e ▸ hq)
        · rintro q (hq | ⟨p, hp, rfl⟩)
          · exact HA4.out.apart q hq
          · intro hq
            have h1 := HK.out.disk.lt _ hq
            have h2 := hblk p hp
            omega
        · rintro (hq | ⟨p, hp, e⟩)
          · exact HA4.out.offU hq
          · have h2 := hblk p hp
            omega
        · exact HA4.out.size
        · have h34 : Only (fun q => q = g) w w4 := (Only.of_below hb3).trans ho4 fun _ _ e => e
          have h44 : Only (fun q => q = g) w w4.drew := h34.trans (Only.of_below ((Below.refl w4.heap.size w4).drew)) fun _ _ e => e
          exact (h44.more fun q _ e => .inl e).trans ho5 fun q hq e => by
            subst e
            rcases hmbM with h2 | h2
            · exact .inr h2
            · have := hb3.size; omega
        · rintro q (hq | ⟨p, hp, rfl⟩)
          · rcases HU4.out q hq with h1 | h1
            · exact .inl h1
            · exact .inr (by have := hb3.size; omega)
          · exact .inr (hblk p hp).1
end

end Go.Proofs.YtjcmphjjkeigjaaGreat

namespace Go.Proofs.YtjcmphjjkeigjaaGreat
open Go.RowKit
set_option linter.unusedVariables false
set_option linter.unusedSimpArgs false

theorem number_ok (v wd : Nat) (w : World) (h1 : 1 ≤ wd) (h2 : wd ≤ 8) (hv : v < 256 ^ wd) :
    Calls Tryz.prog 152 #[.int .u64 v, .int .i64 wd] w (FreshB id wd (leB wd v) w) := by
  have CP := Lib.hid (put_ok v wd w h1 h2 hv)
  clear hv
  go_enter Tryz.func152, Tryz.ntmps152
  go_wp2_with (go_at_call 175; refine (CP.out).mono ?_; rintro e w1 ⟨a, cap, rfl, ho, hb⟩)
  go_ret
  exact ⟨a, cap, rfl, ho, hb⟩

theorem equal_any (a : Option Addr) (n cap : Nat) (l : List UInt8) (a' : Option Addr) (n' cap' : Nat) (l' : List UInt8) (w : World) (h : BytesAt w a n cap l) (h' : BytesAt w a' n' cap' l') :
    Calls Tryz.prog 118 #[.slice a n cap, .slice a' n' cap'] w fun e w' => e = .returned (.bool (l == l')) ∧ w = w' := by
  have c1 := h.conv
  have c2 := h'.conv
  clear h h'
  go_enter Tryz.func118, Tryz.ntmps118
  go_wp2
  go_ret
  exact ⟨rfl, rfl⟩

theorem home_yes (g : Nat) (D : Dk) (S : Nat → Prop) (w : World) (h : DiskAt w S g D) (hs : 41 < D.secs.length) :
    Calls Tryz.prog 88 #[.pointer (some ⟨g, 0, none⟩)] w fun e w' => e = .returned (.bool true) ∧ w = w' := by
  have CS := Lib.hid (size_any g D S w h)
  have hi : (41 : Int) < (D.secs.length : Int) := by omega
  clear h hs
  go_enter Tryz.func88, Tryz.ntmps88
  go_wp2_with (go_at_call 41; refine (CS.out).mono ?_; rintro e w1 ⟨rfl, rfl⟩)
  go_ret
  exact ⟨rfl, rfl⟩
theorem home_no (g : Nat) (D : Dk) (S : Nat → Prop) (w : World) (h : DiskAt w S g D) (hs : ¬ 41 < D.secs.length) :
    Calls Tryz.prog 88 #[.pointer (some ⟨g, 0, none⟩)] w fun e w' => e = .returned (.bool false) ∧ w = w' := by
  have CS := Lib.hid (size_any g D S w h)
  have hi : decide ((41 : Int) < (D.secs.length : Int)) = false := by simp; omega
  clear h hs
  go_enter Tryz.func88, Tryz.ntmps88
  go_wp2_with (go_at_call 41; refine (CS.out).mono ?_; rintro e w1 ⟨rfl, rfl⟩)
  go_ret
  exact ⟨rfl, rfl⟩

/-- a step that writes -/
def WriteTo (g : Nat) (a : Option Addr) (n cap : Nat) (w : World) (e : Ending) (w' : World) : Prop :=
  ∃ bl bd, e = .returned (.func (.func 132) #[] #[.pointer (some ⟨bl, 0, none⟩), .pointer (some ⟨bd, 0, none⟩)]) ∧
    w'.heap[bl]? = some (.cells #[.slice a n cap] 104 (0, 0)) ∧ w'.heap[bd]? = some (.cells #[.pointer (some ⟨g, 0, none⟩)] 23 (0, 0)) ∧
    Below w.heap.size w w' ∧ w.heap.size ≤ bl ∧ bl < w'.heap.size ∧ w.heap.size ≤ bd ∧ bd < w'.heap.size
theorem write_step (g : Nat) (a : Option Addr) (n cap : Nat) (w : World) :
    Calls Tryz.prog 90 #[.pointer (some ⟨g, 0, none⟩), .slice a n cap] w (WriteTo g a n cap w) := by
  go_enter Tryz.func90, Tryz.ntmps90
  go_wp2
  go_ret
  refine ⟨_, _, rfl, heap_alloc2_new _ _ _, heap_alloc2_old _ _ _, ((Below.refl _ _).alloc (Nat.le_refl _) _).alloc (by simp) _, ?_, ?_, Nat.le_refl _, ?_⟩
  all_goals (simp; try omega)

theorem infoPut : (Tryz.prog.info? 118).map (fun i => (i.zero, i.size, i.bytes)) = some (some (.agg #[.int .i64 0, .slice none 0 0]), 2, 32) := by kernel_rfl
theorem sizePut : (Tryz.prog.info? 118).map (·.size) = some 2 := by kernel_rfl

/-- a put by value -/
def putV (i : Int) (a : Option Addr) (n cap : Nat) : Array Value := #[.int .i64 i, .slice a n cap]
theorem putV_one (i : Int) (a : Option Addr) (n cap : Nat) : (putV i a n cap).all (·.oneCell') = true := by simp [putV, Value.oneCell']

theorem head_any (a : Option Addr) (n cap : Nat) (w : World) :
    Calls Tryz.prog 105 #[.slice a n cap] w fun e w' => e = .returned (.agg (putV 0 a n cap)) ∧ Below w.heap.size w w' := by
  go_enter Tryz.func105, Tryz.ntmps105
  go_wp2
  exact bodyPost_ret (v := .agg (putV 0 a n cap)) (by simp [results, Tryz.results105, go_sem, putV]) rfl ⟨rfl, (Below.refl _ _).alloc (Nat.le_refl _) _⟩

/-- a put of noughts, in new memory -/
def EmptyTo (w : World) (e : Ending) (w' : World) : Prop :=
  ∃ b, e = .returned (.agg (putV 0 (some ⟨b, 0, none⟩) 128 128)) ∧ BytesAt w' (some ⟨b, 0, none⟩) 128 128 (sec 0) ∧ Below w.heap.size w w' ∧ w.heap.size ≤ b ∧ b < w'.heap.size
theorem empty_any (w : World) : Calls Tryz.prog 91 #[] w (EmptyTo w) := by
  obtain ⟨i0, hi, hz0, hz1, hz2⟩ := info_parts infoU8
  have hmk : ∀ u, (Instr.makeSlice 49 (.int .i64 128) (.int .i64 128)).run Tryz.prog u = .ok (.slice (some ⟨u.heap.size, 0, none⟩) 128 128) (u.alloc (.cells (madeCells #[.int .u8 0] 128) 5)) := fun u => by
    have := run_make u 49 5 i0 _ Tryz.underlying49 hi hz0 .i64 .i64 128 128 (by omega) (by omega) (by rw [hz2]; omega) (by omega)
    rw [hz1] at this
    simpa [Value.cells] using this
  have hl : (madeCells #[.int .u8 0] 128).toList = vals (sec 0) := by
    rw [toList_madeCells_one]
    unfold sec vals
    rw [List.map_replicate]; rfl
  have HL := Lib.hid hl
  clear hl hi hz0 hz1 hz2
  generalize madeCells #[.int .u8 0] 128 = C at *
  go_enter Tryz.func91, Tryz.ntmps91
  go_wp2_with fail
  refine (head_any _ _ _ _).mono ?_
  rintro e w1 ⟨rfl, hb1⟩
  have t1 := (hb1.block w.heap.size (by simp only [World.size_alloc]; omega)).trans (heap_alloc2_old w _ _)
  have t2 := (hb1.block (w.heap.size + 1) (by simp only [World.size_alloc]; omega)).trans (heap_alloc2_new w _ _)
  have hsz := hb1.size
  simp only [World.size_alloc] at hsz
  have T2 := Lib.hid t2
  have HSZ := Lib.hid hsz
  have HB := Lib.hid ((((Below.refl w.heap.size w).alloc (Nat.le_refl _) _).alloc (by simp) _).trans (hb1.mono (by simp; omega)))
  clear t2 hsz hb1
  go_wp2_with (refine wpList_store_row rfl _ _ _ rfl w.heap.size (putV 0 (some ⟨w.heap.size + 1, 0, none⟩) 128 128) rfl rfl 118 _ t1 sizePut rfl (putV_one _ _ _ _) ?_)
  refine bodyPost_ret (v := .agg (putV 0 (some ⟨w.heap.size + 1, 0, none⟩) 128 128)) (results_cell_row rfl _ _ w.heap.size 118 (putV 0 (some ⟨w.heap.size + 1, 0, none⟩) 128 128) (0, 0) _ rfl (heap_setRow_same _ _ _ _ _ t1) Tryz.underlying118 rfl sizePut) rfl ⟨w.heap.size + 1, rfl, ?_, below_setRow HB.out (Nat.le_refl _) _, by omega, by rw [size_setRow]; have := HSZ.out; omega⟩
  refine BytesAt.of_cells (sec_length 0) (Nat.le_refl _) (by unfold maxLen; omega) fun i hi => ?_
  rw [Nat.zero_add, cell_of_row _ _ i _ _ _ ((heap_setRow_other _ _ _ _ (by omega)).trans T2.out), ← Array.getElem?_toList, HL.out, vals_at _ _ (by rw [sec_length]; exact hi)]

/-! ### a step that writes puts, by their order -/
set_option maxHeartbeats 1000000 in
set_option maxRecDepth 100000 in
theorem wr1_any (g : Nat) (D : Dk) (S U : Nat → Prop) (bl bd : Nat) (a : Option Addr) (n cap : Nat) (M : List PutM) (w : World) (h : DiskAt w S g D) (hU : ∀ k, U k → ¬ S k) (hl : U bl) (hd : U bd)
    (hbl : w.heap[bl]? = some (.cells #[.slice a n cap] 104 (0, 0))) (hbd : w.heap[bd]? = some (.cells #[.pointer (some ⟨g, 0, none⟩)] 23 (0, 0))) (hp : PutsIn w U a n cap M) (hf : D.waits.length + n ≤ 1073741824) :
    Calls Tryz.prog 132 #[.pointer (some ⟨bl, 0, none⟩), .pointer (some ⟨bd, 0, none⟩)] w (DiskTo (.int .i64 (wrsOf D (M.map PutM.pt)).1) S g (wrsOf D (M.map PutM.pt)).2 w) := by
  have hn := hp.len
  have HP := Lib.hid hp
  have HU := Lib.hid hU
  have HW := Lib.hid h
  have HBD := Lib.hid hbd
  have cl : w.cell? ⟨bl, 0, none⟩ = some (.slice a n cap) := by rw [cell_of_row _ _ _ _ _ _ hbl]; rfl
  clear hp hU h hbl hbd
  go_enter Tryz.func132, Tryz.ntmps132
  go_wp2
  go_loopw [8] (fun i wr => ∃ (k : Nat) (D' : Dk) (S' : Nat → Prop), k ≤ n ∧ i = .int .i64 k ∧ DiskAt wr S' g D' ∧ Only S w wr ∧ (∀ j, S' j → S j ∨ w.heap.size ≤ j) ∧ wrsOf D (M.map PutM.pt) = wrsOf D' ((M.map PutM.pt).drop k) ∧ D'.waits.length ≤ D.waits.length + k) (fun i _ => n - (intOf i).toNat)
  case atStart => exact ⟨0, D, S, Nat.zero_le _, rfl, HW.out, Only.refl _ _, fun j hj => .inl hj, rfl, Nat.le_refl _⟩
  case round =>
    obtain ⟨k, D', S', hk, rfl, hd', ho, hs, he, hw'⟩ := hrel
    have HD' := Lib.hid hd'
    have HO := Lib.hid ho
    have HS := Lib.hid hs
    have HE := Lib.hid he
    have HPr := Lib.hid (HP.out.only ho HU.out)
    clear hd' ho hs he
    by_cases hlt : k < n
    · obtain ⟨b, off, rfl, hUb, hcell⟩ := HPr.out.at (by omega)
      obtain ⟨_, _, hr⟩ := hcell k hlt
      have HR := Lib.hid hr
      have cd : wr.cell? ⟨bd, 0, none⟩ = some (.pointer (some ⟨g, 0, none⟩)) := by
        rw [cell_of_row _ _ _ _ _ _ ((HO.out.block bd (HP.out.lt bd hd) (HU.out bd hd)).trans HBD.out)]; rfl
      have hbdl : bd < wr.heap.size := HPr.out.lt bd hd
      have HB := Lib.hid (HPr.out.bytes _ (HPr.out.mem k hlt))
      have hki : (k : Int) < (n : Int) := by omega
      have HDR := Lib.hid (pts_drop M k (by rw [HP.out.mlen]; exact hlt))
      have HIN := Lib.hid (HPr.out.inB _ (HPr.out.mem k hlt))
      clear hcell hr
      generalize M.getD k default = x at *
      obtain ⟨xi, xa, xn, xc, xb⟩ := x
      dsimp only [PutM.pt] at HB HDR HIN
      have hxn := HB.out.1
      subst hxn
      have hst : ∀ r : Int × Dk, wrOf D' xi xb.length xb = r → wrsOf D (M.map PutM.pt) = if r.1 = 0 then wrsOf r.2 ((M.map PutM.pt).drop (k + 1)) else r := fun r hr => by rw [HE.out, HDR.out]; simp only [wrsOf, hr]
      have hrl := wrOf_waits D' xi xb.length xb
      have CW := Lib.hid (fun u (hb : Below wr.heap.size wr u) => write_all g xi D' S' xa xb.length xc xb u (HD'.out.below hb) (HB.out.below hb) (by omega) (fun p hp hS => by
        have hUp := HIN.out p hp
        rcases HS.out _ hS with h1 | h1
        · exact HU.out _ hUp h1
        · have := HP.out.lt _ hUp; omega))
      generalize wrOf D' xi xb.length xb = r at *
      obtain ⟨r1, r2⟩ := r
      have hst := hst _ rfl
      dsimp only at hst CW hrl
      have HST := Lib.hid hst
      clear hst
      go_upto_region 4 with (refine wpList_load_mid rfl 118 _ rfl b (off + k * 2) rfl [.int .i64 xi, .slice xa xb.length xc] _ HR.out Tryz.underlying118 rfl sizePut ?_)
      by_cases h0 : r1 = 0
      · subst h0
        have HST2 := Lib.hid (by simpa using HST.out : wrsOf D (M.map PutM.pt) = wrsOf r2 ((M.map PutM.pt).drop (k + 1)))
        go_wp2_with fail
        refine (CW.out _ ((Below.refl _ _).alloc (Nat.le_refl _) _)).mono ?_
        rintro e w2 ⟨rfl, S2, hd2, ho2, hs2⟩
        have HD2 := Lib.hid hd2
        have HO2 := Lib.hid (HO.out.trans ((Only.alloc (S := S') _ _).trans ho2 (fun _ _ h => h)) (fun i hi h => (HS.out i h).resolve_right (by omega)))
        have HS2 := Lib.hid (fun j hj => (hs2 j hj).elim (fun h => HS.out j h) (fun h => Or.inr (by have := HO.out.size; simp at h; omega)) : ∀ j, S2 j → S j ∨ w.heap.size ≤ j)
        clear hd2 ho2 hs2
        go_wp2
        go_roundw
        case rel => exact ⟨k + 1, r2, S2, by omega, by go_num, HD2.out, HO2.out, HS2.out, HST2.out, by omega⟩
        case measure => simp [intOf]; omega
      · have hst2 := HST.out
        rw [if_neg h0] at hst2
        have HST2 := Lib.hid hst2
        have hb0 : (r1 == 0) = false := by simpa using h0
        have hb1 : (r1 != 0) = true := by simpa using h0
        clear h0
        go_wp2_with fail
        refine (CW.out _ ((Below.refl _ _).alloc (Nat.le_refl _) _)).mono ?_
        rintro e w2 ⟨rfl, S2, hd2, ho2, hs2⟩
        have HD2 := Lib.hid hd2
        have HO2 := Lib.hid (HO.out.trans ((Only.alloc (S := S') _ _).trans ho2 (fun _ _ h => h)) (fun i hi h => (HS.out i h).resolve_right (by omega)))
        have HS2 := Lib.hid (fun j hj => (hs2 j hj).elim (fun h => HS.out j h) (fun h => Or.inr (by have := HO.out.size; simp at h; omega)) : ∀ j, S2 j → S j ∨ w.heap.size ≤ j)
        clear hd2 ho2 hs2
        go_wp2
        go_ret
        rw [HST2.out]
        exact ⟨rfl, S2, HD2.out, HO2.out, HS2.out⟩
    · obtain rfl : k = n := by omega
      have he := HE.out
      rw [List.drop_of_length_le (by rw [List.length_map, HP.out.mlen]; omega)] at he
      have HE2 := Lib.hid he
      clear he
      go_wp2
      go_ret
      rw [HE2.out]
      exact ⟨rfl, S', HD'.out, HO.out, HS.out⟩

end Go.Proofs.YtjcmphjjkeigjaaGreat

namespace Go.Proofs.YtjcmphjjkeigjaaGreat
open Go.RowKit
set_option linter.unusedVariables false
set_option linter.unusedSimpArgs false

theorem madeCells_at (z : Array Value) (n q r : Nat) (hq : q < n) (hr : r < z.size) : (madeCells z (n * z.size)).toList[q * z.size + r]? = z.toList[r]? := by
  have h1 : q * z.size + r < n * z.size := calc q * z.size + r < q * z.size + z.size := by omega
    _ = (q + 1) * z.size := by rw [Nat.succ_mul]
    _ ≤ n * z.size := Nat.mul_le_mul_right _ hq
  have h2 : (q * z.size + r) % z.size = r := by rw [Nat.add_comm, Nat.add_mul_mod_self_right, Nat.mod_eq_of_lt hr]
  simp [madeCells, h1, h2, hr]

theorem recs_made {α : Type} {f : α → List Value} {w : World} {e : TypeId} {g n : Nat} (x : α) (z : Array Value) (hx : f x = z.toList) (h1 : ∀ u ∈ f x, u.oneCell' = true) (hp : 0 < z.size)
    (h : w.ownsRow 0 e z.size (.slice (some ⟨g, 0, none⟩) n n) n (madeCells z (n * z.size)).toList) : Recs f w e z.size (.slice (some ⟨g, 0, none⟩) n n) (List.replicate n x) := by
  have hlen : ∀ y ∈ List.replicate n x, (f y).length = z.size := fun y hy => by rw [(List.mem_replicate.1 hy).2, hx, Array.length_toList]
  have hflat : (madeCells z (n * z.size)).toList = (List.replicate n x).flatMap f := by
    apply List.ext_getElem?
    intro j
    by_cases hj : j < n * z.size
    · obtain ⟨q, r, hq, hr, rfl⟩ : ∃ q r, q < n ∧ r < z.size ∧ j = q * z.size + r := ⟨j / z.size, j % z.size, by rw [Nat.div_lt_iff_lt_mul hp]; exact hj, Nat.mod_lt _ hp, by rw [Nat.mul_comm]; exact (Nat.div_add_mod j z.size).symm⟩
      rw [madeCells_at z n q r hq hr, flatMap_at (size := z.size) _ hlen q r x (by rw [List.getElem?_replicate, if_pos hq]) hr, hx]
    · rw [List.getElem?_eq_none (by simp [size_madeCells]; omega), List.getElem?_eq_none (by rw [flatMap_len _ hlen]; simp; omega)]
  refine ⟨hlen, fun y hy => by rw [(List.mem_replicate.1 hy).2]; exact h1, ?_⟩
  rw [List.length_replicate, ← hflat]
  exact h

theorem fill_next {α : Type} (l : List α) (z x : α) (n k : Nat) (hl : l.length = n) (hk : k < n) (hx : l[k]? = some x) : (l.take k ++ List.replicate (n - k) z).set k x = l.take (k + 1) ++ List.replicate (n - (k + 1)) z := by
  have h1 : (l.take k).length = k := by simp; omega
  have h2 : l.take (k + 1) = l.take k ++ [x] := by
    rw [List.take_succ_eq_append_getElem (by omega)]
    congr 2
    exact (List.getElem?_eq_some_iff.1 hx).2
  rw [List.set_append, if_neg (by omega), h1, Nat.sub_self, show n - k = (n - (k + 1)) + 1 by omega, List.replicate_succ, List.set_cons_zero, h2]
  simp

theorem came_of_recs {α : Type} {f : α → List Value} {w : World} {e : TypeId} {size n cap : Nat} {a : Option Addr} {L : List α} (h : Recs f w e size (.slice a n cap) L) : CameAt f size w a n cap L := by
  rcases h.2.2.2 with ⟨h', h0⟩ | ⟨g, cap', cur, h', hb, hg, hnc, hcm, hcs, htake⟩
  · simp at h'
    obtain ⟨rfl, rfl, rfl⟩ := h'
    exact ⟨h0, Nat.le_refl _, by simp, h.1, .inl ⟨rfl, rfl, rfl⟩⟩
  · simp only [Value.slice.injEq] at h'
    obtain ⟨rfl, rfl, rfl⟩ := h'
    refine ⟨rfl, hnc, hcm, h.1, .inr ⟨_, rfl, fun i j x hi hj => ?_⟩⟩
    rw [Addr.add_mid, Nat.zero_add]
    exact h.cellAt i j x hi hj

end Go.Proofs.YtjcmphjjkeigjaaGreat

namespace Go.Proofs.YtjcmphjjkeigjaaGreat
open Go.RowKit
set_option linter.unusedVariables false
set_option linter.unusedSimpArgs false

theorem enterV1 (args : Array Value) (u : World) : (callFunc 151 args).run Tryz.prog u = .ok (.enter 151 args) u := by
  simp [callFunc, Tryz.func151, Tryz.f151, go_sem]

theorem v1_any (i j : Int) (a : Option Addr) (n cap B : Nat) (w : World) (hB : w.cell? ⟨B, 0, none⟩ = some (.int .i64 j)) (hlt : B < w.heap.size) :
    Calls Tryz.prog 151 #[.agg #[.int .i64 i, .slice a n cap], .pointer (some ⟨B, 0, none⟩)] w fun e w' => e = .returned (.bool (i == j)) ∧ Below w.heap.size w w' := by
  go_enter Tryz.func151, Tryz.ntmps151
  go_wp2
  go_ret
  exact ⟨rfl, (Below.refl _ _).alloc (Nat.le_refl _) _⟩

theorem CameAt.head {α : Type} {f : α → List Value} {size : Nat} {w : World} {a : Option Addr} {n cap m : Nat} {L : List α} (h : CameAt f size w a n cap L) (hm : m ≤ n) : CameAt f size w a m cap (L.take m) := by
  obtain ⟨h1, h2, h3, h4, h5⟩ := h
  refine ⟨by rw [List.length_take]; omega, by omega, h3, fun x hx => h4 x (List.mem_of_mem_take hx), ?_⟩
  rcases h5 with ⟨rfl, h6, h7⟩ | ⟨p, rfl, hp⟩
  · exact .inl ⟨rfl, by omega, h7⟩
  · refine .inr ⟨p, rfl, fun i j x hi hj => hp i j x ?_ hj⟩
    have him : i < m := by
      have := (List.getElem?_eq_some_iff.1 hi).1
      rw [List.length_take] at this; omega
    rwa [List.getElem?_take_of_lt him] at hi

/-- is there one at x among these? -/
def hasAt (M : List PutM) (x : Int) : Bool := M.any fun q => q.at_ == x
theorem hasAt_take (M : List PutM) (x : Int) (k : Nat) (hk : k < M.length) : hasAt (M.take (k + 1)) x = (hasAt (M.take k) x || (M.getD k default).at_ == x) := by
  unfold hasAt
  rw [List.take_succ_eq_append_getElem hk, List.any_append, List.getD, List.getElem?_eq_getElem hk]
  simp
theorem hasAt_hit (M : List PutM) (x : Int) (k : Nat) (hk : k < M.length) (h : ((M.getD k default).at_ == x) = true) : hasAt M x = true := by
  unfold hasAt
  rw [List.any_eq_true]
  exact ⟨M.getD k default, by rw [List.getD, List.getElem?_eq_getElem hk]; exact List.getElem_mem hk, h⟩

def IdxTo (b : Bool) (w : World) (e : Ending) (w' : World) : Prop := ∃ r : Int, e = .returned (.int .i64 r) ∧ decide (0 ≤ r) = b ∧ Below w.heap.size w w'

set_option maxHeartbeats 1000000 in
set_option maxRecDepth 100000 in
theorem index_any (a : Option Addr) (n cap B : Nat) (j : Int) (M : List PutM) (w : World) (h : CameAt putC 2 w a n cap M) (hB : w.cell? ⟨B, 0, none⟩ = some (.int .i64 j)) :
    Calls Tryz.prog 180 #[.slice a n cap, .func (.func 151) #[] #[.pointer (some ⟨B, 0, none⟩)]] w (IdxTo (hasAt M j) w) := by
  have hn : n ≤ 9223372036854775807 := by have := h.2.1; have := h.2.2.1; unfold maxLen at *; omega
  have HM := Lib.hid h
  have HB := Lib.hid hB
  have HLB := Lib.hid (block_lt hB)
  have HL := Lib.hid h.1
  have en := enterV1
  clear h hB
  go_enter Tryz.func180, Tryz.ntmps180
  go_wp2
  go_loopw [8] (fun i wr => ∃ k : Nat, k ≤ n ∧ i = .int .i64 k ∧ Below w.heap.size w wr ∧ hasAt (M.take k) j = false) (fun i _ => n - (intOf i).toNat)
  case atStart => exact ⟨0, Nat.zero_le _, rfl, Below.refl _ _, rfl⟩
  case round =>
    obtain ⟨k, hk, rfl, hb, hno⟩ := hrel
    have HBL := Lib.hid hb
    have HNO := Lib.hid hno
    clear hb hno
    by_cases hlt : k < n
    · have hst := hasAt_take M j k (by rw [HL.out]; exact hlt)
      have hit := hasAt_hit M j k (by rw [HL.out]; exact hlt)
      rw [HNO.out, Bool.false_or] at hst
      obtain ⟨b, off, rfl, _, hc⟩ := (HM.out.below (by omega) HBL.out).at (by omega) (by omega)
      have hx : M[k]? = some (M.getD k default) := by rw [List.getD, List.getElem?_eq_getElem (by rw [HL.out]; exact hlt)]; rfl
      have hr : wr.rangeAt b (off + k * 2) (putC (M.getD k default)) := fun i u hu => by
        have hj : i < 2 := by rw [← putC_length (M.getD k default)]; exact (List.getElem?_eq_some_iff.1 hu).1
        rw [Nat.add_assoc, hc k i _ hx hj, hu]
      have HR := Lib.hid hr
      have hki : (k : Int) < (n : Int) := by omega
      clear hc hx hr
      generalize M.getD k default = x at *
      obtain ⟨xi, xa, xn, xc, xb⟩ := x
      dsimp only at hst hit
      have CV := Lib.hid (v1_any xi j xa xn xc B wr (by rw [HBL.out.cell (p := ⟨B, 0, none⟩) HLB.out]; exact HB.out) (Nat.lt_of_lt_of_le HLB.out HBL.out.size))
      generalize hbj : (xi == j) = bj at *
      have hbj := Lib.hid hbj
      cases bj with
      | false =>
        have HST := Lib.hid hst
        clear hst hit
        go_upto_region 4 with fail
        go_wp2_with (first
          | (refine wpList_load_mid rfl 118 _ rfl b (off + k * 2) rfl [.int .i64 xi, .slice xa xn xc] _ HR.out Tryz.underlying118 rfl sizePut ?_)
          | (refine (CV.out).mono ?_; rintro e w1 ⟨rfl, hb1⟩))
        go_roundw
        case rel => exact ⟨k + 1, by omega, by go_num, HBL.out.trans (hb1.mono HBL.out.size), HST.out⟩
        case measure => simp [intOf]; omega
      | true =>
        have HIT := Lib.hid (hit rfl)
        clear hst hit
        go_wp2_with (first
          | (refine wpList_load_mid rfl 118 _ rfl b (off + k * 2) rfl [.int .i64 xi, .slice xa xn xc] _ HR.out Tryz.underlying118 rfl sizePut ?_)
          | (refine (CV.out).mono ?_; rintro e w1 ⟨rfl, hb1⟩))
        go_ret
        exact ⟨k, rfl, by rw [HIT.out]; simp, HBL.out.trans (hb1.mono HBL.out.size)⟩
    · obtain rfl : k = n := by omega
      have hno := HNO.out
      rw [List.take_of_length_le (by rw [HL.out]; omega)] at hno
      have HN2 := Lib.hid hno
      clear hno
      go_wp2
      go_ret
      exact ⟨-1, rfl, by rw [HN2.out]; rfl, HBL.out⟩

theorem contains_any (a : Option Addr) (n cap B : Nat) (j : Int) (M : List PutM) (w : World) (h : CameAt putC 2 w a n cap M) (hB : w.cell? ⟨B, 0, none⟩ = some (.int .i64 j)) :
    Calls Tryz.prog 150 #[.slice a n cap, .func (.func 151) #[] #[.pointer (some ⟨B, 0, none⟩)]] w fun e w' => e = .returned (.bool (hasAt M j)) ∧ Below w.heap.size w w' := by
  have CI := Lib.hid (index_any a n cap B j M w h hB)
  clear h hB
  generalize hasAt M j = b at *
  go_enter Tryz.func150, Tryz.ntmps150
  go_wp2_with (go_at_call 180; refine (CI.out).mono ?_; rintro e w1 ⟨r, rfl, hr, hb⟩)
  go_ret
  exact ⟨rfl, hb⟩

theorem okAt_M (M : List PutM) (size : Int) (k : Nat) (hk : k < M.length) :
    okAt (M.map PutM.pt) size k = (!hasAt (M.take k) (M.getD k default).at_ && (decide (41 ≤ (M.getD k default).at_) && (decide ((M.getD k default).at_ < size) && decide ((M.getD k default).b.length = 128)))) := by
  unfold okAt hasAt
  rw [pts_getD M k hk, ← List.map_take, List.any_map]
  rfl
theorem may_of_all (L : List Pt) (size : Int) (h1 : 1 ≤ L.length) (h2 : L.length ≤ 40) (h : ∀ k, k < L.length → okAt L size k = true) : mayB L size = true := (may_iff L size).2 ⟨h1, h2, h⟩
theorem may_not (L : List Pt) (size : Int) (h : ¬ (1 ≤ L.length ∧ L.length ≤ 40 ∧ ∀ k, k < L.length → okAt L size k = true)) : mayB L size = false := by
  cases hm : mayB L size with
  | false => rfl
  | true =>
    have := (may_iff L size).1 hm
    exact absurd ⟨this.one, this.few, this.ok⟩ h

set_option maxHeartbeats 2000000 in
set_option maxRecDepth 100000 in
theorem valid_any (U : Nat → Prop) (a : Option Addr) (n cap : Nat) (M : List PutM) (size : Int) (w : World) (h : PutsIn w U a n cap M) :
    Calls Tryz.prog 103 #[.slice a n cap, .int .i64 size] w fun e w' => e = .returned (.bool (mayB (M.map PutM.pt) size)) ∧ Below w.heap.size w w' := by
  have hn := h.len
  have hlen : (M.map PutM.pt).length = n := by rw [List.length_map, h.mlen]
  by_cases hfew : n < 1 ∨ 40 < n
  · have hno := may_not (M.map PutM.pt) size (by rw [hlen]; omega)
    rw [hno]
    clear hno hlen h
    rcases hfew with hfew | hfew
    · have h0 : n = 0 := by omega
      subst h0
      go_enter Tryz.func103, Tryz.ntmps103
      go_wp2
      go_ret
      exact ⟨rfl, Below.refl _ _⟩
    · go_enter Tryz.func103, Tryz.ntmps103
      go_wp2
      go_ret
      exact ⟨rfl, Below.refl _ _⟩
  have h1 : 1 ≤ n := by omega
  have h2 : n ≤ 40 := by omega
  have HP := Lib.hid h
  have HL := Lib.hid hlen
  have HML := Lib.hid h.mlen
  clear hfew h hlen
  go_enter Tryz.func103, Tryz.ntmps103
  go_wp2
  go_loopw [18] (fun i wr => ∃ k : Nat, k ≤ n ∧ i = .int .i64 k ∧ Below w.heap.size w wr ∧ ∀ j, j < k → okAt (M.map PutM.pt) size j = true) (fun i _ => n - (intOf i).toNat)
  case atStart => exact ⟨0, Nat.zero_le _, rfl, Below.refl _ _, fun j hj => by omega⟩
  case round =>
    obtain ⟨k, hk, rfl, hb, hok⟩ := hrel
    have HB := Lib.hid hb
    have HOK := Lib.hid hok
    clear hb hok
    by_cases hlt : k < n
    · have hlk : k < M.length := by rw [HML.out]; exact hlt
      have hoM := okAt_M M size k hlk
      obtain ⟨b, off, rfl, hUb, hcell⟩ := (HP.out.below HB.out).at (by omega)
      obtain ⟨_, _, hr⟩ := hcell k hlt
      have HR := Lib.hid hr
      have HBY := Lib.hid (((HP.out.below HB.out).bytes _ (HP.out.mem k hlt)).1)
      have HC := Lib.hid ((HP.out.below HB.out).came.head (m := k) (by omega))
      have hki : (k : Int) < (n : Int) := by omega
      have hkn : (k : Int) ≤ (n : Int) := by omega
      have hcap : n ≤ cap := HP.out.came.2.1
      have hcapI : (k : Int) ≤ (cap : Int) := by omega
      clear hcell hr
      generalize M.getD k default = x at *
      obtain ⟨xi, xa, xn, xc, xb⟩ := x
      dsimp only at HBY hoM
      have hxn := HBY.out
      subst hxn
      have CC := Lib.hid (contains_any (some ⟨b, off, none⟩) k cap wr.heap.size xi (M.take k) (wr.alloc (.cells #[.int .i64 xi, .slice xa xb.length xc] 118)) (HC.out.below (by omega) ((Below.refl _ _).alloc (Nat.le_refl _) _)) (by rw [cell_of_row _ _ _ _ _ _ (heap_alloc_new wr _)]; rfl))
      generalize hasAt (M.take k) xi = tw at *
      have hall : ∀ bb : Bool, okAt (M.map PutM.pt) size k = bb → (bb = true → ∀ j, j < k + 1 → okAt (M.map PutM.pt) size j = true) ∧ (bb = false → mayB (M.map PutM.pt) size = false) := fun bb hbb => by
        refine ⟨fun hbt j hj => ?_, fun hbf => may_not _ _ fun hh => ?_⟩
        · by_cases hjk : j = k
          · subst hjk; rw [hbb, hbt]
          · exact HOK.out j (by omega)
        · have := hh.2.2 k (by rw [HL.out]; exact hlt)
          rw [hbb, hbf] at this; cases this
      rw [hoM] at hall
      have HA := Lib.hid (hall _ rfl)
      clear hall hoM HP HC HBY
      cases tw with
      | true =>
        have HF := Lib.hid (HA.out.2 rfl)
        clear HA
        go_wp2_with (first
          | (refine wpList_load_mid rfl 118 _ rfl b (off + k * 2) rfl [.int .i64 xi, .slice xa xb.length xc] _ HR.out Tryz.underlying118 rfl sizePut ?_)
          | (go_at_call 150; refine (CC.out).mono ?_; rintro e w1 ⟨rfl, hb1⟩))
        go_ret
        rw [HF.out]
        exact ⟨rfl, (HB.out.alloc HB.out.size _).trans (hb1.mono (by simp; have := HB.out.size; omega))⟩
      | false =>
        simp only [Bool.not_false, Bool.true_and] at HA
        go_wp2_with (refine wpList_load_mid rfl 118 _ rfl b (off + k * 2) rfl [.int .i64 xi, .slice xa xb.length xc] _ HR.out Tryz.underlying118 rfl sizePut ?_)
        refine (CC.out).mono ?_
        rintro e w1 ⟨rfl, hb1⟩
        have t1 := (hb1.block wr.heap.size (by simp)).trans (heap_alloc_new wr _)
        have c0 : w1.cell? ⟨wr.heap.size, 0, none⟩ = some (.int .i64 xi) := by rw [cell_of_row _ _ _ _ _ _ t1]; rfl
        have c1 : w1.cell? ⟨wr.heap.size, 1, none⟩ = some (.slice xa xb.length xc) := by rw [cell_of_row _ _ _ _ _ _ t1]; rfl
        have HB1 := Lib.hid ((HB.out.alloc HB.out.size _).trans (hb1.mono (by simp; have := HB.out.size; omega)) : Below w.heap.size w w1)
        clear t1 hb1 CC
        by_cases d1 : 41 ≤ xi
        · by_cases d2 : xi < size
          · by_cases d3 : xb.length = 128
            · have HT := Lib.hid (HA.out.1 (by simp [d1, d2, d3]))
              have d4 : ((xb.length : Int) == 128) = true := by simp; omega
              have d5 : ((xb.length : Int) != 128) = false := by simp; omega
              have d6 : decide (xi < 41) = false := by simp; omega
              have d7 : decide (size ≤ xi) = false := by simp; omega
              clear HA d3
              go_wp2
              go_roundw
              case rel => exact ⟨k + 1, by omega, by go_num, HB1.out, HT.out⟩
              case measure => simp [intOf]; omega
            · have HF := Lib.hid (HA.out.2 (by simp [d3]))
              have d4 : ((xb.length : Int) == 128) = false := by simp; omega
              have d5 : ((xb.length : Int) != 128) = true := by simp; omega
              have d6 : decide (xi < 41) = false := by simp; omega
              have d7 : decide (size ≤ xi) = false := by simp; omega
              clear HA d3
              go_wp2
              go_ret
              rw [HF.out]
              exact ⟨rfl, HB1.out⟩
          · have HF := Lib.hid (HA.out.2 (by simp [d2]))
            have d6 : decide (xi < 41) = false := by simp; omega
            have d7 : decide (size ≤ xi) = true := by simp; omega
            clear HA
            go_wp2
            go_ret
            rw [HF.out]
            exact ⟨rfl, HB1.out⟩
        · have HF := Lib.hid (HA.out.2 (by simp [d1]))
          have d6 : decide (xi < 41) = true := by simp; omega
          clear HA
          go_wp2
          go_ret
          rw [HF.out]
          exact ⟨rfl, HB1.out⟩
    · obtain rfl : k = n := by omega
      have HT := Lib.hid (may_of_all (M.map PutM.pt) size (by rw [HL.out]; exact h1) (by rw [HL.out]; exact h2) (by rw [HL.out]; exact HOK.out))
      go_wp2
      go_ret
      rw [HT.out]
      exact ⟨rfl, HB.out⟩

end Go.Proofs.YtjcmphjjkeigjaaGreat

namespace Go.Proofs.YtjcmphjjkeigjaaGreat
open Go.ChangeShapes Go.WideShapes Go.ChangeAt Go.RowKit
set_option linter.unusedVariables false
set_option linter.unusedSimpArgs false

/-- a slice of slices: row r lies at R r and reads as L r -/
def RowsAt (w : World) (A : Option Addr) (n cap : Nat) (R : Nat → Option Addr × Nat × Nat) (L : Nat → List UInt8) : Prop :=
  n ≤ cap ∧ cap ≤ maxLen ∧ ∀ r, r < n → (∃ x, A = some x ∧ w.cell? (x.add r) = some (.slice (R r).1 (R r).2.1 (R r).2.2)) ∧ BytesAt w (R r).1 (R r).2.1 (R r).2.2 (L r)

theorem RowsAt.below {w w' : World} {A : Option Addr} {n cap : Nat} {R : Nat → Option Addr × Nat × Nat} {L : Nat → List UInt8} (h : RowsAt w A n cap R L) (hb : Below w.heap.size w w') : RowsAt w' A n cap R L :=
  ⟨h.1, h.2.1, fun r hr => by
    obtain ⟨⟨x, hx, hc⟩, hB⟩ := h.2.2 r hr
    exact ⟨⟨x, hx, by rw [hb.cell (block_lt hc)]; exact hc⟩, hB.below hb⟩⟩

theorem RowsAt.at {w : World} {A : Option Addr} {n cap : Nat} {R : Nat → Option Addr × Nat × Nat} {L : Nat → List UInt8} (h : RowsAt w A n cap R L) (hn : 0 < n) :
    ∃ b off, A = some ⟨b, off, none⟩ ∧ ∀ r, r < n → w.cell? ⟨b, off + r, none⟩ = some (.slice (R r).1 (R r).2.1 (R r).2.2) := by
  obtain ⟨⟨x, rfl, hc⟩, _⟩ := h.2.2 0 hn
  obtain ⟨b, off, spot⟩ := x
  have hs : spot = none := by simpa [Addr.add] using World.cell?_spot hc
  subst hs
  refine ⟨b, off, rfl, fun r hr => ?_⟩
  obtain ⟨⟨x, hx, hc'⟩, _⟩ := h.2.2 r hr
  cases hx
  have e : (⟨b, off, none⟩ : Addr).add r = ⟨b, off + r, none⟩ := by unfold Addr.add; split <;> simp_all
  rw [e] at hc'
  exact hc'

end Go.Proofs.YtjcmphjjkeigjaaGreat
