/-
  Contracts: bytes.Equal, and package tree's nodeOf.
-/
import Derived.Test.YtflboggjbjfkjaaTrB
import Derived.Test.YtflboggjbjfkjaaOctRd
namespace Go.Proofs.Ytflboggjbjfkjaa
open Go.RowKit
set_option linter.unusedVariables false
set_option linter.unusedSimpArgs false
set_option maxRecDepth 100000

theorem list_beq (l m : List UInt8) : (l == m) = decide (l = m) := by
  by_cases h : l = m
  · subst h; simp
  · rw [decide_eq_false h]
    exact beq_eq_false_iff_ne.2 h
theorem results_cell_slot1 {P : Program} {fn : Func} {p q : Tmp} {ty : TypeId} (h : fn.results = #[.cell p ty, .tmp q]) (tmps : Array Value) (w : World) (g : Nat) (t : TypeId) (cs : Array Value) (fr : Nat × Nat) (d : TypeDesc) (v : Value)
    (hp : tmps.getD p undef = .pointer (some ⟨g, 0, none⟩)) (hg : w.heap[g]? = some (.cells cs t fr)) (hq : tmps.getD q undef = v)
    (hu : P.underlying ty = some d) (hd : (match d with | .struct _ | .array _ _ => true | _ => false) = true) (hi : (P.info? ty).map (·.size) = some cs.size) :
    (results fn tmps).run P w = .ok (.tuple #[.agg cs, v]) w := by
  have hp' : tmps[p]?.getD undef = .pointer (some ⟨g, 0, none⟩) := by simpa using hp
  have hq' : tmps[q]?.getD undef = v := by simpa using hq
  simp [results, h, hp', hq', asAddr, run_loadVar_row w g t ty cs fr d hg hu hd hi]

theorem equal_any (a : Option Addr) (n cap : Nat) (l : List UInt8) (b : Option Addr) (m c : Nat) (q : List UInt8) (w : World) (hl : BytesAt w a n cap l) (hq : BytesAt w b m c q) :
    Calls Try.prog 27 #[.slice a n cap, .slice b m c] w fun e w' => e = .returned (.bool (decide (l = q))) ∧ w = w' := by
  have h1 := hl.conv
  have h2 := hq.conv
  have HS := Lib.hid (list_beq l q)
  clear hl hq
  go_enter Try.func27, Try.ntmps27
  go_wp2
  go_ret
  exact ⟨congrArg (fun b => Ending.returned (.bool b)) HS.out, rfl⟩

theorem rdnum_le (w : World) (g : Nat) (sl : Option Addr × Nat) (n : Nat) (l : List UInt8) (at_ wd : Nat) (hr : Rd w g sl n l at_ 0) (h1 : 1 ≤ wd) (h2 : wd ≤ 8) (h3 : at_ + wd ≤ n) :
    Calls Try.prog 39 #[.pointer (some ⟨g, 0, none⟩), .int .i64 wd] w (RdPost (.int .u64 (le ((l.drop at_).take wd) : Nat)) w g sl n l (at_ + wd) 0) :=
  rdnum_good w g sl n l at_ wd _ hr (by have := hr.2.1.max; omega) (fun a cap u hb => num_ok a n cap l at_ wd u h1 h2 h3 hb)

theorem le_one (l : List UInt8) (i : Nat) (h : i < l.length) : le ((l.drop i).take 1) = (l.getD i 0).toNat := by
  rw [List.drop_eq_getElem_cons h, List.take_succ_cons, List.take_zero]
  show l[i].toNat + 256 * 0 = _
  simp [List.getD, List.getElem?_eq_getElem h]

theorem sizeNode : (Try.prog.info? 60).map (·.size) = some 2 := by kernel_rfl
def nodeZ : Array Value := #[.int .u64 0, .slice none 0 0]
def NodePost (l : List UInt8) (w : World) (e : Ending) (w' : World) : Prop :=
  Below w.heap.size w w' ∧ ((isP l = false ∧ e = .returned (.tuple #[.agg nodeZ, .bool false])) ∨
    (isP l = true ∧ ∃ a n cap, e = .returned (.tuple #[.agg #[.int .u64 (kindL l : Nat), .slice a n cap], .bool true]) ∧ Recs pairC w' 48 2 (.slice a n cap) (entsOf l) ∧ ∀ q, (Value.slice a n cap).ownBlock = some q → w.heap.size ≤ q))

/-- between two rounds of nodeOf's loop -/
structure NdW (w : World) (g B5 : Nat) (sl : Option Addr × Nat) (l : List UInt8) (k j : Nat) (W : World) : Prop where
  rd : Rd W g sl 128 l (2 + ewN k * j) 0
  b2 : W.heap[w.heap.size]? = some (.cells nodeZ 60 (0, 0))
  bel : Below w.heap.size w W
  hg : w.heap.size < g ∧ g < B5
  hsl : ∀ x, sl.1 = some x → w.heap.size < x.block ∧ x.block < g
  box : ∃ a n cap, W.heap[B5]? = some (.cells #[.int .u64 (k : Int), .slice a n cap] 60 (0, 0)) ∧ Recs pairC W 48 2 (.slice a n cap) ((entsOf l).take j) ∧ ∀ q, (Value.slice a n cap).ownBlock = some q → g < q

theorem ents_succ (l : List UInt8) (j : Nat) (h : j < cntL l) : (entsOf l).take (j + 1) = (entsOf l).take j ++ [entAt (kindL l) l j] := by
  rw [List.take_succ_eq_append_getElem (by rw [entsOf_length]; exact h)]
  simp [entsOf]

theorem all_node (v : Value) (h : v.oneCell' = true) (k : Int) : (#[.int .u64 k, v] : Array Value).all (·.oneCell') = true := by simp [h, show (Value.int .u64 k).oneCell' = true from rfl]

set_option maxHeartbeats 4000000 in
theorem nodeOf_any (a : Option Addr) (n cap : Nat) (l : List UInt8) (w : World) (hl : BytesAt w a n cap l) :
    Calls Try.prog 25 #[.slice a n cap] w (NodePost l w) := by
  have HL := Lib.hid hl
  have hlen := hl.1
  have hmx := hl.max
  clear hl
  have hz0 : Below w.heap.size w (w.alloc (.cells nodeZ 60)) := (Below.refl _ w).alloc (Nat.le_refl _) _
  have HZ0 := Lib.hid hz0
  have HBX0 := Lib.hid (heap_alloc_new w (.cells nodeZ 60))
  have HSN := Lib.hid (show (Try.prog.info? 60).map (·.size) = some nodeZ.size from sizeNode)
  have HAN := Lib.hid (show nodeZ.all (·.oneCell') = true from all_node _ rfl 0)
  clear hz0
  by_cases h128 : n = 128
  · subst h128
    have hlr := HL.out.below HZ0.out
    have CR := Lib.hid (read_any a 128 cap l _ hlr (by omega))
    clear hlr
    go_enter Try.func25, Try.ntmps25
    go_wp2_with fail
    refine (CR.out).mono ?_
    rintro e w1 ⟨g, sl, rfl, hg, hr, hsl, hb1⟩
    clear CR
    have hk0 : le ((l.drop 0).take 1) = kindL l := le_one l 0 (by omega)
    have hk1 : le ((l.drop 1).take 1) = cntL l := le_one l 1 (by omega)
    have hifp := fun h => isP_iff (l := l) hlen h
    have hnop : mayN (kindL l) (cntL l) = false → isP l = false := fun h => by unfold isP; rw [h]; simp
    have hpos : ∀ j, entAt (kindL l) l j = (le ((l.drop (2 + ewN (kindL l) * j)).take 8), le ((l.drop (10 + ewN (kindL l) * j)).take (vwN (kindL l)))) := fun _ => rfl
    have hent := fun j h => ents_succ l j h
    have hel := entsOf_length l
    have hfit := fits_ents l
    have hkl : kindL l < 256 := (l.getD 0 0).toNat_lt
    have hcl : cntL l < 256 := (l.getD 1 0).toNat_lt
    have hmay := fun h => mayN_size (k := kindL l) (c := cntL l) h
    have C1 := rdnum_le w1 g sl 128 l 0 1 hr (by omega) (by omega) (by omega)
    rw [hk0] at C1
    generalize hK : kindL l = K at *
    generalize hC : cntL l = C at *
    have C1 := Lib.hid C1
    have HIFP := Lib.hid hifp
    have HNOP := Lib.hid hnop
    have HPOS := Lib.hid hpos
    have HENT := Lib.hid hent
    have HEL := Lib.hid hel
    have HFIT := Lib.hid hfit
    have HK1 := Lib.hid hk1
    have HMAY := Lib.hid hmay
    have HK := Lib.hid hK
    have HLEN := Lib.hid hlen
    clear hk0 hk1 hifp hnop hpos hent hel hfit hmay hK hC hlen
    have hb01 : Below w.heap.size w w1 := HZ0.out.trans (hb1.mono HZ0.out.size)
    have hgz : w.heap.size < g := by simp at hg; omega
    have hsl2 : ∀ x, sl.1 = some x → w.heap.size < x.block ∧ x.block < g := fun x hx => by have := hsl x hx; simp at this; omega
    have hbx1 := (hb1.block w.heap.size (by simp)).trans HBX0.out
    have HSN2 := Lib.hid (show (Try.prog.info? 60).map (·.size) = some (#[Value.int .u64 (K : Int), Value.slice none 0 0] : Array Value).size from sizeNode)
    have HAN2 := Lib.hid (all_node (.slice none 0 0) rfl K)
    have HL0 := Lib.hid HL.out
    clear hg hsl hb1 hr HL
    go_wp2_with fail
    refine (C1.out).mono ?_
    rintro e w2 ⟨rfl, hr2, hg2⟩
    have hgl2 := hr2.lt
    go_wp2_with (refine wpList_store_row rfl _ _ _ rfl w2.heap.size #[.int .u64 (K : Int), .slice none 0 0] rfl rfl 60 _ (heap_alloc_new w2 _) HSN2.out rfl HAN2.out ?_)
    have hnew : Below w2.heap.size w2 ((w2.alloc (.cells #[.int .u64 0, .slice none 0 0] 60)).setRow w2.heap.size #[.int .u64 (K : Int), .slice none 0 0]) := below_setRow ((Below.refl _ _).alloc (Nat.le_refl _) _) (Nat.le_refl _) _
    have hbx5 := heap_setRow_same (w2.alloc (.cells #[.int .u64 0, .slice none 0 0] 60)) w2.heap.size #[.int .u64 (K : Int), .slice none 0 0] _ _ (heap_alloc_new w2 _)
    have hb02 : Below w.heap.size w w2 := hb01.grown hg2 hb01.size (fun k hk => by cases hk; omega)
    have hbx2 := (hg2.block w.heap.size (Nat.lt_of_lt_of_le (by have := (Array.getElem?_eq_some_iff.1 hbx1).1; exact this) (Nat.le_refl _)) (by simp; omega)).trans hbx1
    have hlt2 := (Array.getElem?_eq_some_iff.1 hbx2).1
    have hbx3 := (hnew.block w.heap.size hlt2).trans hbx2
    have hr3 := hr2.below hnew
    have hb03 : Below w.heap.size w ((w2.alloc (.cells #[.int .u64 0, .slice none 0 0] 60)).setRow w2.heap.size #[.int .u64 (K : Int), .slice none 0 0]) := hb02.trans (hnew.mono hb02.size)
    have hsz3 : w2.heap.size < ((w2.alloc (.cells #[.int .u64 0, .slice none 0 0] 60)).setRow w2.heap.size #[.int .u64 (K : Int), .slice none 0 0]).heap.size := by simp
    generalize (w2.alloc (.cells #[.int .u64 0, .slice none 0 0] 60)).setRow w2.heap.size #[.int .u64 (K : Int), .slice none 0 0] = w3 at *
    have C2 := rdnum_le w3 g sl 128 l 1 1 hr3 (by omega) (by omega) (by omega)
    rw [HK1.out] at C2
    have C2 := Lib.hid C2
    clear hr2 hg2 hnew hb02 hbx2 hbx1 hb01 hr3 C1
    refine (C2.out).mono ?_
    rintro e w4 ⟨rfl, hr4, hg4⟩
    have hb04 : Below w.heap.size w w4 := hb03.grown hg4 hb03.size (fun k hk => by cases hk; omega)
    have hbx4 := (hg4.block w.heap.size (by omega) (by simp; omega)).trans hbx3
    have hbx45 := (hg4.block w2.heap.size hsz3 (by simp; omega)).trans hbx5
    have hN : NdW w g w2.heap.size sl l K 0 w4 := ⟨by rw [Nat.mul_zero]; exact hr4, hbx4, hb04, ⟨hgz, hgl2⟩, hsl2, none, 0, 0, hbx45, by rw [List.take_zero]; exact Recs.nil _ _ _ _, fun q hq => by simp [Value.ownBlock] at hq⟩
    have HN := Lib.hid hN
    have cK : w4.cell? ⟨w2.heap.size, 0, none⟩ = some (.int .u64 (K : Int)) := by rw [cell_of_row _ _ _ _ _ _ hbx45]; rfl
    have HX4 := Lib.hid hbx4
    have HB4 := Lib.hid hb04
    clear hb04 hbx4 hbx45 hr4 hg4 hb03 hbx3 hbx5 C2 hN
    generalize w2.heap.size = B5 at *
    cases hmy : mayN K C with
    | false =>
      have hp := HNOP.out hmy
      have CM := Lib.hid (mayHave_any K C w4)
      rw [hmy] at CM
      unfold nodeZ at HSN HAN HX4
      go_wp2_with (first | (go_at_call 40; refine (CM.out).mono ?_; rintro e w5 ⟨rfl, rfl⟩) | (refine wpList_store_row rfl _ _ _ rfl w.heap.size #[.int .u64 0, .slice none 0 0] rfl rfl 60 _ HX4.out HSN.out rfl HAN.out ?_))
      exact bodyPost_ret (v := .tuple #[.agg nodeZ, .bool false]) (results_cell_slot1 rfl _ _ w.heap.size 60 nodeZ (0, 0) _ _ rfl (heap_setRow_same _ _ _ _ _ HX4.out) rfl Try.underlying60 rfl sizeNode) rfl ⟨below_setRow HB4.out (Nat.le_refl _) _, .inl ⟨hp, rfl⟩⟩
    | true =>
      have CM := Lib.hid (mayHave_any K C w4)
      rw [hmy] at CM
      have hms := HMAY.out hmy
      go_wp2_with (go_at_call 40; refine (CM.out).mono ?_; rintro e w5 ⟨rfl, rfl⟩)
      clear CM cK
      go_loopw [26] (fun i wr => ∃ j : Nat, j ≤ C ∧ i = .int .u64 j ∧ NdW w g B5 sl l K j wr) (fun i _ => C - (intOf i).toNat)
      case atStart => exact ⟨0, Nat.zero_le _, rfl, HN.out⟩
      case round =>
        obtain ⟨j, hj, rfl, hw⟩ := hrel
        clear HN
        have HW := Lib.hid hw
        obtain ⟨hrd, hb2, hbel, ⟨hg1, hg2⟩, hsl3, av, nv, cv, hbox, hrec, hown⟩ := hw
        by_cases hlt : j < C
        · have hq : 2 + ewN K * (j + 1) ≤ 2 + ewN K * C := Nat.add_le_add_left (Nat.mul_le_mul_left _ hlt) 2
          rw [Nat.mul_add, Nat.mul_one] at hq
          have hv8 := vwN_le K
          have hpe := HPOS.out j
          have hen := HENT.out j hlt
          rw [hpe] at hen
          have hew : ewN K = 8 + vwN K := rfl
          have D1 := rdnum_le wr g sl 128 l (2 + ewN K * j) 8 hrd (by omega) (by omega) (by omega)
          have hnx : 2 + ewN K * j + 8 + vwN K = 2 + ewN K * (j + 1) := by rw [Nat.mul_add, Nat.mul_one]; omega
          have h10 : 2 + ewN K * j + 8 = 10 + ewN K * j := by omega
          have hin : 2 + ewN K * j + 8 + vwN K ≤ 128 := by omega
          generalize hA : le ((l.drop (2 + ewN K * j)).take 8) = A at *
          have D1 := Lib.hid D1
          have HEN := Lib.hid hen
          have HNX := Lib.hid hnx
          have HIN := Lib.hid hin
          have HV8 := Lib.hid hv8
          have HREC := Lib.hid hrec
          have HBOX := Lib.hid hbox
          have HOWN := Lib.hid hown
          have H10 := Lib.hid h10
          clear hq hpe hen hnx hin hew hrec hbox hown hrd h10 hA hv8
          go_wp2_with fail
          refine (D1.out).mono ?_
          rintro e w5 ⟨rfl, hr5, hg5⟩
          have hlB5 : B5 < wr.heap.size := (Array.getElem?_eq_some_iff.1 HBOX.out).1
          have hbox5 := (hg5.block B5 hlB5 (by simp; omega)).trans HBOX.out
          have hb25 := (hg5.block w.heap.size (by omega) (by simp; omega)).trans hb2
          have hrec5 := HREC.out.keep (w' := w5) fun q hq => hg5.block q (HREC.out.lt q hq) (by have := HOWN.out q hq; simp; omega)
          have hbel5 := hbel.grown hg5 hbel.size (fun k hk => by cases hk; omega)
          have hlB5' : B5 < w5.heap.size := (Array.getElem?_eq_some_iff.1 hbox5).1
          have HR5 := Lib.hid hr5
          have HX5 := Lib.hid hbox5
          have HB25 := Lib.hid hb25
          have HREC5 := Lib.hid hrec5
          have HBEL5 := Lib.hid hbel5
          clear hb2 hbel hr5 hg5 hbox5 hb25 hrec5 hbel5 HREC HBOX D1
          have key : ∀ u : World, u.heap[B5]? = some (.cells #[.int .u64 (K : Int), .slice av nv cv] 60 (0, 0)) → u.cell? ⟨B5, 0, none⟩ = some (.int .u64 (K : Int)) ∧ u.cell? ⟨B5, 1, none⟩ = some (.slice av nv cv) := fun u hu => ⟨by rw [cell_of_row _ _ _ _ _ _ hu]; rfl, by rw [cell_of_row _ _ _ _ _ _ hu]; rfl⟩
          have KEY := Lib.hid key
          clear key
          have hS0 := KEY.out w5.drew HX5.out
          go_upto_region 11 with (fail)
          refine region_head 11 [0, 1, 2, 3, 4, 5, 6, 7, 8, 9, 10] [6, 7, 9, 10] (fun u => u.cell? ⟨B5, 0, none⟩ = some (.int .u64 (K : Int)) ∧ u.cell? ⟨B5, 1, none⟩ = some (.slice av nv cv)) (by kernel_rfl) (by kernel_rfl) hS0 ?_
          simp only [pickO, List.filterMap_cons, List.filterMap_nil, List.getElem?_cons_zero, List.getElem?_cons_succ, Option.map_some, List.drop_succ_cons, List.drop_zero]
          clear hS0
          iterate 6
            refine seqH_read _ rfl rfl (by rintro u ⟨hu1, hu2⟩; go_simp; with_reducible rfl) ?_
            try simp only [Act.put, List.setIfInBounds_toArray, List.set_cons_zero, List.set_cons_succ]
          refine seqH_move rfl rfl (fun Kk hK => ?_)
          go_simp
          refine (valueWidth_any K w5.drew).mono ?_
          rintro e w6 ⟨rfl, rfl⟩
          refine hK _ _ (KEY.out w5.drew HX5.out) ?_
          clear hK Kk
          try simp only [Act.put, List.setIfInBounds_toArray, List.set_cons_zero, List.set_cons_succ]
          have D2 := rdnum_le w5.drew g sl 128 l (2 + ewN K * j + 8) (vwN K) (HR5.out.drewN 1) HV8.out.1 HV8.out.2 HIN.out
          rw [HNX.out, H10.out] at D2
          generalize hV : le ((l.drop (10 + ewN K * j)).take (vwN K)) = V at *
          have D2 := Lib.hid D2
          refine seqH_move rfl rfl (fun Kk hK => ?_)
          go_simp
          refine (D2.out).mono ?_
          rintro e w7 ⟨rfl, hr7, hg7⟩
          have hbox7 := (hg7.block B5 hlB5' (by simp; omega)).trans HX5.out
          have hb27 := (hg7.block w.heap.size (Nat.lt_trans (Nat.lt_trans hg1 hg2) hlB5') (by simp; omega)).trans HB25.out
          have hrec7 := HREC5.out.keep (w' := w7) fun q hq => hg7.block q (HREC5.out.lt q hq) (by have := HOWN.out q hq; simp; omega)
          have hbel7 : Below w.heap.size w w7 := HBEL5.out.drew.grown hg7 HBEL5.out.size (fun k hk => by cases hk; omega)
          refine hK _ _ (KEY.out w7 hbox7) ?_
          clear hK Kk D2 hV
          try simp only [Act.put, List.setIfInBounds_toArray, List.set_cons_zero, List.set_cons_succ]
          refine seqH_read _ rfl rfl (by rintro u ⟨hu1, hu2⟩; go_simp; with_reducible rfl) ?_
          try simp only [Act.put, List.setIfInBounds_toArray, List.set_cons_zero, List.set_cons_succ]
          have hal : Below w7.heap.size w7 (w7.alloc (.cells (pairC (A, V)).toArray 48)) := (Below.refl _ _).alloc (Nat.le_refl _) _
          have hlB7 : B5 < w7.heap.size := (Array.getElem?_eq_some_iff.1 hbox7).1
          have hbox8 := (hal.block B5 hlB7).trans hbox7
          have hb28 := (hal.block w.heap.size (Nat.lt_trans (Nat.lt_trans hg1 hg2) hlB7)).trans hb27
          have hrec8 := hrec7.below hal
          have hr8 := hr7.below hal
          have hbel8 := hbel7.trans (hal.mono hbel7.size)
          have hlen8 : ((entsOf l).take j).length = nv := hrec8.came.1
          have hnv : nv ≤ 255 := by rw [← hlen8, List.length_take]; omega
          obtain ⟨i0, hi0, hz0, hz1, hz2⟩ := info_parts infoPair
          refine seqH_move rfl rfl (fun Kk hK => ?_)
          refine wp_buildSliceV 22 1 _ rfl #[(0, .agg (pairC (A, V)).toArray)] (by simp [go_sem, pairC]) _ _ (built_pair (pairC (A, V)).toArray rfl _) ?_
          refine hK _ _ (KEY.out _ hbox8) ?_
          clear hK Kk
          try simp only [Act.put, List.setIfInBounds_toArray, List.set_cons_zero, List.set_cons_succ]
          refine seqH_move rfl rfl (fun Kk hK => ?_)
          refine wp_append_recs _ _ 22 rfl 48 i0 _ 2 16 Try.underlying22 hi0 hz0 hz1 hz2 (by simp [Value.cells]) (by omega) _ _ rfl hrec8 ⟨w7.heap.size, 0, none⟩ 1 1 [(A, V)] rfl rfl (fun y _ => pairC_len y) (fun y _ => pairC_one y) (one_rec (heap_alloc_new w7 _)) (by unfold maxLen; omega) (by omega) ?_
          intro v' w9 hrec9 hg9 hv9
          obtain ⟨a9, c9, hv0, _, _⟩ := hrec9.form
          rw [List.length_append, List.length_singleton] at hv0
          subst hv0
          have hneB5 : some B5 ≠ (Value.slice av nv cv).ownBlock := fun e => hrec8.ne_of hbox8 (by decide) B5 e.symm rfl
          have hneB2 : some w.heap.size ≠ (Value.slice av nv cv).ownBlock := fun e => hrec8.ne_of hb28 (by decide) w.heap.size e.symm rfl
          have hbox9 := (hg9.block B5 (by simp; omega) hneB5).trans hbox8
          have hb29 := (hg9.block w.heap.size (by simp; omega) hneB2).trans hb28
          have hbel9 : Below w.heap.size w w9 := hbel8.grown hg9 hbel8.size (fun q hq => by have := HOWN.out q hq; omega)
          have hown9 : ∀ q, (Value.slice a9 (((entsOf l).take j).length + 1) c9).ownBlock = some q → g < q := fun q hq => by
            rcases hv9 with e | e
            · exact HOWN.out q (e ▸ hq)
            · rw [e] at hq; simp at hq; omega
          have hr9 : Rd w9 g sl 128 l (2 + ewN K * (j + 1)) 0 := by
            refine hr8.agree (hg9.block g (by have := hr8.lt; exact this) (fun e => hrec8.ne_of hr8.1 (by decide) g e.symm rfl)) (fun x hx => hg9.block x.block (by have := (hsl3 x hx).2; simp; omega) (fun e => by have := HOWN.out _ e.symm; have := (hsl3 x hx).2; omega))
          rw [← HEN.out, hlen8] at hrec9
          rw [hlen8] at hown9 ⊢
          refine hK _ _ (KEY.out _ hbox9) ?_
          have HREC9 := Lib.hid hrec9
          have HX9 := Lib.hid hbox9
          have HB29 := Lib.hid hb29
          have HBEL9 := Lib.hid hbel9
          have HOWN9 := Lib.hid hown9
          have HR9 := Lib.hid hr9
          clear hK Kk hal hlB7 hbox8 hb28 hrec8 hr8 hbel8 hrec7 hbox7 hb27 hr7 hg7 hbel7 hneB5 hneB2 hg9 hv9 hrec9 hbox9 hb29 hbel9 hown9 hr9 hi0 hz0 hz1 hz2
          try simp only [Act.put, List.setIfInBounds_toArray, List.set_cons_zero, List.set_cons_succ]
          refine seqH_nil ?_
          have f1 : w9.frozen? ⟨B5, 1, none⟩ = false := frozen_of_row _ _ _ _ _ HX9.out
          have c1 : w9.cell? ⟨B5, 1, none⟩ = some (.slice av nv cv) := (KEY.out _ HX9.out).2
          go_wp2
          have hgs : w9.grownBy (w9.setCell ⟨B5, 1, none⟩ (.slice a9 (nv + 1) c9)) (some B5) := setCell_grown _ _ _ _
          have hb5 := HX9.out
          refine ⟨⟨j + 1, by omega, by go_num, HR9.out.other hgs (by omega) (fun x hx => by have := (hsl3 x hx).2; omega), (hgs.block w.heap.size (Array.getElem?_eq_some_iff.1 HB29.out).1 (by simp; omega)).trans HB29.out, HBEL9.out.grown hgs HBEL9.out.size (fun k hk => by cases hk; omega), ⟨hg1, hg2⟩, hsl3, a9, nv + 1, c9, heap_setCell_same _ _ _ _ _ _ hb5, ?_, HOWN9.out⟩, by simp [intOf]; omega⟩
          exact HREC9.out.keep fun q hq => hgs.block q (HREC9.out.lt q hq) (by have := HREC9.out.ne_of hb5 (by decide) q hq; simpa using this)
        · obtain rfl : j = C := by omega
          rw [List.take_of_length_le (Nat.le_of_eq HEL.out)] at hrec
          have hlen8 : (entsOf l).length = nv := hrec.came.1
          have CP := Lib.hid (page_any K av nv cv (entsOf l) wr hrec.came (by rw [HEL.out]; exact hmy) HFIT.out)
          have c0 : wr.cell? ⟨B5, 0, none⟩ = some (.int .u64 (K : Int)) := by rw [cell_of_row _ _ _ _ _ _ hbox]; rfl
          have c1 : wr.cell? ⟨B5, 1, none⟩ = some (.slice av nv cv) := by rw [cell_of_row _ _ _ _ _ _ hbox]; rfl
          have hlb := HZ0.out
          have HREC := Lib.hid hrec
          have HBOX := Lib.hid hbox
          have HOWN := Lib.hid hown
          have HB2 := Lib.hid hb2
          have HBEL := Lib.hid hbel
          have HIF := Lib.hid (HIFP.out hmy)
          have hy := HL0.out.below hbel
          have HY := Lib.hid hy
          clear hrec hbox hown hb2 hbel hrd hlb hy hlen8
          go_wp2_with fail
          refine (CP.out).mono ?_
          rintro e w5 ⟨a5, c5, rfl, ho5, hb5⟩
          have CE := equal_any a5 128 c5 (pageL K (entsOf l)) a 128 cap l w5 (BytesAt.owned ho5) (HY.out.below hb5)
          rw [← HIF.out] at CE
          have CE := Lib.hid CE
          have hbox5 := (hb5.block B5 (Array.getElem?_eq_some_iff.1 HBOX.out).1).trans HBOX.out
          have hb25 := (hb5.block w.heap.size (Array.getElem?_eq_some_iff.1 HB2.out).1).trans HB2.out
          have hrec5 := HREC.out.below hb5
          have hbel5 := HBEL.out.trans (hb5.mono HBEL.out.size)
          have HX5 := Lib.hid hbox5
          have HB25 := Lib.hid hb25
          have HREC5 := Lib.hid hrec5
          have HBEL5 := Lib.hid hbel5
          clear ho5 hb5 hbox5 hb25 hrec5 hbel5 CP c0 c1
          cases hp : isP l with
          | false =>
            rw [hp] at CE
            unfold nodeZ at HSN HAN HB25
            go_wp2_with (first | (go_at_call 27; refine (CE.out).mono ?_; rintro e w6 ⟨rfl, rfl⟩) | (refine wpList_store_row rfl _ _ _ rfl w.heap.size #[.int .u64 0, .slice none 0 0] rfl rfl 60 _ HB25.out HSN.out rfl HAN.out ?_))
            exact bodyPost_ret (v := .tuple #[.agg nodeZ, .bool false]) (results_cell_slot1 rfl _ _ w.heap.size 60 nodeZ (0, 0) _ _ rfl (heap_setRow_same _ _ _ _ _ HB25.out) rfl Try.underlying60 rfl sizeNode) rfl ⟨below_setRow HBEL5.out (Nat.le_refl _) _, .inl ⟨hp, rfl⟩⟩
          | true =>
            rw [hp] at CE
            have HSN3 := Lib.hid (show (Try.prog.info? 60).map (·.size) = some (#[Value.int .u64 (K : Int), Value.slice av nv cv] : Array Value).size from sizeNode)
            have HAN3 := Lib.hid (all_node (.slice av nv cv) rfl K)
            unfold nodeZ at HB25
            go_wp2_with (first | (go_at_call 27; refine (CE.out).mono ?_; rintro e w6 ⟨rfl, rfl⟩) | (refine wpList_load_row rfl 60 _ rfl B5 rfl 60 _ _ _ HX5.out Try.underlying60 rfl HSN3.out ?_) | (refine wpList_store_row rfl _ _ _ rfl w.heap.size #[.int .u64 (K : Int), .slice av nv cv] rfl rfl 60 _ HB25.out HSN3.out rfl HAN3.out ?_))
            have hgs := setRow_grown w5 w.heap.size #[.int .u64 (K : Int), .slice av nv cv]
            refine bodyPost_ret (v := .tuple #[.agg #[.int .u64 (K : Int), .slice av nv cv], .bool true]) (results_cell_slot1 rfl _ _ w.heap.size 60 #[.int .u64 (K : Int), .slice av nv cv] (0, 0) _ _ rfl (heap_setRow_same _ _ _ _ _ HB25.out) rfl Try.underlying60 rfl HSN3.out) rfl ⟨below_setRow HBEL5.out (Nat.le_refl _) _, .inr ⟨hp, av, nv, cv, by rw [HK.out], ?_, fun q hq => by have := HOWN.out q hq; omega⟩⟩
            exact HREC5.out.keep fun q hq => hgs.block q (HREC5.out.lt q hq) (by have := HREC5.out.ne_of HB25.out (by decide) q hq; simpa using this)
  · have hp : isP l = false := by unfold isP; rw [decide_eq_false (by omega)]; rfl
    have hne : ¬ (n : Int) = 128 := by omega
    clear hlen
    unfold nodeZ at HSN HAN HBX0 HZ0
    go_enter Try.func25, Try.ntmps25
    go_wp2_with (refine wpList_store_row rfl _ _ _ rfl w.heap.size #[.int .u64 0, .slice none 0 0] rfl rfl 60 _ HBX0.out HSN.out rfl HAN.out ?_)
    exact bodyPost_ret (v := .tuple #[.agg nodeZ, .bool false]) (results_cell_slot1 rfl _ _ w.heap.size 60 nodeZ (0, 0) _ _ rfl (heap_setRow_same _ _ _ _ _ HBX0.out) rfl Try.underlying60 rfl sizeNode) rfl ⟨below_setRow HZ0.out (Nat.le_refl _) _, .inl ⟨hp, rfl⟩⟩

end Go.Proofs.Ytflboggjbjfkjaa
