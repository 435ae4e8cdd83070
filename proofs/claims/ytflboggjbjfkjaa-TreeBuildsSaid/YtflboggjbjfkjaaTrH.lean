/-
  Contracts of package tree: childFor, Find.
-/
import Derived.Test.YtflboggjbjfkjaaTrG
namespace Go.Proofs.Ytflboggjbjfkjaa
open Go.RowKit Go.Shelf
set_option linter.unusedVariables false
set_option linter.unusedSimpArgs false
set_option maxRecDepth 100000

theorem lastLe_rev : ∀ (L : List (Nat × Nat)) (key : Nat), lastLe L key = L.reverse.find? (fun p => decide (p.1 ≤ key))
  | [], _ => rfl
  | x :: L, key => by
    rw [List.reverse_cons, List.find?_append, ← lastLe_rev L key]
    simp only [lastLe]
    cases lastLe L key with
    | some y => rfl
    | none => by_cases h : x.1 ≤ key <;> simp [h]

def chE (o : Option (Nat × Nat)) : Value := match o with
  | some p => .tuple #[.int .i64 p.2, .bool true]
  | none => .tuple #[.int .i64 0, .bool false]

set_option maxHeartbeats 1000000 in
theorem childFor_any (a : Option Addr) (n cap : Nat) (L : List (Nat × Nat)) (key : Nat) (w : World) (he : PairsAt w a n cap L) (h0 : 0 < n) (hn : n ≤ 100) (hf : Fits 2 L) :
    Calls Try.prog 31 #[.slice a n cap, .int .u64 key] w fun e w' => e = .returned (chE (lastLe L key)) ∧ Below w.heap.size w w' := by
  obtain ⟨gb, goff, rfl, _, _⟩ := PairsAt.cells he h0
  have HE := Lib.hid he
  have hb1 : Below w.heap.size w (w.alloc (.cells #[.int .u64 (key : Int)] 44)) := (Below.refl _ _).alloc (Nat.le_refl _) _
  have hc1 : (w.alloc (.cells #[.int .u64 (key : Int)] 44)).heap[w.heap.size]? = some (.cells #[.int .u64 (key : Int)] 44 (0, 0)) := heap_alloc_new w _
  have CC := Lib.hid (clone_any gb goff n cap L _ (CameAt.below HE.out (Nat.zero_lt_succ 1) hb1) (by omega))
  have HV := Lib.hid (lastLe_rev L key)
  have HB1 := Lib.hid hb1
  have HC1 := Lib.hid hc1
  have HF := Lib.hid hf
  have HL := Lib.hid he.1
  clear he hb1 hc1 hf
  go_enter Try.func31, Try.ntmps31
  go_wp2_with fail
  refine (CC.out).mono ?_
  rintro e w1 ⟨v, rfl, hr, hb2, ho⟩
  obtain ⟨av, cv, rfl, _, _⟩ := hr.form
  have CR := Lib.hid (reverse_any _ L w1 hr (by rw [HL.out]; omega))
  have hbx1 := (hb2.block w.heap.size (by simp)).trans HC1.out
  have hb12 := HB1.out.trans (hb2.mono (by simp))
  have HB12 := Lib.hid hb12
  have HBX1 := Lib.hid hbx1
  have HO := Lib.hid ho
  have HR := Lib.hid hr
  clear hr hb2 ho hbx1 hb12 CC
  go_wp2_with fail
  refine (CR.out).mono ?_
  rintro e w2 ⟨⟨x, rfl⟩, hr2, hon⟩
  have hsz1 : w.heap.size < w1.heap.size := (Array.getElem?_eq_some_iff.1 HBX1.out).1
  have hb02 : Below w.heap.size w w2 := below_only hon HB12.out HB12.out.size (fun q hq => by have := HO.out q hq; simp at this; omega)
  have hbx2 := (hon.block w.heap.size hsz1 (fun hq => by have := HO.out _ hq; rw [World.size_alloc] at this; omega)).trans HBX1.out
  have hcell : w2.cell? ⟨w.heap.size, 0, none⟩ = some (.int .u64 (key : Int)) := by rw [cell_of_row _ _ _ _ _ _ hbx2]; rfl
  have hcm := hr2.came
  have hLn : L.length = n := HL.out
  have CI := Lib.hid (index_any 48 #[.pointer (some ⟨w.heap.size, 0, none⟩)] (fun p => decide (p.1 ≤ key)) av L.length cv L.reverse w2 hcm (enters_of Try.func48 (by kernel_rfl) rfl)
    (fun p u hu => clo_le p key w.heap.size u (by rw [hu.cell (by exact (Array.getElem?_eq_some_iff.1 hbx2).1)]; exact hcell)))
  rw [hLn] at CI hcm
  have HCM := Lib.hid hcm
  have HB02 := Lib.hid hb02
  clear hr2 hon hcell hcm CR hbx2 hb02 hsz1
  rw [hLn]
  clear hLn HR HO
  go_wp2_with fail
  refine (CI.out).mono ?_
  rintro e w3 ⟨hb3, ⟨hfd, rfl⟩ | ⟨i, p, hi, hfd, rfl⟩⟩
  · have hv := HV.out.trans hfd
    have hbb := HB02.out.trans (hb3.mono HB02.out.size)
    have H := Lib.hid hv
    clear hv hfd hb3
    go_wp2
    go_ret2
    exact ⟨by rw [H.out]; rfl, hbb⟩
  · have hv := HV.out.trans hfd
    have hbb := HB02.out.trans (hb3.mono HB02.out.size)
    have hil := (List.getElem?_eq_some_iff.1 hi).1
    have hiln : i < n := by rw [List.length_reverse, HL.out] at hil; exact hil
    have hmem : p ∈ L := by have := List.mem_of_getElem? hi; rwa [List.mem_reverse] at this
    have hp2 : p.2 < 65536 := (HF.out p hmem).2
    obtain ⟨b, off, rfl, hbb2, hc⟩ := PairsAt.cells (CameAt.below HCM.out (Nat.zero_lt_succ 1) hb3) (by omega)
    obtain ⟨_, hc1, _⟩ := hc i hiln
    have hpe : L.reverse.getD i (0, 0) = p := by rw [List.getD, hi]; rfl
    rw [hpe, ← Nat.add_assoc] at hc1
    have hii : (i : Int) < (n : Int) := by omega
    have hi0 : ¬ (i : Int) < 0 := by omega
    have H := Lib.hid hv
    clear hv hfd hi hc hpe hil hmem hb3
    obtain ⟨p1, p2⟩ := p
    dsimp only at hp2 hc1
    go_wp2
    go_ret2
    exact ⟨by rw [H.out]; rfl, hbb⟩


def findV (r : Nat × Nat × Nat) : Value := .tuple #[.int .u64 (r.1 : Nat), .int .i64 (r.2.1 : Nat), .int .i64 (r.2.2 : Nat)]

set_option maxHeartbeats 4000000 in
theorem find_any (a : Option Addr) (n cap : Nat) (P : List (List UInt8)) (key : Nat) (w : World) (hP : RowsR w a n cap P) (h0 : 0 < n) (hn : n ≤ 100000) :
    Calls Try.prog 17 #[.slice a n cap, .int .u64 key] w fun e w' => e = .returned (findV (findTop P key)) ∧ Below w.heap.size w w' := by
  have HP := Lib.hid hP
  have HL := Lib.hid hP.len
  have HT := Lib.hid (show findTop P key = findF P key n (n - 1) 1 by unfold findTop; rw [hP.len])
  have hni : ¬ (n : Int) = 0 := by omega
  have hn1 : (n : Int) - 1 = ((n - 1 : Nat) : Int) := by omega
  obtain ⟨lst, hlst⟩ : ∃ l, n - 1 = l := ⟨_, rfl⟩
  rw [hlst] at hn1 HT
  have HLST := Lib.hid hlst
  clear hP hlst
  go_enter Try.func17, Try.ntmps17
  go_wp2
  generalize Value.bool ((n : Int) == 0) = vb at *
  go_loopw [7, 8] (fun x y wr => ∃ at_ r : Nat, x = .int .i64 at_ ∧ y = .int .i64 r ∧ at_ < n ∧ r + at_ ≤ n ∧ findTop P key = findF P key (at_ + 1) at_ r ∧ Below w.heap.size w wr) (fun x _ _ => (intOf x).toNat)
  case atStart => exact ⟨lst, 1, rfl, rfl, by have := HLST.out; omega, by have := HLST.out; omega, by rw [HT.out]; exact findF_fuel _ _ _ _ _ _ (by have := HLST.out; omega) (by omega), Below.refl _ _⟩
  case round =>
    obtain ⟨at_, r, rfl, rfl, hat, hr, hfd, hb⟩ := hrel
    have HFD := Lib.hid hfd
    have HB := Lib.hid hb
    clear hfd hb HT
    obtain ⟨b, off, rfl, hbb, hc⟩ := (HP.out.below HB.out).at [] h0
    obtain ⟨⟨ha, hn2, hc2⟩, hcell, hE⟩ := hc at_ hat
    dsimp only at hcell hE
    have hati : (at_ : Int) < (n : Int) := by omega
    have hfe : findF P key (at_ + 1) at_ r = (if isP (P.getD at_ []) = true then
      if kindL (P.getD at_ []) = 1 then valR r (valAt (entsOf (P.getD at_ [])) key)
      else match lastLe (entsOf (P.getD at_ [])) key with
        | none => (0, r, 6)
        | some p => if at_ ≤ p.2 then (0, 0, 3) else findF P key at_ p.2 (r + 1)
    else (0, 0, 3)) := rfl
    rw [← HFD.out] at hfe
    generalize P.getD at_ [] = pg at *
    have CN := Lib.hid (nodeOf_any ha hn2 hc2 pg wr hE)
    have HFE := Lib.hid hfe
    clear hc hE hfe HFD
    go_wp2_with fail
    refine (CN.out).mono ?_
    rintro e w1 ⟨hb1, ⟨hp, rfl⟩ | ⟨hp, a1, n1, c1, rfl, hrc, hown⟩⟩
    · have hfe := HFE.out
      rw [hp, if_neg (by simp)] at hfe
      have H := Lib.hid hfe
      have hbb := HB.out.trans (hb1.mono HB.out.size)
      have HBB := Lib.hid (hbb.alloc hbb.size (.cells nodeZ 60))
      have HBS := Lib.hid (below_setRow HBB.out hbb.size nodeZ)
      have HSN := Lib.hid (show (Try.prog.info? 60).map (·.size) = some nodeZ.size from sizeNode)
      have HAN := Lib.hid (show nodeZ.all (·.oneCell') = true from all_node _ rfl 0)
      clear hfe hp hb1 hbb CN HFE
      unfold nodeZ at HSN HAN HBS ⊢
      go_wp2_with (refine wpList_store_row rfl _ _ _ rfl w1.heap.size #[.int .u64 0, .slice none 0 0] rfl rfl 60 _ (heap_alloc_new w1 _) HSN.out rfl HAN.out ?_)
      go_ret3
      exact ⟨by rw [H.out]; rfl, HBS.out⟩
    · have hfe := HFE.out
      rw [hp, if_pos rfl] at hfe
      obtain ⟨_, hmy⟩ := isP_may hp
      have hcn : (entsOf pg).length = n1 := hrc.came.1
      rw [← entsOf_length, hcn] at hmy
      have hft := fits_ents pg
      have hbb := HB.out.trans (hb1.mono HB.out.size)
      have hal : Below w1.heap.size w1 ((w1.alloc (.cells nodeZ 60)).setRow w1.heap.size #[.int .u64 (kindL pg : Nat), .slice a1 n1 c1]) := below_setRow ((Below.refl _ _).alloc (Nat.le_refl _) _) (Nat.le_refl _) _
      have hbx := heap_setRow_same (w1.alloc (.cells nodeZ 60)) w1.heap.size #[.int .u64 (kindL pg : Nat), .slice a1 n1 c1] _ _ (heap_alloc_new w1 _)
      have hpr := CameAt.below hrc.came (Nat.zero_lt_succ 1) hal
      have hb2 := hbb.trans (hal.mono hbb.size)
      obtain ⟨w2, hw2⟩ : ∃ u, u = (w1.alloc (.cells nodeZ 60)).setRow w1.heap.size #[.int .u64 (kindL pg : Nat), .slice a1 n1 c1] := ⟨_, rfl⟩
      rw [← hw2] at hal hbx hpr hb2
      have HW2 := Lib.hid hw2
      have HSN := Lib.hid (show (Try.prog.info? 60).map (·.size) = some (#[Value.int .u64 (kindL pg : Nat), Value.slice a1 n1 c1] : Array Value).size from sizeNode)
      have HAN := Lib.hid (all_node (.slice a1 n1 c1) rfl (kindL pg : Nat))
      have c0 : w2.cell? ⟨w1.heap.size, 0, none⟩ = some (.int .u64 (kindL pg : Nat)) := by rw [cell_of_row _ _ _ _ _ _ hbx]; rfl
      have c1' : w2.cell? ⟨w1.heap.size, 1, none⟩ = some (.slice a1 n1 c1) := by rw [cell_of_row _ _ _ _ _ _ hbx]; rfl
      have HPR := Lib.hid hpr
      have HB2 := Lib.hid hb2
      have HCN := Lib.hid hcn
      clear hp hb1 hrc hown hbb hal hbx hpr hb2 hw2 CN HFE hcn
      generalize kindL pg = kd at *
      generalize entsOf pg = es at *
      unfold nodeZ at HW2
      by_cases hk1 : kd = 1
      · subst hk1
        rw [if_pos rfl] at hfe
        have CV := Lib.hid (valueAt_any a1 n1 c1 es key w2 HPR.out)
        cases hv : valAt es key with
        | some v =>
          rw [hv] at CV hfe
          have H := Lib.hid hfe
          clear hv hfe hft hmy
          go_wp2_with (first
            | (refine wpList_store_row rfl _ _ _ rfl w1.heap.size #[.int .u64 ((1 : Nat) : Int), .slice a1 n1 c1] rfl rfl 60 _ (heap_alloc_new w1 _) HSN.out rfl HAN.out ?_; rw [← HW2.out])
            | (go_at_call 30; refine (CV.out).mono ?_; rintro e w3 ⟨rfl, hb3⟩; unfold valE))
          go_ret3
          exact ⟨by rw [H.out]; rfl, HB2.out.trans (hb3.mono HB2.out.size)⟩
        | none =>
          rw [hv] at CV hfe
          have H := Lib.hid hfe
          clear hv hfe hft hmy
          go_wp2_with (first
            | (refine wpList_store_row rfl _ _ _ rfl w1.heap.size #[.int .u64 ((1 : Nat) : Int), .slice a1 n1 c1] rfl rfl 60 _ (heap_alloc_new w1 _) HSN.out rfl HAN.out ?_; rw [← HW2.out])
            | (go_at_call 30; refine (CV.out).mono ?_; rintro e w3 ⟨rfl, hb3⟩; unfold valE))
          go_ret3
          exact ⟨by rw [H.out]; rfl, HB2.out.trans (hb3.mono HB2.out.size)⟩
      · rw [if_neg hk1] at hfe
        rcases mayN_cases hmy with ⟨h1, _⟩ | ⟨rfl, hm1, hm2⟩
        · exact absurd h1 hk1
        · clear hk1 hmy
          have CC := Lib.hid (childFor_any a1 n1 c1 es key w2 HPR.out (by omega) (by omega) hft)
          cases hv : lastLe es key with
          | none =>
            rw [hv] at CC hfe
            have H := Lib.hid hfe
            clear hv hfe hft
            go_wp2_with (first
              | (refine wpList_store_row rfl _ _ _ rfl w1.heap.size #[.int .u64 ((2 : Nat) : Int), .slice a1 n1 c1] rfl rfl 60 _ (heap_alloc_new w1 _) HSN.out rfl HAN.out ?_; rw [← HW2.out])
              | (go_at_call 31; refine (CC.out).mono ?_; rintro e w3 ⟨rfl, hb3⟩; unfold chE))
            go_ret3
            exact ⟨by rw [H.out]; rfl, HB2.out.trans (hb3.mono HB2.out.size)⟩
          | some p =>
            obtain ⟨p1, kid⟩ := p
            rw [hv] at CC hfe
            dsimp only at hfe
            clear hv hft
            by_cases hge : at_ ≤ kid
            · rw [if_pos hge] at hfe
              have H := Lib.hid hfe
              have hgi : (at_ : Int) ≤ (kid : Int) := by omega
              clear hfe
              go_wp2_with (first
                | (refine wpList_store_row rfl _ _ _ rfl w1.heap.size #[.int .u64 ((2 : Nat) : Int), .slice a1 n1 c1] rfl rfl 60 _ (heap_alloc_new w1 _) HSN.out rfl HAN.out ?_; rw [← HW2.out])
                | (go_at_call 31; refine (CC.out).mono ?_; rintro e w3 ⟨rfl, hb3⟩; unfold chE))
              go_ret3
              exact ⟨by rw [H.out]; rfl, HB2.out.trans (hb3.mono HB2.out.size)⟩
            · rw [if_neg hge, findF_fuel P key at_ (kid + 1) kid (r + 1) (by omega) (by omega)] at hfe
              have H := Lib.hid hfe
              have hgi : ¬ (at_ : Int) ≤ (kid : Int) := by omega
              clear hfe
              go_wp2_with (first
                | (refine wpList_store_row rfl _ _ _ rfl w1.heap.size #[.int .u64 ((2 : Nat) : Int), .slice a1 n1 c1] rfl rfl 60 _ (heap_alloc_new w1 _) HSN.out rfl HAN.out ?_; rw [← HW2.out])
                | (go_at_call 31; refine (CC.out).mono ?_; rintro e w3 ⟨rfl, hb3⟩; unfold chE))
              refine ⟨⟨kid, r + 1, rfl, by go_num, by omega, by omega, H.out, HB2.out.trans (hb3.mono HB2.out.size)⟩, by simp [intOf]; omega⟩

end Go.Proofs.Ytflboggjbjfkjaa
