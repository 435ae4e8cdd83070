/-
  pages of the law's, and hamperref06's All.
-/
import Derived.Test.YtflboggjbjfkjaaTrO
import Derived.Test.YtflboggjbjfkjaaTrM
import Derived.Deep.DeepCutAuto
import Derived.Deep.CutBlock
namespace Go.Proofs.Ytflboggjbjfkjaa
open Go.RowKit
set_option linter.unusedVariables false
set_option linter.unusedSimpArgs false
set_option maxRecDepth 100000

def cutP (P : List (List UInt8)) : List (List UInt8) := (P.take 99).map (·.take 130)
def PgTo (C : List (List UInt8)) (w : World) (e : Ending) (w' : World) : Prop :=
  ∃ (a1 : Option Addr) (N c1 : Nat) (v2 : Value), e = .returned (.tuple #[.slice a1 N c1, v2]) ∧ RowsR w' a1 N c1 C ∧ Recs strC w' 9 1 v2 C ∧ Below w.heap.size w w'

/-- the loop of pages -/
structure PgW (w : World) (C : List (List UInt8)) (k : Nat) (v4 v5 : Value) (W : World) : Prop where
  out : ∃ Hs : List Hd, Recs hdC W 34 1 v4 Hs ∧ Hs.length = k ∧ ∀ (i : Nat) (h : Hd) (l : List UInt8), Hs[i]? = some h → C[i]? = some l → BytesAt w h.1 h.2.1 h.2.2 l
  str : Recs strC W 9 1 v5 (C.take k)
  o4 : ∀ q, v4.ownBlock = some q → w.heap.size ≤ q
  o5 : ∀ q, v5.ownBlock = some q → w.heap.size ≤ q
  bel : Below w.heap.size w W

set_option maxHeartbeats 2000000 in
theorem pages6_any (a : Option Addr) (n cap : Nat) (P : List (List UInt8)) (w : World) (hP : RowsR w a n cap P) :
    Calls Try.prog 13 #[.slice a n cap] w (PgTo (cutP P) w) := by
  have hlen := hP.len
  obtain ⟨N, hN⟩ : ∃ N, min n 99 = N := ⟨_, rfl⟩
  have hcut : RowsR w a N cap (P.take 99) := by
    obtain ⟨Hs, h1, h2, h3⟩ := hP
    refine ⟨Hs.take N, h1.cutHead N (by omega), by rw [List.length_take, List.length_take, h2, hlen]; omega, fun i h b hi hb => ?_⟩
    have hiN : i < N := by
      have := (List.getElem?_eq_some_iff.1 hi).1
      rw [List.length_take] at this
      omega
    rw [List.getElem?_take_of_lt hiN] at hi
    rw [List.getElem?_take_of_lt (by omega)] at hb
    exact h3 i h b hi hb
  have hcaps := hP.caps
  unfold maxLen at hcaps
  have hCl : (cutP P).length = N := by unfold cutP; rw [List.length_map, List.length_take, hlen]; omega
  have hCat : ∀ j, j < N → (cutP P)[j]? = some (((P.take 99).getD j []).take 130) := fun j hj => by
    have hjl : j < (P.take 99).length := by rw [List.length_take, hlen]; omega
    unfold cutP
    rw [List.getElem?_map, List.getElem?_eq_getElem hjl]
    simp only [Option.map_some, List.getD, List.getElem?_eq_getElem hjl, Option.getD_some]
  generalize cutP P = C at *
  have HP := Lib.hid hcut
  have HCL := Lib.hid hCl
  have HCAT := Lib.hid hCat
  have hN99 : N ≤ 99 := by omega
  have HN := Lib.hid hN
  have hcc : n ≤ cap := hcaps.1
  have hcm := hcaps.2
  have hnx : n ≤ 9223372036854775807 := by omega
  clear hP hcut hCl hCat hN hcaps hlen
  go_enter Try.func13, Try.ntmps13
  go_upto_if 10 with (fail)
  go_cut [0] (fun s0 wx => s0 = .slice a N cap ∧ wx = w)
  case first =>
    by_cases h9 : 99 < n
    · have h9i : (99 : Int) < (n : Int) := by omega
      have HH := Lib.hid (show 99 = N by have := HN.out; omega)
      have h99c : 99 ≤ cap := by omega
      go_wp2
      go_meet
      exact ⟨by rw [← HH.out], rfl⟩
    · have h9i : ¬ (99 : Int) < (n : Int) := by omega
      have HH := Lib.hid (show n = N by have := HN.out; omega)
      go_wp2
      go_meet
      exact ⟨by rw [← HH.out], rfl⟩
  case rest =>
    obtain ⟨rfl, hwc⟩ := hcut
    replace hwc := hwc.symm
    subst hwc
    go_wp2
    go_loopw [4, 5, 6] (fun x y i wr => ∃ k : Nat, k ≤ N ∧ i = .int .i64 k ∧ PgW w C k x y wr) (fun _ _ i _ => N - (intOf i).toNat)
    case atStart => exact ⟨0, Nat.zero_le _, rfl, ⟨[], Recs.nil _ _ _ _, rfl, fun i h l hi _ => by simp at hi⟩, by rw [List.take_zero]; exact Recs.nil _ _ _ _, fun q hq => by simp [Value.ownBlock] at hq, fun q hq => by simp [Value.ownBlock] at hq, Below.refl _ _⟩
    case round =>
      obtain ⟨k, hk, rfl, hw⟩ := hrel
      have HW := Lib.hid hw
      clear hw
      by_cases hlt : k < N
      · obtain ⟨b, off, rfl, hbb, hc⟩ := HP.out.at [] (by omega)
        obtain ⟨⟨ha, hn2, hc2⟩, hcell0, hE⟩ := hc k hlt
        dsimp only at hcell0 hE
        have hcell : wr.cell? ⟨b, off + k, none⟩ = some (.slice ha hn2 hc2) := (HW.out.bel.cell (p := ⟨b, off + k, none⟩) hbb).trans hcell0
        have hki : (k : Int) < (N : Int) := by omega
        have hct := HCAT.out k hlt
        generalize (P.take 99).getD k [] = r at *
        obtain ⟨m, hm⟩ : ∃ m, min hn2 130 = m := ⟨_, rfl⟩
        have hrl := hE.1
        have hrc := hE.2.1
        have hrm := hE.2.2.1
        unfold maxLen at hrm
        have hEc : BytesAt w ha m hc2 (r.take 130) := by
          by_cases h : 130 ≤ hn2
          · have := hE.head (m := 130) h
            rwa [show 130 = m by omega] at this ⊢
          · rw [List.take_of_length_le (by omega)]
            rwa [show m = hn2 by omega]
        have HMM := Lib.hid hm
        have HEC := Lib.hid hEc
        have HCT := Lib.hid hct
        clear hc hcell0 hE hct hrl hEc hm
        go_upto_if 25 with (fail)
        go_cut [7] (fun s7 wx => s7 = .slice ha m hc2 ∧ wx = wr)
        case first =>
          by_cases h13 : 130 < hn2
          · have h13i : (130 : Int) < (hn2 : Int) := by omega
            have HH := Lib.hid (show 130 = m by have := HMM.out; omega)
            have h13c : 130 ≤ hc2 := by omega
            have hmx2 : hn2 ≤ 9223372036854775807 := by omega
            go_wp2
            go_meet
            exact ⟨by rw [← HH.out], rfl⟩
          · have h13i : ¬ (130 : Int) < (hn2 : Int) := by omega
            have HH := Lib.hid (show hn2 = m by have := HMM.out; omega)
            go_wp2
            go_meet
            exact ⟨by rw [← HH.out], rfl⟩
        case rest =>
          obtain ⟨rfl, hwc⟩ := hcut
          replace hwc := hwc.symm
          subst hwc
          obtain ⟨Hs, o1, o2, o3⟩ := HW.out.out
          obtain ⟨j0, hj0, jz0, jz1, jz2⟩ := info_parts infoRow
          have HJ := Lib.hid (And.intro hj0 (And.intro jz0 (And.intro jz1 jz2)))
          obtain ⟨i0, hi0, hz0, hz1, hz2⟩ := info_parts infoStr
          have HI := Lib.hid (And.intro hi0 (And.intro hz0 (And.intro hz1 hz2)))
          have hal : Below wr.heap.size wr (wr.alloc (.cells (#[.slice ha m hc2] : Array Value) 34)) := (Below.refl _ _).alloc (Nat.le_refl _) _
          have HO1 := Lib.hid (o1.below hal)
          have HO2 := Lib.hid o2
          have HO3 := Lib.hid o3
          have HS1 := Lib.hid (HW.out.str.below hal)
          have HM1 := Lib.hid (show Hs.length + 1 ≤ maxLen by rw [o2]; unfold maxLen; omega)
          have HM2 := Lib.hid (show (Hs.length + 1) * 24 ≤ 140737488355328 by rw [o2]; omega)
          have hstl : (C.take k).length = k := by rw [List.length_take, HCL.out]; omega
          have HM3 := Lib.hid (show (C.take k).length + 1 ≤ maxLen by rw [hstl]; unfold maxLen; omega)
          have HM4 := Lib.hid (show ((C.take k).length + 1) * 16 ≤ 140737488355328 by rw [hstl]; omega)
          have HAL := Lib.hid hal
          clear hj0 jz0 jz1 jz2 hi0 hz0 hz1 hz2 hal o1 o2 o3 hstl hcell
          go_upto_region 12 with (first
            | (refine wpList_buildSliceV rfl 24 1 _ rfl #[(0, .slice ha m hc2)] (by simp [go_sem]) _ _ (built1 _ _ _ _) ?_)
            | (refine wpList_append_recs (f := hdC) rfl _ _ 24 rfl 34 j0 _ 1 24 Try.underlying24 HJ.out.1 HJ.out.2.1 HJ.out.2.2.1 HJ.out.2.2.2 (by simp [Value.cells]) (by omega) _ _ rfl HO1.out ⟨wr.heap.size, 0, none⟩ 1 1 [(ha, m, hc2)] rfl rfl (fun y _ => rfl) (fun y _ => hdC_one y) (one_rec (f := hdC) (x := (ha, m, hc2)) (heap_alloc_new wr _)) HM1.out HM2.out ?_; intro v7 w7 hr7 hg7 hv7))
          have hs7 := HS1.out.only (Only.of_grown hg7 fun q e => e) (HS1.out.typed (by decide) HO1.out)
          have hb7 : Below w.heap.size w w7 := (HW.out.bel.trans (HAL.out.mono HW.out.bel.size)).grown hg7 (HW.out.bel.trans (HAL.out.mono HW.out.bel.size)).size (fun q hq => HW.out.o4 q hq)
          have ho7 : ∀ q, v7.ownBlock = some q → w.heap.size ≤ q := fun q hq => by
            rcases hv7 with e | e
            · exact HW.out.o4 q (e ▸ hq)
            · rw [e] at hq; have := HW.out.bel.size; simp at hq; omega
          have hcv := (HEC.out.below hb7).conv
          have HR7 := Lib.hid hr7
          have HB7 := Lib.hid hb7
          have HO7 := Lib.hid ho7
          have hal8 : Below w7.heap.size w7 (w7.alloc (.cells (strC (r.take 130)).toArray 9)) := (Below.refl _ _).alloc (Nat.le_refl _) _
          have HS8 := Lib.hid (hs7.below hal8)
          have HR8 := Lib.hid (hr7.below hal8)
          have HAL8 := Lib.hid hal8
          clear hs7 hb7 ho7 hr7 hg7 hv7 hal8 HS1 HO1
          generalize hrr : r.take 130 = rr at *
          go_wp2_with (first
            | (refine wpList_buildSliceV rfl 28 1 _ rfl #[(0, .string ⟨rr.toArray⟩)] (by simp [go_sem]) _ _ (built_str rr _) ?_)
            | (refine wpList_append_recs (f := strC) rfl _ _ 28 rfl 9 i0 _ 1 16 Try.underlying28 HI.out.1 HI.out.2.1 HI.out.2.2.1 HI.out.2.2.2 (by simp [Value.cells]) (by omega) _ _ rfl HS8.out ⟨w7.heap.size, 0, none⟩ 1 1 [rr] rfl rfl (fun y _ => rfl) (fun y _ => strC_one y) (one_rec (f := strC) (heap_alloc_new w7 _)) HM3.out HM4.out ?_; intro v9 w9 hr9 hg9 hv9))
          have hkC : k < C.length := by rw [HCL.out]; exact hlt
          have htk : C.take (k + 1) = C.take k ++ [rr] := by
            have h1 := HCT.out
            rw [List.getElem?_eq_getElem hkC] at h1
            rw [List.take_succ_eq_append_getElem hkC]
            congr 2
            simpa using h1
          have hb8 := HB7.out.trans (HAL8.out.mono HB7.out.size)
          have ho9 : ∀ q, v9.ownBlock = some q → w.heap.size ≤ q := fun q hq => by
            rcases hv9 with e | e
            · exact HW.out.o5 q (e ▸ hq)
            · rw [e] at hq; have := HB7.out.size; simp at hq; omega
          refine ⟨⟨k + 1, by omega, by go_num, ⟨Hs ++ [(ha, m, hc2)], HR8.out.only (Only.of_grown hg9 fun q e => e) (HR8.out.typed (by decide) HS8.out), by rw [List.length_append, HO2.out]; rfl, fun i h l hi hl => ?_⟩, by rw [htk]; exact hr9, HO7.out, ho9, hb8.grown hg9 hb8.size (fun q hq => HW.out.o5 q hq)⟩, by simp [intOf]; omega⟩
          by_cases hik : i < k
          · rw [List.getElem?_append_left (by rw [HO2.out]; exact hik)] at hi
            exact HO3.out i h l hi hl
          · have hi1 := (List.getElem?_eq_some_iff.1 hi).1
            rw [List.length_append, HO2.out, List.length_singleton] at hi1
            obtain rfl : i = k := by omega
            rw [List.getElem?_append_right (by rw [HO2.out]; exact Nat.le_refl _), HO2.out, Nat.sub_self] at hi
            rw [HCT.out] at hl
            simp at hi hl
            subst hi hl
            exact HEC.out
      · obtain rfl : k = N := by omega
        have hw := HW.out
        obtain ⟨⟨Hs, o1, o2, o3⟩, h2, h3, h4, h5⟩ := hw
        rw [List.take_of_length_le (Nat.le_of_eq HCL.out)] at h2
        obtain ⟨ax, cx, hve, _, _⟩ := o1.form
        rw [o2] at hve
        subst hve
        have hfin : PgTo C w (.returned (.tuple #[.slice ax k cx, _])) wr := ⟨ax, k, cx, _, rfl, ⟨Hs, o1.came, by rw [o2, HCL.out], fun i h l hi hl => (o3 i h l hi hl).below h5⟩, h2, h5⟩
        have H := Lib.hid hfin
        clear hfin o1 o2 o3 h2 h3 h4 h5
        go_wp2
        go_ret2
        exact H.out

end Go.Proofs.Ytflboggjbjfkjaa
