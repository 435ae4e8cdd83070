/-
  Package limit: spend.
-/
import Derived.Test.YtklfoafbgniogaaLkD
namespace Go.Proofs.Ytklfoafbgniogaa
open Go.RowKit Go.Deep
set_option linter.unusedVariables false
set_option linter.unusedSimpArgs false
set_option maxRecDepth 100000

/-! ### the maths: what is taken of a list, and of the one before -/
theorem sumI_zero (f : Itm → Nat) : ∀ l : List Itm, (∀ x ∈ l, f x = 0) → sumI f l = 0
  | [], _ => rfl
  | x :: l, h => by rw [sumI_cons, h x (by simp), sumI_zero f l fun y hy => h y (by simp [hy])]
theorem sumI_ones (f : Itm → Nat) : ∀ l : List Itm, (∀ x ∈ l, f x = 1) → sumI f l = l.length
  | [], _ => rfl
  | x :: l, h => by rw [sumI_cons, h x (by simp), sumI_ones f l fun y hy => h y (by simp [hy]), List.length_cons]; omega
theorem pairs_pkd (L : List Itm) (h : ∀ x ∈ L, 1 ≤ x.ms.length) : ∀ x ∈ pairsI L, pkdN x = 1 := fun x hx => by
  obtain ⟨a, ha, b, hb, rfl⟩ := pairsI_mem L x hx
  have := h a ha
  have := h b hb
  unfold pkdN twoI; simp only [List.length_append]; rw [if_pos (by omega)]
theorem coin_pkd (C : List Itm) (h : ∀ x ∈ C, x.ms.length = 1) : ∀ x ∈ C, pkdN x = 0 := fun x hx => by unfold pkdN; rw [h x hx]; rfl
/-- how often s is in the first t of the list that is looked at next -/
def restN (C : List Itm) (K t s : Nat) : Nat := if K = 0 then 0 else sumI (fun p => p.ms.count s) ((lvI C (K - 1)).take t)
/-- packages among the first t of list k -/
def pkN (C : List Itm) (k t : Nat) : Nat := sumI pkdN ((lvI C k).take t)
theorem spend_step (C : List Itm) (hC : SortI C) (h1 : ∀ x ∈ C, x.ms.length = 1) (k t : Nat) (ht : t ≤ (lvI C k).length) :
    pkN C k t ≤ t ∧ t - pkN C k t ≤ C.length ∧ (∀ s, restN C (k + 1) t s = sumI (fun p => p.ms.count s) (C.take (t - pkN C k t)) + restN C k (2 * pkN C k t) s) ∧ (∀ j, k = j + 1 → 2 * pkN C k t ≤ (lvI C j).length) := by
  cases k with
  | zero =>
    have h0 : pkN C 0 t = 0 := sumI_zero _ _ fun x hx => coin_pkd C h1 x (List.mem_of_mem_take hx)
    rw [h0]
    refine ⟨Nat.zero_le _, by simpa [lvI] using ht, fun s => ?_, fun j hj => by omega⟩
    simp [restN, lvI]
  | succ k =>
    have hr := splitI_rest t C (pairsI (lvI C k)) (by rw [pairsI_len]; rw [lvI_len] at ht; exact ht)
    have hle := splitI_le t C (pairsI (lvI C k))
    have hp : pkN C (k + 1) t = t - splitI C (pairsI (lvI C k)) t := by
      unfold pkN
      rw [lvI_mrg C hC, splitI_sum, sumI_zero _ _ (fun x hx => coin_pkd C h1 x (List.mem_of_mem_take hx)), sumI_ones _ _ (fun x hx => pairs_pkd _ (lvI_ms C hC h1 k) x (List.mem_of_mem_take hx)), List.length_take]
      omega
    have hroom : 2 * pkN C (k + 1) t ≤ (lvI C k).length := by rw [hp]; rw [pairsI_len] at hr; omega
    have ha : t - pkN C (k + 1) t = splitI C (pairsI (lvI C k)) t := by rw [hp]; omega
    refine ⟨by rw [hp]; omega, by rw [ha]; exact hle.2, fun s => ?_, fun j hj => by rw [show j = k by omega]; exact hroom⟩
    rw [ha]
    unfold restN
    rw [if_neg (by omega), if_neg (by omega), Nat.add_sub_cancel, Nat.add_sub_cancel, lvI_mrg C hC, splitI_sum, ← hp, pairsI_sum _ (fun a b => by simp [twoI]) _ _ hroom]
/-- numbers by their places -/
def rowA (n : Nat) (A : Nat → Nat) : List Int := (List.range n).map fun s => ((A s : Nat) : Int)
theorem rowA_len (n : Nat) (A : Nat → Nat) : (rowA n A).length = n := by simp [rowA]
theorem rowA_at (n : Nat) (A : Nat → Nat) (s : Nat) (h : s < n) : (rowA n A).getD s 0 = ((A s : Nat) : Int) := by unfold rowA; rw [List.getD, List.getElem?_map, List.getElem?_range h]; rfl
theorem rowA_congr (n : Nat) (A B : Nat → Nat) (h : ∀ s, A s = B s) : rowA n A = rowA n B := by unfold rowA; exact List.map_congr_left fun s _ => by rw [h s]
theorem rowA_set (n : Nat) (A B : Nat → Nat) (j : Nat) (z : Int) (hj : j < n) (hz : z = ((B j : Nat) : Int)) (h : ∀ s, s ≠ j → A s = B s) : (rowA n A).set j z = rowA n B := by
  apply List.ext_getElem (by simp [rowA])
  intro i h1 h2
  rw [List.getElem_set]
  by_cases hij : j = i
  · subst hij; rw [if_pos rfl, hz]; simp [rowA]
  · rw [if_neg hij]; simp [rowA, h i (fun e => hij e.symm)]
theorem rowA_zero (n : Nat) : rowA n (fun _ => 0) = List.replicate n 0 := by
  apply List.ext_getElem (by simp [rowA]); intro i h1 h2; simp [rowA]
theorem coin_take (C : List Itm) (k s : Nat) (h : k < C.length) (h1 : (C.getD k default).ms = [idxI (C.getD k default)]) :
    sumI (fun p => p.ms.count s) (C.take (k + 1)) = sumI (fun p => p.ms.count s) (C.take k) + if s = idxI (C.getD k default) then 1 else 0 := by
  rw [sumI_take_at _ C k h]
  congr 1
  rw [h1]
  by_cases hs : s = idxI (C.getD k default)
  · rw [if_pos hs, ← hs]; simp
  · rw [if_neg hs, List.count_eq_zero]; simpa using hs

set_option maxHeartbeats 8000000 in
theorem lkSpend_any (gO n : Nat) (ca : Option Addr) (cn cc : Nat) (C : List Itm) (la : Option Addr) (m lc : Nat) (Z : List LvR) (w0 w : World)
    (hrow : Recs intCS w 3 1 (.slice (some ⟨gO, 0, none⟩) n n) (rowA n fun _ => 0)) (hC : CnAt w ca cn cc C) (hcg : ∀ q, ca = some q → q.block ≠ gO) (hL : CameAt lvC 1 w la m lc Z) (hlg : ∀ q, la = some q → q.block ≠ gO)
    (hZ : ∀ r ∈ Z, LvAt w0 w r) (hX : Z.map (·.X) = (List.range m).map (lvI C)) (hn : n ≤ 1000) (hcn : 2 ≤ cn) (hcn2 : cn ≤ 1000) (hm1 : 1 ≤ m) (hm : m ≤ 15) (hok : CoinsOk C) (hix : ∀ x ∈ C, idxI x < n)
    (hroom : 2 * cn - 2 ≤ (lvI C (m - 1)).length) (hlen : ∀ s, s < n → lenI C m s ≤ 15) :
    Calls Try.prog 17 #[.slice (some ⟨gO, 0, none⟩) n n, .slice ca cn cc, .slice la m lc] w fun e w' => e = .returned (.tuple #[]) ∧ Recs intCS w' 3 1 (.slice (some ⟨gO, 0, none⟩) n n) (rowA n (lenI C m)) ∧ Only (fun q => q = gO) w w' := by
  have hl : C.length = cn := hC.1
  have hms : ∀ x ∈ C, x.ms = [idxI x] := fun x hx => by obtain ⟨s, hs⟩ := hok.one x hx; rw [hs]; unfold idxI; rw [hs]; rfl
  have hms1 : ∀ x ∈ C, x.ms.length = 1 := fun x hx => by rw [hms x hx]; rfl
  have HC := Lib.hid hC
  have HCG := Lib.hid hcg
  have HL := Lib.hid hL
  have HLG := Lib.hid hlg
  have HZ := Lib.hid hZ
  have HX := Lib.hid hX
  have HROW := Lib.hid hrow
  obtain ⟨cur0, hg0⟩ := hrow.blk gO rfl
  have HG0 := Lib.hid hg0
  clear hg0
  have HST := Lib.hid (fun k t (ht : t ≤ (lvI C k).length) => spend_step C hok.sort hms1 k t ht)
  have HT := Lib.hid (show ∀ s, (fun _ => 0) s + restN C m (2 * cn - 2) s = lenI C m s from fun s => by unfold restN lenI; rw [if_neg (by omega), hl]; simp)
  have HTC := Lib.hid (fun k s (hk : k < cn) => coin_take C k s (by rw [hl]; exact hk) (by rw [List.getD, List.getElem?_eq_getElem (by rw [hl]; exact hk)]; exact hms _ (List.getElem_mem _)))
  have HIX := Lib.hid (fun k (hk : k < cn) => show idxI (C.getD k default) < n by rw [List.getD, List.getElem?_eq_getElem (by rw [hl]; exact hk)]; exact hix _ (List.getElem_mem _))
  have HLB := Lib.hid (fun k => show (lvI C k).length ≤ 2000 by have := lvI_len2 C k; omega)
  clear hrow hC hcg hL hlg hZ hX hok hix hms hms1 hl
  have e1 : IntKind.i64.wrap ((m : Int) - 1) = (m : Int) - 1 := IntWalk.i64_in _ (by omega)
  go_enter Try.func17, Try.ntmps17
  go_wp2
  clear e1
  go_loopw [6, 7] (fun st si wx => ∃ (K t : Nat) (A : Nat → Nat), K ≤ m ∧ t ≤ 4000 ∧ si = .int .i64 ((K : Int) - 1) ∧ st = .int .i64 (t : Int) ∧ (∀ j, K = j + 1 → t ≤ (lvI C j).length) ∧ Recs intCS wx 3 1 (.slice (some ⟨gO, 0, none⟩) n n) (rowA n A) ∧ Only (fun q => q = gO) w wx ∧ ∀ s, A s + restN C K t s = lenI C m s) (fun _ si _ => (intOf si + 1).toNat)
  case atStart => exact ⟨m, 2 * cn - 2, fun _ => 0, Nat.le_refl _, by omega, rfl, by go_num, fun j hj => by rw [show j = m - 1 by omega]; exact hroom, HROW.out, Only.refl _ _, HT.out⟩
  case round =>
    obtain ⟨K, t, A, hK, ht4, rfl, rfl, ht, hr, ho, hA⟩ := hrel
    rename World => wx
    have HR := Lib.hid hr
    have HO := Lib.hid ho
    have HA := Lib.hid hA
    clear hr ho hA HT HROW
    cases K with
    | zero =>
      have HE := Lib.hid (rowA_congr n A (lenI C m) fun s => by have := HA.out s; unfold restN at this; simpa using this)
      have hki : ¬ (0 : Int) ≤ ((0 : Nat) : Int) - 1 := by omega
      go_wp2
      go_end0
      exact ⟨rfl, by rw [← HE.out]; exact HR.out, HO.out⟩
    | succ k =>
      have hkk : ((k + 1 : Nat) : Int) - 1 = (k : Int) := by omega
      rw [hkk]
      have htk := ht k rfl
      obtain ⟨hp1, hp2, hp3, hp4⟩ := HST.out k t htk
      have HP3 := Lib.hid hp3
      have HP4 := Lib.hid hp4
      obtain ⟨p, hp⟩ : ∃ p, p = pkN C k t := ⟨_, rfl⟩
      rw [← hp] at hp1 hp2 HP3 HP4
      rw [HC.out.1] at hp2
      have hcw := HC.out.only (by omega) HO.out (fun q hq _ => HCG.out q hq)
      have hlw := HL.out.only (by omega) HO.out (fun q hq _ => HLG.out q hq)
      obtain ⟨cb, coff, rfl, hcb, hcc⟩ := CnAt.cells hcw (by omega)
      obtain ⟨lb, loff, rfl, hlb, hlc⟩ := CameAt.at hlw (by omega) (by omega)
      have hzk : Z[k]? = some (Z.getD k default) := by rw [List.getD, List.getElem?_eq_getElem (by rw [HL.out.1]; omega)]; rfl
      have x1 := hlc k 0 _ hzk (by omega)
      rw [Nat.mul_one, Nat.add_zero] at x1
      change World.cell? _ _ = some (.slice _ _ _) at x1
      have hrz := HZ.out _ (List.mem_of_getElem? hzk)
      have hrx : (Z.getD k default).X = lvI C k := by
        have := congrArg (fun l => l[k]?) HX.out
        simp only [List.getElem?_map, hzk, List.getElem?_range (show k < m by omega), Option.map_some, Option.some.injEq] at this
        exact this
      generalize Z.getD k default = r at *
      obtain ⟨rX, ra, rn, rc⟩ := r
      simp only at hrx x1
      subst hrx
      have hne := hrz.1.ne_of HG0.out (by decide)
      have hrw : Recs elmC wx 68 2 (.slice ra rn rc) (lvI C k) := hrz.1.only HO.out hne
      have hcame := hrw.came8 fun _ => rfl
      have hln := HLB.out k
      rw [hcame.1] at htk hln
      have CP := Lib.hid (fun a' (h : ElmAt wx a' t rc ((lvI C k).take t)) => lkPacked_any a' t rc ((lvI C k).take t) wx h (by omega))
      have HCM := Lib.hid hcame
      have hrc := hcame.2.1
      obtain ⟨rg, rcap, hv, _, _, _⟩ := hrw.form' (by have h1 := lvI_ge C k; have h2 := HC.out.1; omega)
      simp only [Value.slice.injEq] at hv
      obtain ⟨rfl, hv2, rfl⟩ := hv
      clear hv2 hzk hrz hne hrw hcame hlc hcw hlw hkk hp3 hp4 HST
      have hki : (0 : Int) ≤ (k : Int) := by omega
      have hkm : (k : Int) < m := by omega
      have htr : t ≤ rc := by omega
      go_wp2_with fail
      refine (CP.out _ (CameAt.headOf HCM.out t htk)).mono ?_
      rintro e w2 ⟨rfl, hb2⟩
      change Below wx.heap.size wx w2 at hb2
      have hpe : sumI pkdN ((lvI C k).take t) = p := hp.symm
      rw [hpe]
      have HO2 := Lib.hid (show Only (fun q => q = gO) w w2 from HO.out.trans (Only.of_below hb2) fun _ _ e => e)
      have HR2 := Lib.hid (HR.out.below hb2)
      have HC2 := Lib.hid (show CnAt w2 (some ⟨cb, coff, none⟩) cn cc C from HC.out.only (by omega) HO2.out (fun q hq _ => HCG.out q hq))
      have HGL := Lib.hid (HR2.out.lt gO rfl)
      obtain ⟨d, hd⟩ : ∃ d, d = t - p := ⟨_, rfl⟩
      rw [← hd] at hp2 HP3
      have e1 : IntKind.i64.wrap ((t : Int) - (p : Int)) = (d : Int) := by rw [IntWalk.i64_in _ (by omega)]; omega
      have hdc : d ≤ cc := by have := HC.out.2.1; omega
      have HD := Lib.hid hd
      clear hpe hp hd CP HCM x1 hb2
      go_wp2
      clear e1
      have HS0 := Lib.hid (rowA_congr n A (fun s => A s + sumI (fun p => p.ms.count s) (C.take 0)) fun s => by simp [sumI])
      go_loopw [35] (fun si wy => ∃ j : Nat, j ≤ d ∧ si = .int .i64 (j : Int) ∧ Recs intCS wy 3 1 (.slice (some ⟨gO, 0, none⟩) n n) (rowA n fun s => A s + sumI (fun p => p.ms.count s) (C.take j)) ∧ Only (fun q => q = gO) w2 wy) (fun si _ => d - (intOf si).toNat)
      case atStart => exact ⟨0, Nat.zero_le _, rfl, by rw [← HS0.out]; exact HR2.out, Only.refl _ _⟩
      case round =>
        obtain ⟨j, hj, rfl, hr3, ho3⟩ := hrel
        rename World => wy
        have HR3 := Lib.hid hr3
        have HO3 := Lib.hid ho3
        clear hr3 ho3
        by_cases hlt : j < d
        · have hji : (j : Int) < d := by omega
          have hcy : CnAt wy (some ⟨cb, coff, none⟩) cn cc C := HC2.out.only (by omega) HO3.out (fun q hq _ => HCG.out q hq)
          obtain ⟨cb', coff', hce, _, hcc2⟩ := CnAt.cells hcy (by omega)
          injection hce with hce
          injection hce with hce1 hce2
          subst hce1
          subst hce2
          have hrange := hcc2 j (by omega)
          have hix := HIX.out j (by omega)
          have htc := fun s => HTC.out j s (by omega)
          generalize C.getD j default = x at *
          have HRA := Lib.hid hrange
          have HTC2 := Lib.hid htc
          have hst := run_storeCells_new (P := Try.prog) wy 40 #[.int .i64 0, .int .i64 0] (cnC x).toArray sizeCn rfl (all_oneCell_toArray (cnC_one x))
          rw [List.toList_toArray] at hst
          obtain ⟨w3, hw3⟩ : ∃ u, u = wy.alloc (.cells (cnC x).toArray 40) := ⟨_, rfl⟩
          rw [← hw3] at hst
          have HB3 := Lib.hid (show Below wy.heap.size wy w3 by rw [hw3]; exact (Below.refl _ _).alloc (Nat.le_refl _) _)
          have hrow : w3.heap[wy.heap.size]? = some (.cells (cnC x).toArray 40 (0, 0)) := by rw [hw3]; exact heap_alloc_new wy _
          have y0 := cell_of_row _ wy.heap.size 0 _ _ _ hrow
          change World.cell? _ ⟨wy.heap.size, 0, none⟩ = some (.int .i64 (idxI x : Int)) at y0
          clear hw3 hrow hcc2 hrange htc hcy
          go_upto_region 8 with (refine wpList_load_mid rfl 40 _ rfl cb (coff + j * 2) rfl (cnC x) _ HRA.out Try.underlying40 rfl sizeCn ?_)
          clear hst
          generalize idxI x = sx at *
          obtain ⟨q, hq⟩ : ∃ q, q = wy.heap.size := ⟨_, rfl⟩
          rw [← hq] at y0 ⊢
          have hr4 := HR3.out.below HB3.out
          have hsl : sx < (rowA n fun s => A s + sumI (fun p => p.ms.count s) (C.take j)).length := by rw [rowA_len]; exact hix
          have x3 := intR_at hr4 sx hsl
          have f3 := hr4.frozenAt sx
          rw [rowA_at _ _ _ hix] at x3
          have hsm : A sx + sumI (fun p => p.ms.count sx) (C.take j) ≤ 1000000000 := by
            have h1 := sumI_take_le (fun p => p.ms.count sx) C j d (by omega)
            have h2 := HA.out sx
            rw [HP3.out sx] at h2
            have h3 := hlen sx hix
            omega
          have HSET := Lib.hid (intR_set hr4 sx hsl (((A sx + sumI (fun p => p.ms.count sx) (C.take j)) + 1 : Nat) : Int))
          rw [rowA_set n _ (fun s => A s + sumI (fun p => p.ms.count s) (C.take (j + 1))) sx _ hix (by rw [HTC2.out sx, if_pos rfl]; omega) (fun s hs => by rw [HTC2.out s, if_neg hs]; rfl)] at HSET
          have HON := Lib.hid ((HO3.out.trans (Only.of_below HB3.out) fun _ _ e => e).trans (Only.setCell (S := fun q => q = gO) w3 ⟨gO, sx, none⟩ (.int .i64 (((A sx + sumI (fun p => p.ms.count sx) (C.take j)) + 1 : Nat) : Int)) rfl) fun _ _ e => e)
          generalize A sx + sumI (fun p => p.ms.count sx) (C.take j) = c2 at *
          have hsi : (sx : Int) < n := by omega
          clear hq hsl hr4
          go_wp2
          exact ⟨⟨j + 1, by omega, by go_num, HSET.out, HON.out⟩, by simp [intOf]; omega⟩
        · have hji : ¬ (j : Int) < d := by omega
          obtain rfl : j = d := by omega
          have HOF := Lib.hid (HO2.out.trans HO3.out fun _ _ e => e)
          have HAN := Lib.hid (show ∀ s, (A s + sumI (fun p => p.ms.count s) (C.take j)) + restN C k (2 * p) s = lenI C m s from fun s => by have h2 := HA.out s; rw [HP3.out s] at h2; omega)
          go_wp2
          go_roundw
          case rel => exact ⟨k, 2 * p, _, by omega, by omega, by first | rfl | go_num, by first | rfl | go_num, fun j hj => HP4.out j hj, HR3.out, HOF.out, HAN.out⟩
          case measure => simp [intOf]
end Go.Proofs.Ytklfoafbgniogaa
