/-
  Package match: places added to the table.
-/
import Derived.Test.YtonfppbijofapaaMkD
namespace Go.Proofs.Ytonfppbijofapaa
open Go.RowKit
set_option linter.unusedVariables false
set_option linter.unusedSimpArgs false
set_option maxRecDepth 100000

theorem zeroInts (w : World) : (zeroValue 61).run Try.prog w = .ok (.slice none 0 0) w := by kernel_rfl
theorem offsM_more (b : List UInt8) (lo c : Nat) (h : lo + c + 3 ≤ b.length) : (fun j => if j = key3 b (lo + c) then offsM b (key3 b (lo + c)) lo c ++ [lo + c] else offsM b j lo c) = fun j => offsM b j lo (c + 1) := by
  funext j
  by_cases hj : j = key3 b (lo + c)
  · subst hj
    rw [if_pos rfl, offsM, if_pos ⟨h, rfl⟩]
  · rw [if_neg hj, offsM, if_neg (fun hh => hj hh.2.symm), List.append_nil]
theorem offsM_same (b : List UInt8) (lo c : Nat) (h : ¬ lo + c + 3 ≤ b.length) : (fun j => offsM b j lo c) = fun j => offsM b j lo (c + 1) := by
  funext j
  rw [offsM, if_neg (fun hh => h hh.1), List.append_nil]
theorem rowK_put (L : List (Key3 × Value)) (k : Key3) (v : Value) : ∀ j, rowK (putK L k v) j = if j = k then v else rowK L j := by
  intro j
  unfold rowK
  rw [getK_put]
  split <;> rfl

theorem entry_done {n0 M : Nat} {w4 w5 w6 w7 : World} {L : List (Key3 × Value)} {k : Key3} {v v6 : Value} {E : Key3 → List Nat} {p : Nat}
    (hmap : ∃ es c, w4.heap[M]? = some (.map es c)) (hM : n0 ≤ M) (hMlt : M < w4.heap.size) (hR4 : RowsK n0 w4 (rowK L) E) (ho5 : Only (fun q => q = M) w4 w5) (hm5 : ∃ es c, w5.heap[M]? = some (.map es c)) (hvk : rowK L k = v)
    (hr6 : Recs intCS w6 3 1 v6 ((E k).map Int.ofNat ++ [(p : Int)])) (hg6 : w5.grownBy w6 v.ownBlock) (hk6 : v6.ownBlock = v.ownBlock ∨ v6.ownBlock = some w5.heap.size) (ho7 : Only (fun q => q = M) w6 w7) (hmap7 : MapBAt Try.prog 58 oct3 w7 M (putK L k v6)) :
    TabS n0 w7 M (fun j => if j = k then E k ++ [p] else E j) ∧ Below n0 w4 w7 ∧ KeepF w4 w7 := by
  subst hvk
  have hR5 := hR4.map ho5 hmap
  have hn5 : n0 ≤ w5.heap.size := by have := ho5.size; omega
  have hne : ∀ q, (rowK L k).ownBlock = some q → q ≠ M := fun q hq e => by
    obtain ⟨es, c, hm5⟩ := hm5
    obtain ⟨cur, hc⟩ := (hR5.recs k).blk q hq
    rw [e, hm5] at hc; cases hc
  have hM6 : w6.heap[M]? = w5.heap[M]? := hg6.block M (by have := ho5.size; omega) (fun e => hne M e.symm rfl)
  have hm6 : ∃ es c, w6.heap[M]? = some (.map es c) := by rw [hM6]; exact hm5
  have hR6 := hR5.grown (k := k) (v' := v6) (l := [p]) (rowK_put L k v6) (by rw [List.map_append]; exact hr6) hg6 hk6 hn5
  have hb5 : Below n0 w4 w5 := ho5.below (by omega) (fun i hi e => by omega)
  have hb6 : Below n0 w4 w6 := hb5.grown hg6 hn5 (fun q hq => hR5.since k q hq)
  refine ⟨⟨⟨_, hmap7, hR6.map ho7 hm6⟩, hM⟩, hb6.trans (ho7.below (by have := hb6.size; omega) (fun i hi e => by omega)), fun j c t hj ht => ?_⟩
  have hjM : ∀ u : World, (∃ es c, u.heap[M]? = some (.map es c)) → u.heap[j]? = some (.cells c t (0, 0)) → j ≠ M := fun u hu hj e => by
    obtain ⟨es, c', hu⟩ := hu
    rw [e, hu] at hj; cases hj
  have h5 : w5.heap[j]? = some (.cells c t (0, 0)) := (ho5.block j (Array.getElem?_eq_some_iff.1 hj).1 (hjM w4 hmap hj)).trans hj
  have h6 : w6.heap[j]? = some (.cells c t (0, 0)) := (hg6.block j (Array.getElem?_eq_some_iff.1 h5).1 (fun e => by
    obtain ⟨cur, hc⟩ := (hR5.recs k).blk j e.symm
    rw [h5] at hc
    cases hc
    exact ht rfl)).trans h5
  exact (ho7.block j (Array.getElem?_eq_some_iff.1 h6).1 (hjM w6 hm6 h6)).trans h6

set_option maxHeartbeats 4000000 in
theorem mkAdd_any (n0 : Nat) (a : Option Addr) (n cap : Nat) (b : List UInt8) (M lo c c2 f t : Nat) (w : World) (hbl : b.length = n) (hB : ∀ u, Below n0 w u → BytesAt u a n cap b) (hn : n ≤ 65536)
    (hT : TabS n0 w M (fun k => offsM b k lo c)) (hf : f = lo + c) (ht : t = lo + c2) (hc : c ≤ c2) (htn : t ≤ n) :
    Calls Try.prog 19 #[finC a n cap M, .int .i64 f, .int .i64 t] w fun e w' => e = .returned (.tuple #[]) ∧ TabS n0 w' M (fun k => offsM b k lo c2) ∧ Below n0 w w' ∧ KeepF w w' := by
  obtain ⟨i0, hi0, hz0, hz1, hz2⟩ := info_parts infoIntS
  have CS := Lib.hid (fun u (hu : Below n0 w u) p (hp : p ≤ n) => mkStart_any a n cap b M p u (hB u hu) hn hp)
  have HT := Lib.hid hT
  have HN0 := Lib.hid hT.n0le
  have HFT := Lib.hid (show f = lo + c ∧ t = lo + c2 ∧ c ≤ c2 from ⟨hf, ht, hc⟩)
  have HBL := Lib.hid hbl
  clear hB hT hf ht hc hbl
  unfold finC at *
  go_enter Try.func19, Try.ntmps19
  go_wp2
  obtain ⟨q, hq⟩ : ∃ q, q = w.heap.size := ⟨_, rfl⟩
  have HQ := Lib.hid hq
  obtain ⟨w1, hw1⟩ : ∃ u, u = w.alloc (.cells #[.slice a n cap, .map (some M)] 46) := ⟨_, rfl⟩
  have HW1 := Lib.hid (show Below w.heap.size w w1 by rw [hw1]; exact (Below.refl _ _).alloc (Nat.le_refl _) _)
  have HROW := Lib.hid (show w1.heap[q]? = some (.cells #[.slice a n cap, .map (some M)] 46 (0, 0)) by rw [hw1, hq]; exact heap_alloc_new w _)
  rw [← hw1, ← hq]
  clear hw1 hq
  go_loopw [6, 7, 8] (fun sp sb so wr => ∃ x : Nat, sp = .int .i64 ((lo + x : Nat) : Int) ∧ c ≤ x ∧ x ≤ c2 ∧ TabS n0 wr M (fun k => offsM b k lo x) ∧ Below n0 w wr ∧ KeepF w wr ∧ wr.heap[q]? = some (.cells #[.slice a n cap, .map (some M)] 46 (0, 0))) (fun sp _ _ _ => t - (intOf sp).toNat)
  case atStart => exact ⟨c, by rw [HFT.out.1], Nat.le_refl _, HFT.out.2.2, HT.out.below HW1.out, HW1.out.mono HN0.out, KeepF.below HW1.out, HROW.out⟩
  case round =>
    obtain ⟨x, rfl, hx1, hx2, hT, hb, hk, hrow⟩ := hrel
    have HTX := Lib.hid hT
    have HB := Lib.hid hb
    have HK := Lib.hid hk
    have HR := Lib.hid hrow
    have y0 := cell_of_row _ q 0 _ _ _ hrow
    have y1 := cell_of_row _ q 1 _ _ _ hrow
    change World.cell? _ ⟨q, 0, none⟩ = some (.slice a n cap) at y0
    change World.cell? _ ⟨q, 1, none⟩ = some (.map (some M)) at y1
    clear hT hb hk hrow
    generalize hp : lo + x = p at *
    have HP := Lib.hid hp
    clear hp
    by_cases hlt : p < t
    · have hpi : (p : Int) < t := by omega
      go_wp2_with fail
      refine (CS.out _ HB.out p (by omega)).mono ?_
      rintro e w2 ⟨rfl, hb2⟩
      have HT2 := Lib.hid (HTX.out.below hb2)
      have HB2 := Lib.hid (HB.out.trans (hb2.mono HTX.out.n0le))
      have HK2 := Lib.hid (HK.out.trans (KeepF.below hb2))
      have hrow2 := (hb2.block q (Array.getElem?_eq_some_iff.1 HR.out).1).trans HR.out
      have HR2 := Lib.hid hrow2
      have z0 := cell_of_row _ q 0 _ _ _ hrow2
      have z1 := cell_of_row _ q 1 _ _ _ hrow2
      change World.cell? _ ⟨q, 0, none⟩ = some (.slice a n cap) at z0
      change World.cell? _ ⟨q, 1, none⟩ = some (.map (some M)) at z1
      clear hb2 hrow2 y0 y1 HR HTX HB HK
      by_cases h3 : p + 3 ≤ n
      · rw [if_pos h3, decide_eq_true h3]
        obtain ⟨k, hk⟩ : ∃ k, k = key3 b p := ⟨_, rfl⟩
        rw [← hk, oct3_row]
        unfold k3row
        have HKK := Lib.hid hk
        clear hk
        go_upto_region 6 with (fail)
        obtain ⟨wz, hwz⟩ : ∃ u, u = w2.alloc (.cells #[.int .u8 (k.1.toNat : Int), .int .u8 (k.2.1.toNat : Int), .int .u8 (k.2.2.toNat : Int)] 58) := ⟨_, rfl⟩
        have HZ := Lib.hid (show Below w2.heap.size w2 wz by rw [hwz]; exact (Below.refl _ _).alloc (Nat.le_refl _) _)
        have hrowz : wz.heap[w2.heap.size]? = some (.cells #[.int .u8 (k.1.toNat : Int), .int .u8 (k.2.1.toNat : Int), .int .u8 (k.2.2.toNat : Int)] 58 (0, 0)) := by rw [hwz]; exact heap_alloc_new w2 _
        rw [← hwz]
        clear hwz
        have k0 := cell_of_row _ w2.heap.size 0 _ _ _ hrowz
        have k1 := cell_of_row _ w2.heap.size 1 _ _ _ hrowz
        have k2 := cell_of_row _ w2.heap.size 2 _ _ _ hrowz
        change World.cell? _ ⟨w2.heap.size, 0, none⟩ = some (.int .u8 (k.1.toNat : Int)) at k0
        change World.cell? _ ⟨w2.heap.size, 1, none⟩ = some (.int .u8 (k.2.1.toNat : Int)) at k1
        change World.cell? _ ⟨w2.heap.size, 2, none⟩ = some (.int .u8 (k.2.2.toNat : Int)) at k2
        have zz1 : World.cell? wz ⟨q, 1, none⟩ = some (.map (some M)) := (HZ.out.cell (p := ⟨q, 1, none⟩) (Array.getElem?_eq_some_iff.1 HR2.out).1).trans z1
        clear hrowz z0 z1
        obtain ⟨L, hL, hRows⟩ := (HT2.out.below HZ.out).tab
        have hbz : Below wz.heap.size wz (wz.alloc (.cells #[.int .i64 (p : Int)] 3)) := (Below.refl _ _).alloc (Nat.le_refl _) _
        obtain ⟨st, w5, hME, ho5, hMlt, hm5, hES⟩ := (hL.below hbz).entry keyStart Try.underlying44 (z := .slice none 0 0) zeroInts k
        have hR4 := hRows.below hbz
        have hm4 := (hL.below hbz).isMap
        obtain ⟨w4, hw4⟩ : ∃ u, u = wz.alloc (.cells #[.int .i64 (p : Int)] 3) := ⟨_, rfl⟩
        have h4 : w4.heap[wz.heap.size]? = some (.cells #[.int .i64 (p : Int)] 3 (0, 0)) := by rw [hw4]; exact heap_alloc_new wz _
        have hWZ : w4 = wz.alloc (.cells #[.int .i64 (p : Int)] 3) := hw4
        rw [oct3_row] at hME
        unfold k3row at hME
        rw [← hw4] at hR4 hm4 ho5 hMlt hbz
        have h5 := (ho5.block wz.heap.size (Array.getElem?_eq_some_iff.1 h4).1 (by intro e; have := hL.lt; omega)).trans h4
        obtain ⟨v, hv⟩ : ∃ v, v = (getK L k).getD (.slice none 0 0) := ⟨_, rfl⟩
        rw [← hv] at hME
        have hvk : rowK L k = v := hv.symm
        have hrecv := (hR4.map ho5 hm4).recs k
        rw [hvk] at hrecv
        have HRV := Lib.hid hrecv
        have HES := Lib.hid hES
        have HDONE := Lib.hid (fun v6 w6 w7 => entry_done (w6 := w6) (w7 := w7) (v6 := v6) (p := p) hm4 HT2.out.le hMlt hR4 ho5 hm5 hvk)
        have HMB := Lib.hid (fun w6 (hg : w5.grownBy w6 v.ownBlock) => (hg.block M (by have := ho5.size; omega) (fun e => by
          obtain ⟨es, c', hm5⟩ := hm5
          obtain ⟨cur, hc⟩ := hrecv.blk M e.symm
          rw [hm5] at hc; cases hc) : w6.heap[M]? = w5.heap[M]?))
        have HNW := Lib.hid (one_rec (f := intCS) (x := (p : Int)) (w := w5) (B := wz.heap.size) (t := 3) (fr := (0, 0)) h5)
        have HOL := Lib.hid (show ((offsM b k lo x).map Int.ofNat).length ≤ 65536 by rw [List.length_map]; have := offsM_len b k lo x; have := HFT.out; omega)
        have HB4 := Lib.hid (show Below n0 w w4 from HB2.out.trans ((HZ.out.mono HT2.out.n0le).trans (hbz.mono (Nat.le_trans HT2.out.n0le HZ.out.size))))
        have HK4 := Lib.hid (show KeepF w w4 from HK2.out.trans ((KeepF.below HZ.out).trans (KeepF.below hbz)))
        have HR4 := Lib.hid (show w4.heap[q]? = some (.cells #[.slice a n cap, .map (some M)] 46 (0, 0)) from (KeepF.below hbz) _ _ _ ((KeepF.below HZ.out) _ _ _ HR2.out (by decide)) (by decide))
        have HOM := Lib.hid (show (fun j => if j = k then offsM b k lo x ++ [p] else offsM b j lo x) = fun j => offsM b j lo (x + 1) by
          have := offsM_more b lo x (by rw [HBL.out, HP.out]; exact h3)
          rw [HP.out, ← HKK.out] at this
          exact this)
        clear hL hRows hbz hES ho5 hrecv hvk hv hR4 hm4 h4 h5 hm5 hw4 hMlt
        subst hWZ
        go_wp2_with (first
          | (at_builtin; refine wpList_append_recs (f := intCS) rfl _ _ 61 rfl 3 i0 (.int .i64 0) 1 8 Try.underlying61 hi0 hz0 hz1 hz2 rfl (by omega) v _ rfl HRV.out ⟨wz.heap.size, 0, none⟩ 1 1 [(p : Int)] rfl rfl (fun _ _ => rfl) (fun y _ u hu => by simp [intCS] at hu; subst hu; rfl) HNW.out (by have := HOL.out; unfold maxLen; omega) (by have := HOL.out; omega) ?_; intro v6 w6 hr6 hg6 hk6; obtain ⟨w7, hES7, hmap7, ho7⟩ := HES.out w6 v6 (HMB.out w6 hg6); have HD := Lib.hid (HDONE.out v6 w6 w7 hr6 hg6 hk6 ho7 hmap7); clear hr6 hg6 hk6 hmap7 ho7))
        have HTD := Lib.hid HD.out.1
        rw [HOM.out] at HTD
        go_roundw
        case rel => exact ⟨x + 1, by have := HP.out; go_num, by omega, by have := HP.out; have := HFT.out; omega, HTD.out, HB4.out.trans HD.out.2.1, HK4.out.trans HD.out.2.2, HD.out.2.2 _ _ _ HR4.out (by decide)⟩
        case measure => simp [intOf]; omega
      · rw [if_neg h3, decide_eq_false h3, show oct3 (0, 0, 0) = .agg #[.int .u8 0, .int .u8 0, .int .u8 0] from rfl]
        have HS := Lib.hid (offsM_same b lo x (by rw [HBL.out, HP.out]; exact h3))
        have HZ := Lib.hid (show Below w2.heap.size w2 (w2.alloc (.cells #[.int .u8 0, .int .u8 0, .int .u8 0] 58)) from (Below.refl _ _).alloc (Nat.le_refl _) _)
        have HTD := Lib.hid (HT2.out.below HZ.out)
        rw [HS.out] at HTD
        go_wp2
        go_roundw
        case rel => exact ⟨x + 1, by have := HP.out; go_num, by omega, by have := HP.out; have := HFT.out; omega, HTD.out, HB2.out.trans (HZ.out.mono HT2.out.n0le), HK2.out.trans (KeepF.below HZ.out), (KeepF.below HZ.out) _ _ _ HR2.out (by decide)⟩
        case measure => simp [intOf]; omega
    · have hpi : ¬ (p : Int) < t := by omega
      have hxe : x = c2 := by have := HP.out; have := HFT.out; omega
      subst hxe
      go_wp2
      go_end0
      exact ⟨rfl, HTX.out, HB.out, HK.out⟩
end Go.Proofs.Ytonfppbijofapaa
