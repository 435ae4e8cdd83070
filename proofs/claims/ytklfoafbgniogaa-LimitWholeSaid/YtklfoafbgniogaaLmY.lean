/-
  The document's own answers for layer 10 (hamperref10): Lengths, the walk.
-/
import Derived.Test.YtklfoafbgniogaaLmX
namespace Go.Proofs.Ytklfoafbgniogaa
open Go.RowKit Go.Deep
set_option linter.unusedVariables false
set_option linter.unusedSimpArgs false
set_option maxRecDepth 100000

/-- a list of packs, apart from the block of the sums -/
def ListS (N gO : Nat) (wx : World) (a : Option Addr) (n cap : Nat) (X : List Itm) : Prop :=
  ∃ Z, PksAt N wx a n cap Z ∧ (∀ p ∈ Z, PkAt N wx p) ∧ Z.map (·.x) = X ∧ (∀ p ∈ Z, ∀ q, p.a = some q → q.block ≠ gO) ∧ (∀ q, a = some q → q.block ≠ gO)
theorem ListS.below {N gO : Nat} {w w' : World} {a : Option Addr} {n cap : Nat} {X : List Itm} (h : ListS N gO w a n cap X) (hb : Below w.heap.size w w') : ListS N gO w' a n cap X := by
  obtain ⟨Z, h1, h2, h3, h4, h5⟩ := h
  exact ⟨Z, CameAt.below h1 (by omega) hb, fun p hp => (h2 p hp).below hb, h3, h4, h5⟩
theorem ListS.only {N gO : Nat} {w w' : World} {a : Option Addr} {n cap : Nat} {X : List Itm} (h : ListS N gO w a n cap X) (ho : Only (fun q => q = gO) w w') : ListS N gO w' a n cap X := by
  obtain ⟨Z, h1, h2, h3, h4, h5⟩ := h
  exact ⟨Z, CameAt.only h1 (by omega) ho fun q hq _ e => h5 q hq e, fun p hp => CameAt.only (h2 p hp) (by omega) ho fun q hq _ e => h4 p hp q hq e, h3, h4, h5⟩

set_option maxHeartbeats 8000000 in
theorem lmLengths_any (a : Option Addr) (n cap : Nat) (L : List Int) (m : Int) (w : World) (h : IntsAt w a n cap L) :
    Calls Try.prog 9 #[.slice a n cap, .int .i64 m] w (LensTo L m w) := by
  have hl : L.length = n := h.1
  have HL := Lib.hid h
  have CM := Lib.hid (lmMay_any a n cap L w h)
  have HE := Lib.hid (show lensE L m = if mayK L = false ∨ m < 1 ∨ 15 < m then 1 else if 2 ^ m.toNat < (coinsL (natsK L)).length then 8 else 0 from rfl)
  have HLL := Lib.hid (show lensL L m = if lensE L m = 0 then (lengthsN (natsK L) m.toNat).map Int.ofNat else [] from rfl)
  have HMN := Lib.hid (mayK_nats L)
  by_cases hbad : mayK L = false ∨ m < 1 ∨ 15 < m
  · have HE1 := Lib.hid (show lensE L m = 1 by rw [HE.out, if_pos hbad])
    have HL1 := Lib.hid (show lensL L m = [] by rw [HLL.out, HE1.out]; rfl)
    have hend : ∀ u, Below w.heap.size w u → LensTo L m w (.returned (.tuple #[.slice none 0 0, .int .i64 1])) u := fun u hb => ⟨none, 0, 0, by rw [HE1.out], by rw [HL1.out]; exact CameAt.nil _ _ _, hb⟩
    have HEND := Lib.hid hend
    clear hend h hl
    cases hm : mayK L with
    | false =>
      rw [hm] at CM
      clear hm hbad
      go_enter Try.func9, Try.ntmps9
      go_wp2_with fail
      refine CM.out.mono ?_
      rintro e w1 ⟨rfl, rfl⟩
      go_wp2
      go_ret2
      exact HEND.out _ (Below.refl _ _)
    | true =>
      rw [hm] at CM
      have hm2 : m < 1 ∨ 15 < m := by
        rcases hbad with h | h
        · rw [hm] at h; cases h
        · exact h
      clear hm hbad
      by_cases h1 : m < 1
      · clear hm2
        go_enter Try.func9, Try.ntmps9
        go_wp2_with fail
        refine CM.out.mono ?_
        rintro e w1 ⟨rfl, rfl⟩
        go_wp2
        go_ret2
        exact HEND.out _ (Below.refl _ _)
      · have h15 : 15 < m := by omega
        clear hm2
        go_enter Try.func9, Try.ntmps9
        go_wp2_with fail
        refine CM.out.mono ?_
        rintro e w1 ⟨rfl, rfl⟩
        go_wp2
        go_ret2
        exact HEND.out _ (Below.refl _ _)
  have hm : mayK L = true := by
    cases h : mayK L with
    | true => rfl
    | false => exact absurd (.inl h) hbad
  have hm1 : ¬ m < 1 := fun h => hbad (.inr (.inl h))
  have hm15 : ¬ 15 < m := fun h => hbad (.inr (.inr h))
  obtain ⟨M, rfl⟩ : ∃ M : Nat, m = M := ⟨m.toNat, by omega⟩
  obtain ⟨hn320, hv⟩ := HMN.out hm
  rw [hm] at CM
  have hE2 := HE.out
  rw [if_neg hbad, Int.toNat_natCast] at hE2
  rw [Int.toNat_natCast] at HLL
  have C2 := Lib.hid (lmCoins_any a n cap L w h (by omega) hv)
  obtain ⟨cs, hcs⟩ : ∃ cs, cs = natsK L := ⟨_, rfl⟩
  rw [← hcs] at hE2 HLL C2
  have HE2 := Lib.hid hE2
  have HN := Lib.hid (show cs.length = n by rw [hcs]; unfold natsK; rw [List.length_map, hl])
  have HMKI := Lib.hid (ints_mk n (by omega))
  have HMD := Lib.hid (fun u => ints_made u n (by omega))
  have hn3 : n ≤ 320 := by omega
  have hM1 : 1 ≤ M := by omega
  have hM15 : M ≤ 15 := by omega
  have HCN := Lib.hid (show (coinsL cs).length ≤ n by
    rw [coinsL_count, ← HN.out]
    have : ∀ l : List Nat, (l.map fun i => if cs.getD i 0 = 0 then 0 else 1).sum ≤ l.length := fun l => by
      induction l with
      | nil => simp
      | cons x l ih => simp only [List.map_cons, List.sum_cons, List.length_cons]; split <;> omega
    have := this (List.range cs.length)
    rwa [List.length_range] at this)
  have HCV := Lib.hid (show ∀ i, i < cs.length → cs.getD i 0 ≤ 2147483647 from fun i hi => by
    rw [hcs, natsK_at]
    have := hv (L.getD i 0) (by rw [List.getD, List.getElem?_eq_getElem (by rw [hl]; rw [HN.out] at hi; exact hi)]; exact List.getElem_mem _)
    omega)
  clear h hl hbad hm hv hE2 HMN HE hcs hn320
  go_enter Try.func9, Try.ntmps9
  go_wp2_with fail
  refine CM.out.mono ?_
  rintro e w1 ⟨rfl, rfl⟩
  clear CM
  go_wp2_with fail
  refine C2.out.mono ?_
  rintro e w1 ⟨ca, cn, cc, ZC, rfl, hI, hP, hX⟩
  have HI := Lib.hid hI
  have HP := Lib.hid hP
  have HX := Lib.hid hX
  have HCL := Lib.hid (show cn = (coinsL cs).length by rw [← hX, List.length_map]; exact hI.2.1.symm)
  have B1 := Lib.hid hI.2.2.2
  clear hI hP hX C2
  go_wp2
  go_loopw [7, 8] (fun sr si wx => ∃ i : Nat, i ≤ M ∧ si = .int .i64 (i : Int) ∧ sr = .int .i64 ((2 ^ i : Nat) : Int) ∧ wx = w1) (fun _ si _ => M - (intOf si).toNat)
  case atStart => exact ⟨0, Nat.zero_le _, rfl, rfl, rfl⟩
  case round =>
    obtain ⟨i, hi, rfl, rfl, rfl⟩ := hrel
    by_cases hlt : i < M
    · have hii : (i : Int) < M := by omega
      have hp : 2 ^ i ≤ 32768 := Nat.pow_le_pow_right (n := 2) (by omega) (show i ≤ 15 by omega)
      have HP2 := Lib.hid (show 2 ^ (i + 1) = 2 ^ i * 2 from Nat.pow_succ 2 i)
      generalize 2 ^ i = pw at *
      go_wp2
      go_roundw
      case rel => exact ⟨i + 1, by omega, by go_num, by rw [HP2.out]; go_num, trivial⟩
      case measure => simp [intOf]; omega
    · obtain rfl : i = M := by omega
      have hii : ¬ (i : Int) < i := by omega
      have hp : 2 ^ i ≤ 32768 := Nat.pow_le_pow_right (n := 2) (by omega) hM15
      have hE3 := HE2.out
      rw [← HCL.out] at hE3
      have hcn : cn ≤ 320 := by have := HCL.out; have := HCN.out; omega
      by_cases hov : 2 ^ i < cn
      · have hovi : ((2 ^ i : Nat) : Int) < cn := by omega
        rw [if_pos hov] at hE3
        have HE4 := Lib.hid hE3
        clear hE3 hov hp
        generalize 2 ^ i = pw at *
        go_wp2
        go_ret2
        exact ⟨none, 0, 0, by rw [HE4.out]; rfl, by rw [HLL.out, HE4.out]; exact CameAt.nil _ _ _, B1.out⟩
      · have hovi : ¬ ((2 ^ i : Nat) : Int) < cn := by omega
        rw [if_neg hov] at hE3
        have HE4 := Lib.hid hE3
        have HL4 := Lib.hid (show lensL L i = (lengthsN cs i).map Int.ofNat by rw [HLL.out, hE3]; rfl)
        have HOV := Lib.hid (show cn ≤ 2 ^ i by omega)
        clear hE3 hov hp HE2 HLL
        generalize ((2 ^ i : Nat) : Int) = pw at *
        have hmk := HMKI.out wr
        have hrow := HMD.out wr
        have HB2 := Lib.hid ((Below.refl wr.heap.size wr).alloc (Nat.le_refl _) (.cells (madeCells #[.int .i64 0] n) 3))
        obtain ⟨gO, hgO⟩ : ∃ gO, gO = wr.heap.size := ⟨_, rfl⟩
        rw [← hgO] at hmk hrow
        have HROW := Lib.hid hrow
        have HGO := Lib.hid hgO
        clear hrow hgO HMKI HMD
        go_upto_region 12 with (fail)
        clear hmk
        generalize wr.alloc (.cells (madeCells #[.int .i64 0] n) 3) = w2 at *
        have B2 := Lib.hid (B1.out.trans (HB2.out.mono B1.out.size))
        have HC2 := Lib.hid (show PksAt n w2 ca cn cc ZC from CameAt.below (HI.out.1.came8 fun _ => rfl) (by omega) HB2.out)
        have HP2 := Lib.hid (show ∀ p ∈ ZC, PkAt n w2 p from fun p hp => (HP.out p hp).below HB2.out)
        by_cases hc1 : cn = 1
        · subst hc1
          obtain ⟨b, off, rfl, _, hc⟩ := PksAt.cell HC2.out (by omega)
          obtain ⟨_, x1⟩ := hc 0 (by omega)
          have hZ1 : ZC.length = 1 := HC2.out.1
          have hmem : ZC.getD 0 default ∈ ZC := by rw [List.getD, List.getElem?_eq_getElem (by omega)]; exact List.getElem_mem _
          have HPP := Lib.hid (HP2.out _ hmem)
          have HT := Lib.hid (show timesL n (ZC.getD 0 default).x = (lengthsN cs i).map Int.ofNat by
            rw [← HN.out]
            refine lens_one cs _ ?_ i
            rw [← HX.out]
            match ZC, hZ1 with
            | [z], _ => rfl)
          generalize ZC.getD 0 default = p at *
          rw [Nat.zero_mul, Nat.add_zero] at x1
          clear hc hZ1 hmem
          go_wp2
          go_ret2
          exact ⟨p.a, n, p.cap, by rw [HE4.out]; rfl, by rw [HL4.out, ← HT.out]; exact HPP.out, B2.out⟩
        have hc1b : ((cn : Int) == 1) = false := by rw [beq_eq_false_iff_ne]; omega
        by_cases hc0 : cn = 0
        · subst hc0
          have HT := Lib.hid (lens_none cs HCL.out.symm i)
          rw [HN.out] at HT
          clear hc1 hc1b
          go_wp2
          go_ret2
          exact ⟨some ⟨gO, 0, none⟩, n, n, by rw [HE4.out]; rfl, by rw [HL4.out, ← HT.out]; exact HROW.out.came8 fun _ => rfl, B2.out⟩
        have hc0b : ((cn : Int) == 0) = false := by rw [beq_eq_false_iff_ne]; omega
        have hc2 : 2 ≤ cn := by omega
        have hn0 : 0 < n := by have := HCL.out; have := HCN.out; omega
        clear hc0 hc1
        have HSRT := Lib.hid (show SortI (ZC.map (·.x)) by rw [HX.out]; exact coinsTo_sort cs cs.length)
        have HBIG := Lib.hid (fun k x (hx : x ∈ lvI (coinsL cs) k) => lvI_small cs n (by rw [HN.out]; exact Nat.le_refl _) HCV.out HCN.out k x hx)
        have HLEN := Lib.hid (fun k => show (lvI (coinsL cs) k).length ≤ 2 * n by
          induction k with
          | zero => show (coinsL cs).length ≤ 2 * n; have := HCN.out; omega
          | succ k ih => rw [lvI_len]; have := HCN.out; omega)
        obtain ⟨gc, cgc, hv, _, _, hgcl⟩ := HI.out.1.form' (by rw [HI.out.2.1]; omega)
        simp only [Value.slice.injEq] at hv
        obtain ⟨rfl, hv2, rfl⟩ := hv
        clear hv2
        have HL0 := Lib.hid (show ListS n gO w2 (some ⟨gc, 0, none⟩) cn cc (lvI (coinsL cs) 0) from
          ⟨ZC, HC2.out, HP2.out, HX.out, fun p hp q hq e => by have := (HP.out p hp).lt hn0 q hq; rw [HGO.out] at e; omega, fun q hq e => by injection hq with hq; rw [← hq, HGO.out] at e; simp at e; omega⟩)
        have HPN := Lib.hid (show ∀ p ∈ ZC, ∀ q, p.a = some q → q.block ≠ gO from fun p hp q hq e => by have := (HP.out p hp).lt hn0 q hq; rw [HGO.out] at e; omega)
        have HG2 := Lib.hid (show gO < w2.heap.size from (Array.getElem?_eq_some_iff.1 (HROW.out.blk gO rfl).choose_spec).1)
        go_wp2
        go_loopw [10, 11] (fun sl si wx => ∃ (j K : Nat) (la : Option Addr) (ln lc : Nat), K = j + 1 ∧ j + 1 ≤ i ∧ si = .int .i64 (K : Int) ∧ sl = .slice la ln lc ∧ ListS n gO wx la ln lc (lvI (coinsL cs) j) ∧ Below w2.heap.size w2 wx) (fun _ si _ => i - (intOf si).toNat)
        case atStart => exact ⟨0, 1, _, _, _, rfl, hM1, rfl, rfl, HL0.out, Below.refl _ _⟩
        case round =>
          obtain ⟨j, K, la, ln, lc, hK, hj, rfl, rfl, hls, hbx⟩ := hrel
          rename World => wx
          have HLS := Lib.hid hls
          have HBX := Lib.hid hbx
          clear hls hbx
          by_cases hlt2 : K < i
          · have hKi : (K : Int) < i := by omega
            obtain ⟨ZL, z1, z2, z3, z4, z5⟩ := HLS.out
            have hln : ln ≤ 640 := by have := HLEN.out j; rw [← z3, List.length_map, z1.1] at this; omega
            have CMG := Lib.hid (lmMerged_any n (some ⟨gc, 0, none⟩) cn cc ZC la ln lc ZL wx (CameAt.below HC2.out (by omega) HBX.out) z1 (fun p hp => (HP2.out p hp).below HBX.out) z2 (by omega) (by omega) (by omega) (by omega) HSRT.out (fun p hp => by
              have := HBIG.out j p.x (by rw [← z3]; exact List.mem_map_of_mem hp)
              have h1 : (j + 1) * (n * 2147483647) ≤ 15 * (320 * 2147483647) := Nat.mul_le_mul (by omega) (by omega)
              have h2 : (j + 1) * n ≤ 15 * 320 := Nat.mul_le_mul (by omega) (by omega)
              omega))
            have HLV := Lib.hid (show mergedI (ZC.map (·.x)) (ZL.map (·.x)) = lvI (coinsL cs) (j + 1) by rw [z3, HX.out]; rfl)
            have HK := Lib.hid hK
            clear z1 z2 z3 z4 z5 hK
            go_wp2_with fail
            refine CMG.out.mono ?_
            rintro e w3 ⟨la2, ln2, lc2, rfl, Z2, hI2, hP2, hX2, hO2⟩
            have HB3 := Lib.hid (HBX.out.trans (hI2.2.2.2.mono HBX.out.size))
            have HLN := Lib.hid (show ListS n gO w3 la2 ln2 lc2 (lvI (coinsL cs) (j + 1)) from
              ⟨Z2, hI2.1.came8 fun _ => rfl, hP2, by rw [hX2, HLV.out], fun p hp q hq => by
                rcases hO2 p hp with ⟨y, hy, hya⟩ | h
                · exact HPN.out y hy q (by rw [hya]; exact hq)
                · have := h q hq; have := HBX.out.size; have := HG2.out; omega, fun q hq => by
                have h := hI2.2.2.1 q.block (by rw [hq]; rfl)
                have := HBX.out.size; have := HG2.out; omega⟩)
            clear hI2 hP2 hX2 hO2 CMG
            go_wp2
            go_roundw
            case rel => exact ⟨j + 1, K + 1, la2, ln2, lc2, by have := HK.out; omega, by have := HK.out; omega, by go_num, rfl, HLN.out, HB3.out⟩
            case measure => simp [intOf]; omega
          · have hKi : ¬ (K : Int) < i := by omega
            have HJ := Lib.hid (show j = i - 1 by omega)
            have HLI := Lib.hid (show ListS n gO wx la ln lc (lvI (coinsL cs) (i - 1)) by rw [← HJ.out]; exact HLS.out)
            have HRM := Lib.hid (show 2 * cn - 2 ≤ (lvI (coinsL cs) (i - 1)).length by
              have h := lvI_room (coinsL_ok cs) i hM1 (by rw [← HCL.out]; exact HOV.out)
              rw [← HCL.out] at h; exact h)
            have HSM := Lib.hid (fun t s => show sumI (fun p => p.ms.count s) ((lvI (coinsL cs) (i - 1)).take t) ≤ 3072000 by
              have h1 := rowS_small n (lvI (coinsL cs) (i - 1)) t 0 s
              have h2 := sumI_le (fun x => x.ms.length) 4800 (lvI (coinsL cs) (i - 1)) fun x hx => by
                have h3 := (HBIG.out (i - 1) x hx).2
                have h4 : (i - 1 + 1) * n ≤ 15 * 320 := Nat.mul_le_mul (by omega) (by omega)
                omega
              have h5 := HLEN.out (i - 1)
              have h6 : (lvI (coinsL cs) (i - 1)).length * 4800 ≤ 640 * 4800 := Nat.mul_le_mul_right _ (by omega)
              omega)
            have HFIN := Lib.hid (show rowS n (lvI (coinsL cs) (i - 1)) (2 * cn - 2) 0 = (lengthsN cs i).map Int.ofNat by
              have h := rowS_lens cs i (by rw [← HCL.out]; exact hc2)
              rw [HN.out, ← HCL.out] at h; exact h)
            have HB9 := Lib.hid (B2.out.trans (HBX.out.mono B2.out.size))
            have HGW := Lib.hid (show w.heap.size ≤ gO by rw [HGO.out]; exact B1.out.size)
            have HGX := Lib.hid (show gO < wx.heap.size by have := HG2.out; have := HBX.out.size; omega)
            have HRW := Lib.hid (show Recs intCS wx 3 1 (.slice (some ⟨gO, 0, none⟩) n n) (rowS n (lvI (coinsL cs) (i - 1)) 0 0) by rw [rowS_zero]; exact HROW.out.below HBX.out)
            have hcn3 : cn ≤ 320 := hcn
            clear HLS hK hj HL0 HPN HBIG HLEN HX HCL HSRT HP2 HC2 HP HI HCN HCV HROW HB2 HOV
            generalize lvI (coinsL cs) (i - 1) = X at *
            go_wp2
            go_loopw [12] (fun st wy => ∃ t : Nat, t ≤ 2 * cn - 2 ∧ st = .int .i64 (t : Int) ∧ Recs intCS wy 3 1 (.slice (some ⟨gO, 0, none⟩) n n) (rowS n X t 0) ∧ Only (fun q => q = gO) wx wy) (fun st _ => 2 * cn - (intOf st).toNat)
            case atStart => exact ⟨0, Nat.zero_le _, rfl, HRW.out, Only.refl _ _⟩
            case round =>
              obtain ⟨t, ht, rfl, hr, ho⟩ := hrel
              rename World => wy
              have HR := Lib.hid hr
              have HO := Lib.hid ho
              clear hr ho
              by_cases hlt3 : t < 2 * cn - 2
              · have hti : (t : Int) < 2 * (cn : Int) - 2 := by omega
                go_wp2
                go_loopw [13] (fun ss wz => ∃ s : Nat, s ≤ n ∧ ss = .int .i64 (s : Int) ∧ Recs intCS wz 3 1 (.slice (some ⟨gO, 0, none⟩) n n) (rowS n X t s) ∧ Only (fun q => q = gO) wx wz) (fun ss _ => n - (intOf ss).toNat)
                case atStart => exact ⟨0, Nat.zero_le _, rfl, HR.out, HO.out⟩
                case round =>
                  obtain ⟨s, hs, rfl, hr2, ho2⟩ := hrel
                  rename World => wz
                  have HO2 := Lib.hid ho2
                  have HR2 := Lib.hid hr2
                  clear hr2 ho2
                  by_cases hlt4 : s < n
                  · obtain ⟨Z, z1, z2, z3, z4, z5⟩ := HLI.out.only HO2.out
                    have htl : t < ln := by
                      have := HRM.out; rw [← z3, List.length_map, z1.1] at this; omega
                    obtain ⟨lb, loff, rfl, _, hc⟩ := PksAt.cell z1 (by omega)
                    obtain ⟨_, x1⟩ := hc t htl
                    have hmem : Z.getD t default ∈ Z := by rw [List.getD, List.getElem?_eq_getElem (by rw [z1.1]; exact htl)]; exact List.getElem_mem _
                    have hpk := z2 _ hmem
                    have hxt := map_getD Z X z3 t (by rw [z1.1]; exact htl)
                    obtain ⟨pb, poff, hpa, _, hpc⟩ := IntsAt.cell hpk hn0
                    have x2 := hpc s hlt4
                    rw [timesL_at _ _ _ hlt4] at x2
                    have hls : s < (rowS n X t s).length := by rw [rowS_len]; exact hlt4
                    have x3 := intR_at HR2.out s hls
                    have f3 := HR2.out.frozenAt s
                    have HSET := Lib.hid (intR_set HR2.out s hls ((rowS n X t s).getD s 0 + (((Z.getD t default).x.ms.count s : Nat) : Int)))
                    rw [rowS_set n X t s _ hxt hlt4] at HSET
                    have hsm := HSM.out t s
                    have hsm2 : (Z.getD t default).x.ms.count s ≤ 3072000 := by
                      have h7 := HSM.out (t + 1) s
                      rw [List.take_add_one, hxt, Option.toList_some, sumI_app] at h7
                      have : sumI (fun p => p.ms.count s) [(Z.getD t default).x] = (Z.getD t default).x.ms.count s := by simp [sumI]
                      omega
                    rw [rowS_at n X t s hlt4] at x3 HSET
                    rw [hpa] at x1
                    clear hc hmem hpk hxt hpc hls z1 z2 z3 z4 z5 hpa
                    generalize (Z.getD t default).x.ms.count s = c1 at *
                    generalize (Z.getD t default).cap = pcap at *
                    generalize sumI (fun p => p.ms.count s) (X.take t) = c2 at *
                    have hsi : (s : Int) < n := by omega
                    have htli : (t : Int) < ln := by omega
                    have e1 : IntKind.i64.wrap ((c2 : Int) + (c1 : Int)) = (c2 : Int) + (c1 : Int) := IntWalk.i64_in _ (by omega)
                    have HON := Lib.hid ((HO2.out.trans (Only.setCell (S := fun q => q = gO) wz ⟨gO, s, none⟩ (.int .i64 ((c2 : Int) + (c1 : Int))) rfl) fun _ _ e => e))
                    go_wp2
                    go_region
                    clear e1 x1 x2 x3 f3
                    go_wp2
                    go_roundw
                    case rel => exact ⟨s + 1, by omega, by go_num, HSET.out.below ((Below.refl _ _).drew), HON.out.trans (Only.drew (S := fun q => q = gO) _) fun _ _ e => e⟩
                    case measure => simp [intOf]; omega
                  · obtain rfl : s = n := by omega
                    have hsi : ¬ (s : Int) < s := by omega
                    have HRN := Lib.hid (show Recs intCS wz 3 1 (.slice (some ⟨gO, 0, none⟩) s s) (rowS s X (t + 1) 0) by rw [← rowS_next]; exact HR2.out)
                    go_wp2
                    go_roundw
                    case rel => exact ⟨t + 1, by omega, by go_num, HRN.out, HO2.out⟩
                    case measure => simp [intOf]; omega
              · have hti : ¬ (t : Int) < 2 * (cn : Int) - 2 := by omega
                have HTE := Lib.hid (show t = 2 * cn - 2 by omega)
                have HBF := Lib.hid (HB9.out.trans (HO.out.below (B := w.heap.size) (by have := HGW.out; have := HGX.out; omega) (fun q hq e => by have := HGW.out; omega)))
                clear ht hlt3
                go_wp2
                go_ret2
                exact ⟨some ⟨gO, 0, none⟩, n, n, by rw [HE4.out]; rfl, by rw [HL4.out, ← HFIN.out, ← HTE.out]; exact HR.out.came8 fun _ => rfl, HBF.out⟩
end Go.Proofs.Ytklfoafbgniogaa
