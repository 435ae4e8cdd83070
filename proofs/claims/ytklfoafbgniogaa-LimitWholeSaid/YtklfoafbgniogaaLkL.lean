/-
  Package limit: Lengths.
-/
import Derived.Test.YtklfoafbgniogaaLkK
namespace Go.Proofs.Ytklfoafbgniogaa
open Go.RowKit Go.Deep
set_option linter.unusedVariables false
set_option linter.unusedSimpArgs false
set_option maxRecDepth 100000

set_option maxHeartbeats 8000000 in
theorem limLengths_any (a : Option Addr) (n cap : Nat) (L : List Int) (m : Int) (w : World) (h : IntsAt w a n cap L) :
    Calls Try.prog 8 #[.slice a n cap, .int .i64 m] w (LensTo L m w) := by
  have hl : L.length = n := h.1
  have HL := Lib.hid h
  have CM := Lib.hid (lkValid_any a n cap L w h)
  have HE := Lib.hid (show lensE L m = if mayK L = false ∨ m < 1 ∨ 15 < m then 1 else if 2 ^ m.toNat < (coinsL (natsK L)).length then 8 else 0 from rfl)
  have HLL := Lib.hid (show lensL L m = if lensE L m = 0 then (lengthsN (natsK L) m.toNat).map Int.ofNat else [] from rfl)
  have HMN := Lib.hid (mayK_nats L)
  by_cases hbad : mayK L = false ∨ m < 1 ∨ 15 < m
  · have HE1 := Lib.hid (show lensE L m = 1 by rw [HE.out, if_pos hbad])
    have HL1 := Lib.hid (show lensL L m = [] by rw [HLL.out, HE1.out]; rfl)
    have hend : ∀ u, Below w.heap.size w u → LensTo L m w (.returned (.tuple #[.slice none 0 0, .int .i64 1])) u := fun u hb => ⟨none, 0, 0, by rw [HE1.out], by rw [HL1.out]; exact CameAt.nil _ _ _, hb⟩
    have HEND := Lib.hid hend
    clear hend h hl
    cases hm : mayK L with
    | false =>
      rw [hm] at CM
      clear hm hbad
      go_enter Try.func8, Try.ntmps8
      go_wp2_with fail
      refine CM.out.mono ?_
      rintro e w1 ⟨rfl, rfl⟩
      go_wp2
      go_ret2
      exact HEND.out _ (Below.refl _ _)
    | true =>
      rw [hm] at CM
      have hm2 : m < 1 ∨ 15 < m := by
        rcases hbad with h | h
        · rw [hm] at h; cases h
        · exact h
      clear hm hbad
      by_cases h1 : m < 1
      · clear hm2
        go_enter Try.func8, Try.ntmps8
        go_wp2_with fail
        refine CM.out.mono ?_
        rintro e w1 ⟨rfl, rfl⟩
        go_wp2
        go_ret2
        exact HEND.out _ (Below.refl _ _)
      · have h15 : 15 < m := by omega
        clear hm2
        go_enter Try.func8, Try.ntmps8
        go_wp2_with fail
        refine CM.out.mono ?_
        rintro e w1 ⟨rfl, rfl⟩
        go_wp2
        go_ret2
        exact HEND.out _ (Below.refl _ _)
  have hm : mayK L = true := by
    cases h : mayK L with
    | true => rfl
    | false => exact absurd (.inl h) hbad
  have hm1 : ¬ m < 1 := fun h => hbad (.inr (.inl h))
  have hm15 : ¬ 15 < m := fun h => hbad (.inr (.inr h))
  obtain ⟨M, rfl⟩ : ∃ M : Nat, m = M := ⟨m.toNat, by omega⟩
  obtain ⟨hn320, hv⟩ := HMN.out hm
  rw [hm] at CM
  have hE2 := HE.out
  rw [if_neg hbad, Int.toNat_natCast] at hE2
  rw [Int.toNat_natCast] at HLL
  have C2 := Lib.hid (lkCoins_any a n cap L w h (by omega) hv)
  obtain ⟨cs, hcs⟩ : ∃ cs, cs = natsK L := ⟨_, rfl⟩
  rw [← hcs] at hE2 HLL C2
  have HE2 := Lib.hid hE2
  have HN := Lib.hid (show cs.length = n by rw [hcs]; unfold natsK; rw [List.length_map, hl])
  have HMKI := Lib.hid (ints_mk n (by omega))
  have HMD := Lib.hid (fun u => ints_made u n (by omega))
  have hn3 : n ≤ 320 := by omega
  have hM1 : 1 ≤ M := by omega
  have hM15 : M ≤ 15 := by omega
  have HCN := Lib.hid (show (coinsL cs).length ≤ n by
    rw [coinsL_count, ← HN.out]
    have : ∀ l : List Nat, (l.map fun i => if cs.getD i 0 = 0 then 0 else 1).sum ≤ l.length := fun l => by
      induction l with
      | nil => simp
      | cons x l ih => simp only [List.map_cons, List.sum_cons, List.length_cons]; split <;> omega
    have := this (List.range cs.length)
    rwa [List.length_range] at this)
  have HCV := Lib.hid (show ∀ i, i < cs.length → cs.getD i 0 ≤ 2147483647 from fun i hi => by
    rw [hcs, natsK_at]
    have := hv (L.getD i 0) (by rw [List.getD, List.getElem?_eq_getElem (by rw [hl]; rw [HN.out] at hi; exact hi)]; exact List.getElem_mem _)
    omega)
  clear h hl hbad hm hv hE2 HMN HE hcs hn320
  go_enter Try.func8, Try.ntmps8
  go_wp2_with fail
  refine CM.out.mono ?_
  rintro e w1 ⟨rfl, rfl⟩
  clear CM
  go_wp2_with fail
  refine C2.out.mono ?_
  rintro e w1 ⟨ca, cn, cc, rfl, hI⟩
  have HI := Lib.hid hI
  have HCL := Lib.hid (show (coinsL cs).length = cn from hI.2.1)
  have B1 := Lib.hid hI.2.2.2
  have hcn : cn ≤ 320 := by have := HCN.out; have := HCL.out; omega
  have hp : 2 ^ M ≤ 32768 := Nat.pow_le_pow_right (n := 2) (by omega) (show M ≤ 15 by omega)
  have hE3 := HE2.out
  rw [HCL.out] at hE3
  clear hI C2
  obtain ⟨PW, hPW⟩ : ∃ PW : Nat, PW = 2 ^ M := ⟨_, rfl⟩
  rw [← hPW] at hE3 hp
  have e1 : wrap64 ((2 : Int) ^ M) = (PW : Int) := by
    have : ((2 : Int) ^ M) = (PW : Int) := by rw [hPW, Int.natCast_pow]; rfl
    rw [this]; unfold wrap64; omega
  have HPW := Lib.hid hPW
  clear hPW
  by_cases hov : PW < cn
  · have hovi : ((PW : Nat) : Int) < cn := by omega
    rw [if_pos hov] at hE3
    have HE4 := Lib.hid hE3
    clear hE3 hov hp
    go_wp2
    go_ret2
    exact ⟨none, 0, 0, by rw [HE4.out]; rfl, by rw [HLL.out, HE4.out]; exact CameAt.nil _ _ _, B1.out⟩
  · have hovi : ¬ ((PW : Nat) : Int) < cn := by omega
    rw [if_neg hov] at hE3
    have HE4 := Lib.hid hE3
    have HL4 := Lib.hid (show lensL L M = (lengthsN cs M).map Int.ofNat by rw [HLL.out, hE3]; rfl)
    have HOV := Lib.hid (show cn ≤ 2 ^ M by have := HPW.out; omega)
    clear hE3 hov hp HE2 HLL
    have hmk := HMKI.out w1
    have hrow := HMD.out w1
    have HB2 := Lib.hid ((Below.refl w1.heap.size w1).alloc (Nat.le_refl _) (.cells (madeCells #[.int .i64 0] n) 3))
    obtain ⟨gO, hgO⟩ : ∃ gO, gO = w1.heap.size := ⟨_, rfl⟩
    rw [← hgO] at hmk hrow
    have HROW := Lib.hid hrow
    have HGO := Lib.hid hgO
    clear hrow hgO HMKI HMD
    go_upto_region 7 with (fail)
    clear hmk e1
    generalize w1.alloc (.cells (madeCells #[.int .i64 0] n) 3) = w2 at *
    have B2 := Lib.hid (B1.out.trans (HB2.out.mono B1.out.size))
    have HC2 := Lib.hid (show CnAt w2 ca cn cc (coinsL cs) from CameAt.below (HI.out.1.came8 fun _ => rfl) (by omega) HB2.out)
    have HGW := Lib.hid (show w.heap.size ≤ gO by rw [HGO.out]; exact B1.out.size)
    have HGX := Lib.hid (show gO < w2.heap.size from HROW.out.lt gO rfl)
    by_cases hc1 : cn = 1
    · subst hc1
      obtain ⟨b, off, rfl, _, hc⟩ := CnAt.cells HC2.out (by omega)
      have hx0 := hc 0 (by omega) 0 _ rfl
      have hZ1 : (coinsL cs).length = 1 := HC2.out.1
      have hmem : (coinsL cs).getD 0 default ∈ coinsL cs := by rw [List.getD, List.getElem?_eq_getElem (by omega)]; exact List.getElem_mem _
      obtain ⟨sy, hsy, _, hco⟩ := (coinsTo_mem cs _ cs.length).1 hmem
      rw [hco] at hx0
      simp only [Nat.zero_mul, Nat.add_zero] at hx0
      change World.cell? _ ⟨b, off, none⟩ = some (.int .i64 (sy : Int)) at hx0
      have hT : timesL n (coinI cs sy) = (lengthsN cs M).map Int.ofNat := by
        rw [← HN.out]
        refine lens_one cs _ ?_ M
        match hcl : coinsL cs, hZ1 with
        | [z], _ =>
          rw [hcl] at hco
          rw [← hco]; rfl
      rw [HN.out] at hsy
      rw [← times_coin n cs sy hsy] at hT
      have HT := Lib.hid hT
      have hsl : sy < (List.replicate n (0 : Int)).length := by rw [List.length_replicate]; exact hsy
      have f3 := HROW.out.frozenAt sy
      have x3 := intR_at HROW.out sy hsl
      have HSET := Lib.hid (intR_set HROW.out sy hsl 1)
      have HBS := Lib.hid (show Below w.heap.size w (w2.setCell ⟨gO, sy, none⟩ (.int .i64 1)) from B2.out.setCell HGW.out _)
      have hsi : (sy : Int) < n := by omega
      clear hc hZ1 hmem hco hT hsl
      go_wp2
      go_ret2
      exact ⟨some ⟨gO, 0, none⟩, n, n, by rw [HE4.out]; rfl, by rw [HL4.out, ← HT.out]; exact HSET.out.came8 fun _ => rfl, HBS.out⟩
    have hc1b : ((cn : Int) == 1) = false := by rw [beq_eq_false_iff_ne]; omega
    by_cases hc0 : cn = 0
    · subst hc0
      have HT := Lib.hid (lens_none cs HCL.out M)
      rw [HN.out] at HT
      clear hc1 hc1b
      go_wp2
      go_ret2
      exact ⟨some ⟨gO, 0, none⟩, n, n, by rw [HE4.out]; rfl, by rw [HL4.out, ← HT.out]; exact HROW.out.came8 fun _ => rfl, B2.out⟩
    have hc2 : 2 ≤ cn := by omega
    have hc2i : (1 : Int) < (cn : Int) := by omega
    clear hc0 hc1
    have hok := coinsL_ok cs
    have hms1 : ∀ x ∈ coinsL cs, x.ms.length = 1 := fun x hx => by obtain ⟨s, hs⟩ := hok.one x hx; rw [hs]; rfl
    have HBIG := Lib.hid (fun k x (hx : x ∈ lvI (coinsL cs) k) => lvI_small cs n (by rw [HN.out]; exact Nat.le_refl _) HCV.out HCN.out k x hx)
    have CLS := Lib.hid (lkLists_any ca cn cc (coinsL cs) M w2 HC2.out (by omega) hM1 hM15 hms1 hok.sort (fun k hk x hx => by
      have h0 := (HBIG.out k x hx).1
      have h1 : (k + 1) * (n * 2147483647) ≤ 15 * (320 * 2147483647) := Nat.mul_le_mul (by omega) (by omega)
      omega))
    have HSP := Lib.hid (fun u (row : Recs intCS u 3 1 (.slice (some ⟨gO, 0, none⟩) n n) (rowA n fun _ => 0)) (hC : CnAt u ca cn cc (coinsL cs)) la lc Z hL hlg hZ hX => lkSpend_any gO n ca cn cc (coinsL cs) la M lc Z w2 u row hC (fun q hq e => by
        have h1 := HI.out.1.lt q.block (by rw [hq]; rfl)
        have h2 := HGO.out; omega) hL hlg hZ hX (by omega) hc2 (by omega) hM1 hM15 hok (fun x hx => by
        obtain ⟨i, hi, _, rfl⟩ := (coinsTo_mem cs x cs.length).1 hx
        rw [← HN.out]; exact hi) (by
        have h := lvI_room hok M hM1 (by rw [HCL.out]; exact HOV.out)
        rw [HCL.out] at h; exact h) (fun s hs => by
        have h := (lengthsN_at cs M hM1 (by rw [HCL.out]; exact HOV.out) s (by rw [HN.out]; exact hs)).2
        unfold lengthsN at h
        rw [if_neg (by rw [HCL.out]; omega), map_at _ _ _ (by rw [HN.out]; exact hs)] at h
        omega))
    have HFIN := Lib.hid (show rowA n (lenI (coinsL cs) M) = (lengthsN cs M).map Int.ofNat by
      unfold lengthsN rowA
      rw [if_neg (by rw [HCL.out]; omega), List.map_map, HN.out]; rfl)
    have HR0 := Lib.hid (show Recs intCS w2 3 1 (.slice (some ⟨gO, 0, none⟩) n n) (rowA n fun _ => 0) by rw [rowA_zero]; exact HROW.out)
    clear hok hms1 HBIG
    go_wp2_with fail
    refine CLS.out.mono ?_
    rintro e w3 ⟨la, ln, lc, Z, rfl, hZ1, hZ2, hZ3⟩
    have hln : ln = M := by
      have := congrArg List.length hZ3
      rw [List.length_map, hZ1.2.1, List.length_map, List.length_range] at this; exact this
    subst hln
    have hb3 := hZ1.2.2.2
    have CSP := Lib.hid (HSP.out w3 (HR0.out.below hb3) (CameAt.below HC2.out (by omega) hb3) la lc Z (hZ1.came fun _ => rfl) (fun q hq e => by
      have h1 := hZ1.2.2.1 q.block (by rw [hq]; rfl)
      have := HGX.out; omega) hZ2 hZ3)
    have HB3 := Lib.hid hb3
    clear hZ1 hZ2 hZ3 hb3 CLS HSP
    go_wp2_with fail
    refine CSP.out.mono ?_
    rintro e w4 ⟨rfl, h4, ho4⟩
    have H4 := Lib.hid h4
    have HB4 := Lib.hid ((B2.out.trans (HB3.out.mono B2.out.size)).trans (ho4.below (B := w.heap.size) (by have h1 := B2.out.size; have h2 := HB3.out.size; omega) (fun q hq e => by have := HGW.out; omega)))
    clear h4 ho4 CSP
    go_wp2
    go_ret2
    exact ⟨some ⟨gO, 0, none⟩, n, n, by rw [HE4.out]; rfl, by rw [HL4.out, ← HFIN.out]; exact H4.out.came8 fun _ => rfl, HB4.out⟩
end Go.Proofs.Ytklfoafbgniogaa
