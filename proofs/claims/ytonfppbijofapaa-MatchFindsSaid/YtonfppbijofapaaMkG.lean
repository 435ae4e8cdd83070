/-
  Package match: the best match by the table.
-/
import Derived.Test.YtonfppbijofapaaMkF
namespace Go.Proofs.Ytonfppbijofapaa
open Go.RowKit
set_option linter.unusedVariables false
set_option linter.unusedSimpArgs false
set_option maxRecDepth 100000

set_option maxHeartbeats 8000000 in
theorem mkBest_any (n0 : Nat) (a : Option Addr) (n cap : Nat) (b : List UInt8) (M lo c p : Nat) (w : World) (h : BytesAt w a n cap b) (hn : n ≤ 65536) (hp : p < n)
    (hT : TabS n0 w M (fun k => offsM b k lo c)) (hc : lo + c = p) (hlo : lo ≤ p - 32768) :
    Calls Try.prog 20 #[finC a n cap M, .int .i64 p] w fun e w' => e = .returned (.tuple #[.int .i64 ((bestM b p).1 : Nat), .int .i64 ((bestM b p).2 : Nat)]) ∧ Below w.heap.size w w' := by
  have HL := Lib.hid h
  have HN := Lib.hid h.1
  have CS := Lib.hid (fun u (hu : Below w.heap.size w u) => mkStart_any a n cap b M p u (h.below hu) hn (by omega))
  have CE := Lib.hid (fun u (hu : Below w.heap.size w u) o (ho : o < p) m (hm : m = min 258 (n - p)) => mkEqual_any a n cap b M o p m u (h.below hu) hn ho hp hm)
  have HT := Lib.hid hT
  by_cases h3 : p + 3 ≤ n
  · have HBB := Lib.hid (bestE_best b p lo c (by rw [h.1]; exact h3) hlo hc)
    have HIN := Lib.hid (fun o (ho : o ∈ offsM b (key3 b p) lo c) => offsM_in b (key3 b p) lo c o ho)
    have HSL := Lib.hid (fun r o => stepE_le b p (by rw [h.1]; omega) r o)
    rw [h.1] at HSL
    have HST := Lib.hid (fun r o => show stepE b p r o = if b.getD (o + r.1) 0 ≠ b.getD (p + r.1) 0 then r else if r.1 < runM b p (p - o) then (runM b p (p - o), p - o) else r from rfl)
    have HOL := Lib.hid (offsM_len b (key3 b p) lo c)
    clear h hT
    unfold finC at *
    go_enter Try.func20, Try.ntmps20
    go_wp2_with fail
    obtain ⟨q, hq⟩ : ∃ q, q = w.heap.size := ⟨_, rfl⟩
    have HQ := Lib.hid hq
    obtain ⟨w1, hw1⟩ : ∃ u, u = w.alloc (.cells #[.slice a n cap, .map (some M)] 46) := ⟨_, rfl⟩
    have HW1 := Lib.hid (show Below w.heap.size w w1 by rw [hw1]; exact (Below.refl _ _).alloc (Nat.le_refl _) _)
    have HROW := Lib.hid (show w1.heap[q]? = some (.cells #[.slice a n cap, .map (some M)] 46 (0, 0)) by rw [hw1, hq]; exact heap_alloc_new w _)
    rw [← hw1, ← hq]
    clear hw1 hq
    refine (CS.out _ HW1.out).mono ?_
    rintro e w2 ⟨rfl, hb2⟩
    rw [if_pos h3, decide_eq_true h3]
    obtain ⟨k, hk⟩ : ∃ k, k = key3 b p := ⟨_, rfl⟩
    rw [← hk] at HBB HIN HOL
    rw [← hk, oct3_row]
    unfold k3row
    have HB2 := Lib.hid (HW1.out.trans (hb2.mono HW1.out.size))
    have hrow2 := (hb2.block q (Array.getElem?_eq_some_iff.1 HROW.out).1).trans HROW.out
    have z0 := cell_of_row _ q 0 _ _ _ hrow2
    have z1 := cell_of_row _ q 1 _ _ _ hrow2
    change World.cell? _ ⟨q, 0, none⟩ = some (.slice a n cap) at z0
    change World.cell? _ ⟨q, 1, none⟩ = some (.map (some M)) at z1
    obtain ⟨L, hL, hR⟩ := (HT.out.below HB2.out).tab
    obtain ⟨w3, hw3⟩ : ∃ u, u = w2.alloc (.cells #[.int .u8 (k.1.toNat : Int), .int .u8 (k.2.1.toNat : Int), .int .u8 (k.2.2.toNat : Int)] 58) := ⟨_, rfl⟩
    have hb3 : Below w2.heap.size w2 w3 := by rw [hw3]; exact (Below.refl _ _).alloc (Nat.le_refl _) _
    have hlook := (hL.below hb3).mapK.look_any keyStart Try.underlying44 (z := .slice none 0 0) (zeroInts w3) k false
    rw [oct3_row] at hlook
    unfold k3row at hlook
    simp only [Bool.false_eq_true, if_false] at hlook
    have hrec := (hR.below hb3).recs k
    change Recs intCS w3 3 1 ((getK L k).getD (.slice none 0 0)) _ at hrec
    obtain ⟨ea, ecap, hv, hev1, hev2⟩ := hrec.form
    rw [hv] at hrec hlook
    rw [List.length_map] at hv hev1 hrec hlook
    clear hv
    have HREC := Lib.hid hrec
    have HB3 := Lib.hid (HB2.out.trans (hb3.mono HB2.out.size))
    have HKK := Lib.hid hk
    have HROW3 := Lib.hid ((hb3.block q (Array.getElem?_eq_some_iff.1 hrow2).1).trans hrow2)
    rw [hw3] at hlook
    have HW3 := Lib.hid hw3
    clear hrec hL hR hk hb2 hb3 hrow2 hw3 HROW
    generalize hE : offsM b k lo c = E at *
    clear hE
    obtain ⟨N, hN⟩ : ∃ N, N = E.length := ⟨_, rfl⟩
    rw [← hN] at hlook hev1 HREC HOL
    have HNE := Lib.hid hN
    have hN2 : N ≤ 65536 := by have := HOL.out; omega
    clear hN
    have hmin : (if (n : Int) - p < 258 then (n : Int) - p else 258) = ((min 258 (n - p) : Nat) : Int) := by split <;> omega
    obtain ⟨most, hmost⟩ : ∃ most, most = min 258 (n - p) := ⟨_, rfl⟩
    rw [← hmost] at hmin HSL
    have HMO := Lib.hid hmost
    have hmo1 : most ≤ 258 := by omega
    have hmo2 : p + most ≤ n := by omega
    clear hmost hlo
    go_upto_region 4 with (fail)
    rw [← HW3.out]
    rw [← HW3.out] at hlook
    have hrow3 := HROW3.out
    have hrowk : w3.heap[w2.heap.size]? = some (.cells #[.int .u8 (k.1.toNat : Int), .int .u8 (k.2.1.toNat : Int), .int .u8 (k.2.2.toNat : Int)] 58 (0, 0)) := by rw [HW3.out]; exact heap_alloc_new w2 _
    have k0 := cell_of_row _ w2.heap.size 0 _ _ _ hrowk
    have k1 := cell_of_row _ w2.heap.size 1 _ _ _ hrowk
    have k2 := cell_of_row _ w2.heap.size 2 _ _ _ hrowk
    change World.cell? _ ⟨w2.heap.size, 0, none⟩ = some (.int .u8 (k.1.toNat : Int)) at k0
    change World.cell? _ ⟨w2.heap.size, 1, none⟩ = some (.int .u8 (k.2.1.toNat : Int)) at k1
    change World.cell? _ ⟨w2.heap.size, 2, none⟩ = some (.int .u8 (k.2.2.toNat : Int)) at k2
    have x0 := cell_of_row _ q 0 _ _ _ hrow3
    have x1 := cell_of_row _ q 1 _ _ _ hrow3
    change World.cell? _ ⟨q, 0, none⟩ = some (.slice a n cap) at x0
    change World.cell? _ ⟨q, 1, none⟩ = some (.map (some M)) at x1
    clear hrow3 hrowk z0 z1 HW3
    go_upto_region 5 with (fail)
    go_upto_region 6 with (fail)
    go_upto_region 7 with (fail)
    clear hmin hlook k0 k1 k2 x0 x1
    go_wp2
    go_loopw [10, 11, 12, 13] (fun ss sd si sx wr => ∃ (j : Nat) (r : Nat × Nat), j ≤ N ∧ si = .int .i64 ((j : Int) - 1) ∧ ss = .int .i64 (r.1 : Nat) ∧ sd = .int .i64 (r.2 : Nat) ∧ r.1 ≤ most ∧ bestE b p (E.take j).reverse r = bestM b p ∧ Below w3.heap.size w3 wr) (fun _ _ si _ _ => ((intOf si) + 1).toNat)
    case atStart => exact ⟨N, (0, 0), Nat.le_refl _, rfl, rfl, rfl, Nat.zero_le _, by rw [HNE.out, List.take_length]; exact HBB.out, Below.refl _ _⟩
    case round =>
      obtain ⟨j, ⟨sz, ds⟩, hj, rfl, rfl, rfl, hsz, hbest, hb⟩ := hrel
      dsimp only at hsz
      have HB := Lib.hid hb
      have HBE := Lib.hid hbest
      have hrow := (HB.out.block q (Array.getElem?_eq_some_iff.1 HROW3.out).1).trans HROW3.out
      have HROW := Lib.hid hrow
      have z0 := cell_of_row _ q 0 _ _ _ hrow
      have z1 := cell_of_row _ q 1 _ _ _ hrow
      change World.cell? _ ⟨q, 0, none⟩ = some (.slice a n cap) at z0
      change World.cell? _ ⟨q, 1, none⟩ = some (.map (some M)) at z1
      have HBW := Lib.hid (HB3.out.trans (HB.out.mono HB3.out.size))
      clear hb hbest hrow
      by_cases h0 : j = 0
      · subst h0
        have HF := Lib.hid (show ((sz, ds) : Nat × Nat) = bestM b p from HBE.out)
        rw [show ((0 : Nat) : Int) - 1 = -1 from rfl]
        go_wp2
        go_ret2
        exact ⟨by rw [← HF.out]; rfl, HBW.out⟩
      · obtain ⟨i, rfl⟩ : ∃ i, j = i + 1 := ⟨j - 1, by omega⟩
        clear h0
        rw [show ((i + 1 : Nat) : Int) - 1 = (i : Int) by omega]
        obtain ⟨o, ho⟩ : ∃ o, o = E.getD i 0 := ⟨_, rfl⟩
        have hiE : i < E.length := by have := HNE.out; omega
        have hoE : E[i]? = some o := by rw [ho, List.getD, List.getElem?_eq_getElem hiE]; rfl
        obtain ⟨ho1, ho2, ho3⟩ := HIN.out o (List.mem_of_getElem? hoE)
        have hop : o < p := by omega
        rw [HN.out] at ho3
        have hbt := bestE_take b p E i hiE (sz, ds)
        rw [HBE.out, ← ho] at hbt
        have hgo : goesE b p (sz, ds) o ↔ (sz < most ∧ p - o ≤ 32768) := by unfold goesE; rw [HN.out, ← HMO.out]
        have HG1 := Lib.hid (fun (h1 : sz < most ∧ p - o ≤ 32768) => (hbt.trans (if_pos (hgo.2 h1))).symm)
        have HG2 := Lib.hid (fun (h1 : ¬ (sz < most ∧ p - o ≤ 32768)) => (hbt.trans (if_neg (fun h => h1 (hgo.1 h)))).symm)
        have HSO := Lib.hid (HST.out (sz, ds) o)
        have HSLE := Lib.hid (HSL.out (sz, ds) o hsz)
        have hrw := HREC.out.below HB.out
        obtain ⟨g2, cap2, hv2, _, _, _⟩ := hrw.form' (by rw [List.length_map]; omega)
        simp only [Value.slice.injEq] at hv2
        obtain ⟨rfl, hj1, hj2⟩ := hv2
        clear hj1 hj2
        have x3 := hrw.cellAt i 0 (o : Int) (by rw [List.getElem?_map, hoE]; rfl) (by omega)
        rw [Nat.mul_one, Nat.add_zero] at x3
        change World.cell? _ ⟨g2, i, none⟩ = some (.int .i64 (o : Int)) at x3
        clear hbt hgo hrw hoE ho ho1 ho2 hiE
        have hge : (0 : Int) ≤ (i : Int) := Int.natCast_nonneg i
        have hiN : (i : Int) < N := by omega
        by_cases c1 : sz < most
        · have c1i : (sz : Int) < most := by omega
          by_cases c2 : p - o ≤ 32768
          · have c2i : (p : Int) - o ≤ 32768 := by omega
            have HGO := Lib.hid (HG1.out ⟨c1, c2⟩)
            clear HG1 HG2 c2
            have hby := HL.out.below HBW.out
            obtain ⟨g, off, rfl, hcc⟩ := hby.at (by omega)
            have x4 := hcc (o + sz) (by omega)
            have x5 := hcc (p + sz) (by omega)
            obtain ⟨X, hX⟩ : ∃ X, X = b.getD (o + sz) 0 := ⟨_, rfl⟩
            obtain ⟨Y, hY⟩ : ∃ Y, Y = b.getD (p + sz) 0 := ⟨_, rfl⟩
            rw [← hX] at x4 HSO
            rw [← hY] at x5 HSO
            clear hcc hby hX hY
            have e1 : ((o : Int) + sz).toNat = o + sz := by omega
            have e2 : ((p : Int) + sz).toNat = p + sz := by omega
            have e3 : (o : Int) + sz < n := by omega
            have e4 : (p : Int) + sz < n := by omega
            by_cases c3 : X = Y
            · subst c3
              have HSO2 := Lib.hid (HSO.out.trans (if_neg (by simp)))
              clear HSO
              go_upto_region 10 with (fail)
              go_quiet (fail)
              go_upto_region 11 with (fail)
              have HBD := Lib.hid (show Below wr.heap.size wr (wr.drewN nq).drew from (below_drewN (Below.refl _ _) nq).drew)
              refine region_still_tail 7 (by kernel_rfl) (by kernel_rfl) ?_
              simp only [List.take_succ_cons, List.take_zero, List.drop_succ_cons, List.drop_zero]
              repeat still_step
              refine wpStill_nil ?_
              go_wp2_with fail
              refine (CE.out _ (HBW.out.trans (HBD.out.mono HBW.out.size)) o hop most HMO.out).mono ?_
              rintro e w5 ⟨rfl, hb5⟩
              have HB5 := Lib.hid (HBD.out.trans hb5)
              have HB5W := Lib.hid (HBW.out.trans (HB5.out.mono HBW.out.size))
              have HB53 := Lib.hid (HB.out.trans (HB5.out.mono HB.out.size))
              have hrow5 := (HB5.out.block q (Array.getElem?_eq_some_iff.1 HROW.out).1).trans HROW.out
              have y0 := cell_of_row _ q 0 _ _ _ hrow5
              change World.cell? _ ⟨q, 0, none⟩ = some (.slice (some ⟨g, off, none⟩) n cap) at y0
              have y3 := (HB5.out.cell (p := ⟨g2, i, none⟩) (block_lt x3)).trans x3
              clear hb5 hrow5 z0 z1 x3 x4 x5
              generalize runM b p (p - o) = R at *
              by_cases hR : sz < R
              · have hRi : (sz : Int) < R := by omega
                have HSO3 := Lib.hid (HSO2.out.trans (if_pos hR))
                go_upto_region 13 with (fail)
                go_quiet (fail)
                go_wp2
                go_roundw
                case rel => exact ⟨i, (R, p - o), by omega, by go_num, rfl, by go_num, by have := HSLE.out; rwa [HSO3.out] at this, by have := HGO.out; rwa [HSO3.out] at this, HB53.out.trans (below_drewN (Below.refl _ _) _)⟩
                case measure => simp [intOf]
              · have hRi : ¬ (sz : Int) < R := by omega
                have HSO3 := Lib.hid (HSO2.out.trans (if_neg hR))
                go_wp2
                go_roundw
                case rel => exact ⟨i, (sz, ds), by omega, by go_num, rfl, rfl, hsz, by have := HGO.out; rwa [HSO3.out] at this, HB53.out⟩
                case measure => simp [intOf]
            · have hc3 : ¬ ((X.toNat : Int) = Y.toNat) := fun hh => c3 (UInt8.toNat_inj.1 (by omega))
              have hc3b : ((X.toNat : Int) == Y.toNat) = false := by simpa using hc3
              have HSO2 := Lib.hid (HSO.out.trans (if_pos c3))
              clear HSO c3 hc3
              go_upto_region 10 with (fail)
              go_quiet (fail)
              go_wp2
              go_roundw
              case rel => exact ⟨i, (sz, ds), by omega, by go_num, rfl, rfl, hsz, by have := HGO.out; rwa [HSO2.out] at this, HB.out.trans (below_drewN (Below.refl _ _) _)⟩
              case measure => simp [intOf]
          · have c2i : ¬ (p : Int) - o ≤ 32768 := by omega
            have HF := Lib.hid (HG2.out (fun h => c2 h.2))
            clear HG1 HG2
            go_wp2
            go_ret2
            exact ⟨by rw [← HF.out]; rfl, HBW.out⟩
        · have c1i : ¬ (sz : Int) < most := by omega
          have HF := Lib.hid (HG2.out (fun h => c1 h.1))
          clear HG1 HG2
          go_wp2
          go_ret2
          exact ⟨by rw [← HF.out]; rfl, HBW.out⟩
  · have HSH := Lib.hid (bestM_short b p (by rw [h.1]; exact hp) (by rw [h.1]; omega))
    clear h hT
    unfold finC at *
    go_enter Try.func20, Try.ntmps20
    go_wp2_with fail
    obtain ⟨w1, hw1⟩ : ∃ u, u = w.alloc (.cells #[.slice a n cap, .map (some M)] 46) := ⟨_, rfl⟩
    have HW1 := Lib.hid (show Below w.heap.size w w1 by rw [hw1]; exact (Below.refl _ _).alloc (Nat.le_refl _) _)
    rw [← hw1]
    clear hw1
    refine (CS.out _ HW1.out).mono ?_
    rintro e w2 ⟨rfl, hb2⟩
    have HB2 := Lib.hid ((HW1.out.trans (hb2.mono HW1.out.size)).alloc (by have := HW1.out.size; have := hb2.size; omega) (.cells #[.int .u8 0, .int .u8 0, .int .u8 0] 58))
    rw [if_neg h3, decide_eq_false h3, show oct3 (0, 0, 0) = .agg #[.int .u8 0, .int .u8 0, .int .u8 0] from rfl]
    clear hb2
    go_wp2
    go_ret2
    exact ⟨by rw [HSH.out]; rfl, HB2.out⟩
end Go.Proofs.Ytonfppbijofapaa
