/-
  The document's own answers for layer 11 (hamperref11): Expand.
-/
import Derived.Test.YtonfppbijofapaaMaT
import Derived.Deep.MidRow
import Derived.Deep.WholeRow
namespace Go.Proofs.Ytonfppbijofapaa
open Go.RowKit
set_option linter.unusedVariables false
set_option linter.unusedSimpArgs false
set_option maxRecDepth 100000

def u8C (b : UInt8) : List Value := [.int .u8 (b.toNat : Int)]
theorem u8C_one (b : UInt8) : ∀ u ∈ u8C b, u.oneCell' = true := by
  intro u hu; simp only [u8C, List.mem_singleton] at hu; subst hu; rfl
abbrev OctI := OwnI u8C 5 1
theorem u8_bytes {w : World} {a : Option Addr} {n cap : Nat} {l : List UInt8} (h : CameAt u8C 1 w a n cap l) : BytesAt w a n cap l := by
  obtain ⟨h1, h2, h3, h4, h5⟩ := h
  refine ⟨h1, h2, h3, ?_⟩
  rcases h5 with h5 | ⟨ad, h5, hc⟩
  · exact .inl h5
  · refine .inr ⟨ad, h5, fun i hi => ?_⟩
    have hx : l[i]? = some (l.getD i 0) := by rw [List.getD, List.getElem?_eq_getElem (by rw [h1]; exact hi)]; rfl
    have := hc i 0 _ hx (by omega)
    simpa [u8C] using this
theorem OctI.bytes {w wr : World} {a : Option Addr} {n cap : Nat} {l : List UInt8} (h : OctI w wr a n cap l) : BytesAt wr a n cap l := u8_bytes (h.came fun _ => rfl)
theorem one_u8 (w : World) (x : UInt8) : ∀ j u, ([x].flatMap u8C)[j]? = some u → (w.alloc (.cells #[.int .u8 (x.toNat : Int)] 5)).cell? ((⟨w.heap.size, 0, none⟩ : Addr).add j) = some u :=
  one_rec (f := u8C) (x := x) (w := w.alloc (.cells #[.int .u8 (x.toNat : Int)] 5)) (B := w.heap.size) (t := 5) (fr := (0, 0)) (heap_alloc_new w _)
theorem expand_one (L : List Tok) (most : Int) (i : Nat) (O : List UInt8) (h : i < L.length) : expandF most (L.drop i) i O =
    if mayT (L.getD i default) = false then ([], 1, i) else if (O.length : Int) < (L.getD i default).dist then ([], 12, i) else if most < (O.length : Int) + longT (L.getD i default) then ([], 13, i) else expandF most (L.drop (i + 1)) (i + 1) (grownT (L.getD i default) O) := by
  rw [List.drop_eq_getElem_cons h, expandF, List.getD, List.getElem?_eq_getElem h]; rfl
theorem mayT_two {t : Tok} (h : mayT t = true) : (t.len = 0 ∧ t.dist = 0) ∨ (3 ≤ t.len ∧ t.len ≤ 258 ∧ 1 ≤ t.dist ∧ t.dist ≤ 32768) := by
  unfold mayT at h
  simp only [Bool.or_eq_true, Bool.and_eq_true, decide_eq_true_eq] at h
  rcases h with h | h
  · exact .inl h
  · right; omega

set_option maxHeartbeats 8000000 in
theorem maExpand_any (la : Option Addr) (ln lc : Nat) (L : List Tok) (most : Int) (w : World) (h : TokAt w la ln lc L) (hn : ln ≤ 1000000) :
    Calls Try.prog 17 #[.slice la ln lc, .int .i64 most] w fun e w' => ∃ s er at_, (s, er, at_) = expandM L most ∧ e = .returned (.tuple #[.string ⟨s.toArray⟩, .int .i64 er, .int .i64 (at_ : Nat)]) ∧ Below w.heap.size w w' := by
  obtain ⟨i0, hi0, hz0, hz1, hz2⟩ := info_parts infoU8
  have HL := Lib.hid h
  have HN := Lib.hid h.1
  have HX := Lib.hid (fun i O (hi : i < ln) => expand_one L most i O (by rw [h.1]; exact hi))
  by_cases hmost : most < 0
  · have HR := Lib.hid (show (([] : List UInt8), (1 : Int), 0) = expandM L most by unfold expandM; rw [if_pos hmost])
    clear h
    go_enter Try.func17, Try.ntmps17
    go_wp2
    go_ret3
    exact ⟨[], 1, 0, HR.out, rfl, Below.refl _ _⟩
  have HR := Lib.hid (show expandM L most = expandF most (L.drop 0) 0 [] by unfold expandM; rw [if_neg hmost]; rfl)
  clear h
  go_enter Try.func17, Try.ntmps17
  go_wp2
  go_loopw [7, 8, 9, 10, 11, 12] (fun so si sb sn sk sc wr => ∃ (i m : Nat) (a : Option Addr) (c : Nat) (O : List UInt8), i ≤ ln ∧ m ≤ 258 * i ∧ si = .int .i64 (i : Int) ∧ so = .slice a m c ∧ OctI w wr a m c O ∧ expandM L most = expandF most (L.drop i) i O) (fun _ si _ _ _ _ _ => ln - (intOf si).toNat)
  case atStart => exact ⟨0, 0, none, 0, [], Nat.zero_le _, by omega, rfl, rfl, OwnI.nil w, HR.out⟩
  case round =>
    obtain ⟨i, m, a, c, O, hi, hm, rfl, rfl, hI, hex⟩ := hrel
    have HI := Lib.hid hI
    have HO := Lib.hid hI.2.1
    have HB := Lib.hid hI.2.2.2
    have HEX := Lib.hid hex
    clear hI hex HR
    by_cases hlt : i < ln
    · have hii : (i : Int) < ln := by omega
      obtain ⟨tb, toff, rfl, _, hc⟩ := TokAt.cells (CameAt.below HL.out (by omega) HB.out) (by omega)
      have hrange := hc i hlt
      have hone := HX.out i O hlt
      clear hc
      generalize L.getD i default = t at *
      obtain ⟨lit, len, dist⟩ := t
      dsimp only at hone
      have HONE := Lib.hid hone
      have HRA := Lib.hid hrange
      clear hone hrange
      have hst := run_storeCells_new (P := Try.prog) wr 51 #[.int .u8 0, .int .i64 0, .int .i64 0] (tokC ⟨lit, len, dist⟩).toArray sizeTok rfl (all_oneCell_toArray (tokC_one ⟨lit, len, dist⟩))
      rw [List.toList_toArray] at hst
      obtain ⟨w2, hw2⟩ : ∃ u, u = wr.alloc (.cells (tokC ⟨lit, len, dist⟩).toArray 51) := ⟨_, rfl⟩
      rw [← hw2] at hst
      have HB2 := Lib.hid (show Below wr.heap.size wr w2 by rw [hw2]; exact (Below.refl _ _).alloc (Nat.le_refl _) _)
      have HROW := Lib.hid (show w2.heap[wr.heap.size]? = some (.cells (tokC ⟨lit, len, dist⟩).toArray 51 (0, 0)) by rw [hw2]; exact heap_alloc_new wr _)
      have CM := Lib.hid (maMay_any ⟨lit, len, dist⟩ w2)
      have HSZ := Lib.hid (show wr.heap.size < w2.heap.size by rw [hw2]; simp)
      clear hw2
      go_upto_region 8 with (refine wpList_load_mid rfl 51 _ rfl tb (toff + i * 3) rfl (tokC ⟨lit, len, dist⟩) _ HRA.out Try.underlying51 rfl sizeTok ?_)
      clear hst
      go_wp2_with (refine wpList_load_row rfl 51 _ rfl wr.heap.size rfl 51 (tokC ⟨lit, len, dist⟩).toArray (0, 0) _ HROW.out Try.underlying51 rfl sizeTok ?_)
      refine CM.out.mono ?_
      rintro e w3 ⟨rfl, hb3⟩
      have hrow3 := (hb3.block wr.heap.size HSZ.out).trans HROW.out
      have HI3 := Lib.hid (HI.out.below (HB2.out.trans (hb3.mono HB2.out.size)))
      have HB3 := Lib.hid (HI3.out.2.2.2)
      obtain ⟨q, hq⟩ : ∃ q, q = wr.heap.size := ⟨_, rfl⟩
      rw [← hq] at hrow3 ⊢
      have y0 := cell_of_row _ q 0 _ _ _ hrow3
      have y1 := cell_of_row _ q 1 _ _ _ hrow3
      have y2 := cell_of_row _ q 2 _ _ _ hrow3
      change World.cell? _ ⟨q, 0, none⟩ = some (.int .u8 (lit.toNat : Int)) at y0
      change World.cell? _ ⟨q, 1, none⟩ = some (.int .i64 len) at y1
      change World.cell? _ ⟨q, 2, none⟩ = some (.int .i64 dist) at y2
      have HROW3 := Lib.hid hrow3
      clear hb3 hrow3 hq CM HRA
      cases hmay : mayT ⟨lit, len, dist⟩ with
      | false =>
        have HF := Lib.hid (show (([] : List UInt8), (1 : Int), i) = expandM L most by rw [HEX.out, HONE.out, if_pos hmay])
        clear hmay
        go_wp2
        go_ret3
        exact ⟨[], 1, i, HF.out, rfl, HB3.out⟩
      | true =>
        have h2 := mayT_two hmay
        have HON2 := Lib.hid (HONE.out.trans (if_neg (by rw [hmay]; simp)))
        rw [HO.out] at HON2
        clear hmay HONE
        dsimp only at h2
        by_cases hdm : (m : Int) < dist
        · have HF := Lib.hid (show (([] : List UInt8), (12 : Int), i) = expandM L most by rw [HEX.out, HON2.out, if_pos hdm])
          clear h2
          go_wp2
          go_ret3
          exact ⟨[], 12, i, HF.out, rfl, HB3.out⟩
        have HON3 := Lib.hid (HON2.out.trans (if_neg hdm))
        clear HON2
        by_cases hl0 : len = 0
        · have hd0 : dist = 0 := by omega
          subst hl0
          subst hd0
          by_cases hbd : most < (m : Int) + 1
          · have HF := Lib.hid (show (([] : List UInt8), (13 : Int), i) = expandM L most by rw [HEX.out, HON3.out, if_pos]; exact hbd)
            go_wp2
            go_ret3
            exact ⟨[], 13, i, HF.out, rfl, HB3.out⟩
          have HON4 := Lib.hid (HON3.out.trans (if_neg hbd))
          go_wp2
          go_loopw [7, 11, 12] (fun so sk sc wr2 => ∃ (k m2 : Nat) (a2 : Option Addr) (c2 : Nat) (O2 : List UInt8), k ≤ 1 ∧ m2 = m + k ∧ sk = .int .i64 (k : Int) ∧ so = .slice a2 m2 c2 ∧ OctI w wr2 a2 m2 c2 O2 ∧ O2 = (if k = 0 then O else O ++ [lit]) ∧ wr2.heap[q]? = some (.cells (tokC ⟨lit, 0, 0⟩).toArray 51 (0, 0))) (fun _ sk _ _ => 1 - (intOf sk).toNat)
          case atStart => exact ⟨0, m, a, c, O, by omega, rfl, rfl, rfl, HI3.out, rfl, HROW3.out⟩
          case round =>
            obtain ⟨k, m2, a2, c2, O2, hk, hm2, rfl, rfl, hI4, hO2, hrow4⟩ := hrel
            have HM2 := Lib.hid hm2
            have hm2b : m2 ≤ 258 * i + 258 := by omega
            clear hm2
            have HI4 := Lib.hid hI4
            have HO4 := Lib.hid hI4.2.1
            have HB4 := Lib.hid hI4.2.2.2
            have HO2 := Lib.hid hO2
            have HROW4 := Lib.hid hrow4
            have HNE := Lib.hid (hI4.1.ne_of hrow4 (by decide))
            have HQ2 := Lib.hid (Array.getElem?_eq_some_iff.1 hrow4).1
            have z0 := cell_of_row _ q 0 _ _ _ hrow4
            have z1 := cell_of_row _ q 1 _ _ _ hrow4
            have z2 := cell_of_row _ q 2 _ _ _ hrow4
            change World.cell? _ ⟨q, 0, none⟩ = some (.int .u8 (lit.toNat : Int)) at z0
            change World.cell? _ ⟨q, 1, none⟩ = some (.int .i64 0) at z1
            change World.cell? _ ⟨q, 2, none⟩ = some (.int .i64 0) at z2
            clear hI4 hO2 hrow4
            by_cases hk1 : k < 1
            · have hki : (k : Int) < 1 := by omega
              have HONEC := Lib.hid (one_u8 wr lit)
              have HK0 := Lib.hid (show k = 0 by omega)
              go_wp2_with (at_builtin; refine wpList_append_recs (f := u8C) rfl _ _ 22 rfl 5 i0 (.int .u8 0) 1 1 Try.underlying22 hi0 hz0 hz1 hz2 rfl (by omega) _ O2 rfl (HI4.out.1.below ((Below.refl _ _).alloc (Nat.le_refl _) _)) ⟨wr.heap.size, 0, none⟩ 1 1 [lit] rfl rfl (fun _ _ => rfl) (fun y _ => u8C_one y) HONEC.out (by rw [HO4.out]; unfold maxLen; omega) (by rw [HO4.out]; omega) ?_; intro v' w' hr hg hbk; have hrow5 := (hg.block q (by have := HQ2.out; simp; omega) (by intro e; exact HNE.out q e.symm rfl)).trans ((Below.refl wr.heap.size wr |>.alloc (Nat.le_refl _) (.cells #[.int .u8 (lit.toNat : Int)] 5)).block q HQ2.out); obtain ⟨a', cap', rfl, hI5⟩ := OwnI.more HI4.out hr hg hbk; have HI5 := Lib.hid hI5; have HROW5 := Lib.hid (hrow5.trans HROW4.out); clear hr hg hbk hI5 hrow5)
              go_roundw
              case rel => exact ⟨k + 1, m2 + 1, _, _, _, by omega, by have := HM2.out; omega, by go_num, rfl, HI5.out, by rw [HO2.out, if_pos HK0.out, if_neg (by omega)], HROW5.out⟩
              case measure => simp [intOf]; omega
            · have HF := Lib.hid (show expandM L most = expandF most (L.drop (i + 1)) (i + 1) O2 by
                rw [HEX.out, HON4.out, HO2.out, if_neg (by omega)]; rfl)
              have hki : ¬ (k : Int) < 1 := by omega
              go_wp2
              go_roundw
              case rel => exact ⟨i + 1, m2, _, _, O2, by omega, by omega, by go_num, rfl, HI4.out, HF.out⟩
              case measure => simp [intOf]; omega
        · have h3 : 3 ≤ len ∧ len ≤ 258 ∧ 1 ≤ dist ∧ dist ≤ 32768 := by
            rcases h2 with h2 | h2
            · exact absurd h2.1 hl0
            · exact h2
          obtain ⟨N, rfl⟩ : ∃ N : Nat, len = N := ⟨len.toNat, by omega⟩
          obtain ⟨d, rfl⟩ : ∃ d : Nat, dist = d := ⟨dist.toNat, by omega⟩
          obtain ⟨n1, n2, n3, n4⟩ := h3
          have hlb : ((N : Int) == 0) = false := by rw [beq_eq_false_iff_ne]; exact hl0
          have hlong : longT ⟨lit, N, d⟩ = N := by unfold longT; rw [if_neg hl0]; rfl
          have hgrown : grownT ⟨lit, N, d⟩ O = copyMa d N O := by unfold grownT; rw [if_neg hl0]; rfl
          rw [hlong, hgrown] at HON3
          clear hlong hgrown hl0
          have hNpos : (0 : Int) < N := by omega
          have hdm2 : d ≤ m := by omega
          by_cases hbd : most < (m : Int) + N
          · have HF := Lib.hid (show (([] : List UInt8), (13 : Int), i) = expandM L most by rw [HEX.out, HON3.out, if_pos]; exact hbd)
            go_wp2
            go_ret3
            exact ⟨[], 13, i, HF.out, rfl, HB3.out⟩
          have HON4 := Lib.hid (HON3.out.trans (if_neg hbd))
          go_wp2
          go_loopw [7, 11, 12] (fun so sk sc wr2 => ∃ (k m2 : Nat) (a2 : Option Addr) (c2 : Nat) (O2 : List UInt8), k ≤ N ∧ m2 = m + k ∧ sk = .int .i64 (k : Int) ∧ so = .slice a2 m2 c2 ∧ OctI w wr2 a2 m2 c2 O2 ∧ O2 = copyMa d k O ∧ wr2.heap[q]? = some (.cells (tokC ⟨lit, N, d⟩).toArray 51 (0, 0))) (fun _ sk _ _ => N - (intOf sk).toNat)
          case atStart => exact ⟨0, m, a, c, O, by omega, rfl, rfl, rfl, HI3.out, rfl, HROW3.out⟩
          case round =>
            obtain ⟨k, m2, a2, c2, O2, hk, hm2, rfl, rfl, hI4, hO2, hrow4⟩ := hrel
            have HM2 := Lib.hid hm2
            have hm2b : m2 ≤ 258 * i + 258 := by omega
            have hm2d : d ≤ m2 := by omega
            clear hm2
            have HI4 := Lib.hid hI4
            have HO4 := Lib.hid hI4.2.1
            have HB4 := Lib.hid hI4.2.2.2
            have HO2 := Lib.hid hO2
            have HROW4 := Lib.hid hrow4
            have HNE := Lib.hid (hI4.1.ne_of hrow4 (by decide))
            have HQ2 := Lib.hid (Array.getElem?_eq_some_iff.1 hrow4).1
            have z0 := cell_of_row _ q 0 _ _ _ hrow4
            have z1 := cell_of_row _ q 1 _ _ _ hrow4
            have z2 := cell_of_row _ q 2 _ _ _ hrow4
            change World.cell? _ ⟨q, 0, none⟩ = some (.int .u8 (lit.toNat : Int)) at z0
            change World.cell? _ ⟨q, 1, none⟩ = some (.int .i64 (N : Int)) at z1
            change World.cell? _ ⟨q, 2, none⟩ = some (.int .i64 (d : Int)) at z2
            clear hI4 hO2 hrow4
            by_cases hk1 : k < N
            · have hki : (k : Int) < N := by omega
              obtain ⟨ob, ooff, rfl, hoc⟩ := HI4.out.bytes.at (by omega)
              have x1 := hoc (m2 - d) (by omega)
              have e2 : ((m2 : Int) - d).toNat = m2 - d := by omega
              have e3 : ¬ ((m2 : Int) - d < 0) := by omega
              have e4 : (m2 : Int) - d < m2 := by omega
              obtain ⟨X, hX⟩ : ∃ X, X = O2.getD (m2 - d) 0 := ⟨_, rfl⟩
              rw [← hX] at x1
              have HO5 := Lib.hid (show O2 ++ [X] = copyMa d (k + 1) O by rw [copyMa_snoc, ← HO2.out, HO4.out, hX])
              have HONEC := Lib.hid (one_u8 wr X)
              clear hoc hX
              go_wp2_with (at_builtin; refine wpList_append_recs (f := u8C) rfl _ _ 22 rfl 5 i0 (.int .u8 0) 1 1 Try.underlying22 hi0 hz0 hz1 hz2 rfl (by omega) _ O2 rfl (HI4.out.1.below ((Below.refl _ _).alloc (Nat.le_refl _) _)) ⟨wr.heap.size, 0, none⟩ 1 1 [X] rfl rfl (fun _ _ => rfl) (fun y _ => u8C_one y) HONEC.out (by rw [HO4.out]; unfold maxLen; omega) (by rw [HO4.out]; omega) ?_; intro v' w' hr hg hbk; have hrow5 := (hg.block q (by have := HQ2.out; simp; omega) (by intro e; exact HNE.out q e.symm rfl)).trans ((Below.refl wr.heap.size wr |>.alloc (Nat.le_refl _) (.cells #[.int .u8 (X.toNat : Int)] 5)).block q HQ2.out); obtain ⟨a', cap', rfl, hI5⟩ := OwnI.more HI4.out hr hg hbk; have HI5 := Lib.hid hI5; have HROW5 := Lib.hid (hrow5.trans HROW4.out); clear hr hg hbk hI5 hrow5)
              go_roundw
              case rel =>
                have hmk : m2 + 1 = m + (k + 1) := by have := HM2.out; omega
                exact ⟨k + 1, by omega, by omega, _, _, ⟨rfl, hmk, rfl⟩, _, by rw [← hmk]; exact HI5.out, HO5.out, HROW5.out⟩
              case measure => simp [intOf]; omega
            · obtain rfl : k = N := by omega
              have HF := Lib.hid (show expandM L most = expandF most (L.drop (i + 1)) (i + 1) O2 by rw [HEX.out, HON4.out, HO2.out])
              have hki : ¬ (k : Int) < k := by omega
              go_wp2
              go_roundw
              case rel => exact ⟨i + 1, m2, _, _, O2, by omega, by omega, by go_num, rfl, HI4.out, HF.out⟩
              case measure => simp [intOf]; omega
    · obtain rfl : i = ln := by omega
      have HF := Lib.hid (show (O, (0 : Int), 0) = expandM L most by rw [HEX.out, List.drop_eq_nil_of_le (by rw [HN.out]; omega)]; rfl)
      have hv := HI.out.bytes.conv
      go_wp2
      go_ret3
      exact ⟨O, 0, 0, HF.out, rfl, HB.out⟩
end Go.Proofs.Ytonfppbijofapaa
