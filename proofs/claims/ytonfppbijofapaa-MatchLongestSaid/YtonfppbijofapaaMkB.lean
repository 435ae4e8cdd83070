/-
  Package match: what is wrong with a token, what it comes to.
-/
import Derived.Test.YtonfppbijofapaaMkA
namespace Go.Proofs.Ytonfppbijofapaa
open Go.RowKit
set_option linter.unusedVariables false
set_option linter.unusedSimpArgs false
set_option maxRecDepth 100000

/-- how many octets: behind the question whether it is a literal -/
def octT (t : Tok) : Int := if (decide (t.len = 0) && decide (t.dist = 0)) = true then 1 else t.len
theorem octT_may {t : Tok} (h : mayT t = true) : octT t = (longT t : Nat) := by
  have h2 := mayT_two h
  unfold octT longT
  by_cases h0 : t.len = 0
  · have hd : t.dist = 0 := by omega
    simp [h0, hd]
  · rw [if_neg h0, if_neg (by simp [h0])]; omega
/-- what is wrong with a token -/
def faultT (t : Tok) (after : Nat) (most : Int) : Int := if mayT t = false then 1 else if (after : Int) < t.dist then 12 else if most < (after : Int) + longT t then 13 else 0

set_option maxHeartbeats 1000000 in
theorem mkOctets_any (t : Tok) (w : World) :
    Calls Try.prog 22 #[.agg (tokC t).toArray] w fun e w' => e = .returned (.int .i64 (octT t)) ∧ Below w.heap.size w w' := by
  have CL := Lib.hid (fun u => mkLit_any t u)
  obtain ⟨lit, len, dist⟩ := t
  have HM := Lib.hid (show octT ⟨lit, len, dist⟩ = if (decide (len = 0) && decide (dist = 0)) = true then 1 else len from rfl)
  unfold tokC at *
  dsimp only at *
  generalize hM : octT ⟨lit, len, dist⟩ = M at *
  generalize hx : (lit.toNat : Int) = x at *
  clear hx hM
  go_enter Try.func22, Try.ntmps22
  go_wp2_with fail
  refine (CL.out _).mono ?_
  rintro e w2 ⟨rfl, hb2⟩
  have hrow := (hb2.block w.heap.size (by simp)).trans (heap_alloc_new w _)
  have y1 := cell_of_row _ w.heap.size 1 _ _ _ hrow
  change World.cell? _ ⟨w.heap.size, 1, none⟩ = some (.int .i64 len) at y1
  have HB := Lib.hid (show Below w.heap.size w w2 from ((Below.refl w.heap.size w).alloc (Nat.le_refl _) (.cells #[.int .u8 x, .int .i64 len, .int .i64 dist] 51)).trans (hb2.mono (by simp)))
  clear hb2 hrow CL
  cases hlit : (decide (len = 0) && decide (dist = 0)) with
  | true =>
    rw [hlit, if_pos rfl] at HM
    go_wp2
    go_ret
    exact ⟨congrArg (fun b => Ending.returned (.int .i64 b)) HM.out.symm, HB.out⟩
  | false =>
    rw [hlit, if_neg (by simp)] at HM
    go_wp2
    go_ret
    exact ⟨congrArg (fun b => Ending.returned (.int .i64 b)) HM.out.symm, HB.out⟩

set_option maxHeartbeats 4000000 in
theorem mkFault_any (t : Tok) (after : Nat) (most : Int) (w : World) (ha : after ≤ 1000000000) (h0 : 0 ≤ most) (h1 : most ≤ 9223372036854775807) :
    Calls Try.prog 23 #[.agg (tokC t).toArray, .int .i64 after, .int .i64 most] w fun e w' => e = .returned (.int .i64 (faultT t after most)) ∧ Below w.heap.size w w' := by
  have CV := Lib.hid (fun u => mkValid_any t u)
  have CO := Lib.hid (fun u => mkOctets_any t u)
  have HM := Lib.hid (show faultT t after most = if mayT t = false then 1 else if (after : Int) < t.dist then 12 else if most < (after : Int) + longT t then 13 else 0 from rfl)
  have HO := Lib.hid (fun h => octT_may (t := t) h)
  obtain ⟨lit, len, dist⟩ := t
  obtain ⟨row, hrowE⟩ : ∃ row, row = (tokC ⟨lit, len, dist⟩).toArray := ⟨_, rfl⟩
  have HRS := Lib.hid (show row.size = 3 by rw [hrowE]; rfl)
  have hz : row = #[.int .u8 (lit.toNat : Int), .int .i64 len, .int .i64 dist] := by rw [hrowE]; rfl
  dsimp only at HM
  unfold tokC at *
  dsimp only at *
  generalize hM : faultT ⟨lit, len, dist⟩ after most = M at *
  generalize hV : mayT ⟨lit, len, dist⟩ = V at *
  generalize hT : octT ⟨lit, len, dist⟩ = T at *
  generalize hG : longT ⟨lit, len, dist⟩ = G at *
  generalize hx : (lit.toNat : Int) = x at *
  clear hx hM hV hT hG hrowE hz HRS row
  go_enter Try.func23, Try.ntmps23
  go_wp2_with fail
  refine (CV.out _).mono ?_
  rintro e w2 ⟨rfl, hb2⟩
  have hrow := (hb2.block w.heap.size (by simp)).trans (heap_alloc_new w _)
  have HROW := Lib.hid hrow
  have y2 := cell_of_row _ w.heap.size 2 _ _ _ hrow
  change World.cell? _ ⟨w.heap.size, 2, none⟩ = some (.int .i64 dist) at y2
  have HB := Lib.hid (show Below w.heap.size w w2 from ((Below.refl w.heap.size w).alloc (Nat.le_refl _) (.cells #[.int .u8 x, .int .i64 len, .int .i64 dist] 51)).trans (hb2.mono (by simp)))
  clear hb2 hrow CV
  cases V with
  | false =>
    rw [if_pos rfl] at HM
    go_wp2
    go_ret
    exact ⟨congrArg (fun b => Ending.returned (.int .i64 b)) HM.out.symm, HB.out⟩
  | true =>
    rw [if_neg (by simp)] at HM
    have ho := HO.out rfl
    clear HO
    by_cases hd : (after : Int) < dist
    · rw [if_pos hd] at HM
      go_wp2
      go_ret
      exact ⟨congrArg (fun b => Ending.returned (.int .i64 b)) HM.out.symm, HB.out⟩
    · rw [if_neg hd] at HM
      have HOO := Lib.hid ho
      clear ho
      go_wp2_with (first | (refine (CO.out _).mono ?_) | (refine wpList_load_row rfl 51 _ rfl w.heap.size rfl 51 #[.int .u8 x, .int .i64 len, .int .i64 dist] (0, 0) _ HROW.out Try.underlying51 rfl sizeTok ?_))
      rintro e w3 ⟨rfl, hb3⟩
      have HB3 := Lib.hid (HB.out.trans (hb3.mono HB.out.size))
      clear hb3 HB
      by_cases hm : most < (after : Int) + G
      · rw [if_pos hm] at HM
        have hmT : most - (after : Int) < T := by have := HOO.out; omega
        go_wp2
        go_ret
        exact ⟨congrArg (fun b => Ending.returned (.int .i64 b)) HM.out.symm, HB3.out⟩
      · rw [if_neg hm] at HM
        have hmT : ¬ most - (after : Int) < T := by have := HOO.out; omega
        go_wp2
        go_ret
        exact ⟨congrArg (fun b => Ending.returned (.int .i64 b)) HM.out.symm, HB3.out⟩

set_option maxHeartbeats 8000000 in
/-- what a token comes to, behind octets of the call's own -/
theorem mkExpT_any (t : Tok) (w0 w : World) (a : Option Addr) (m c : Nat) (O : List UInt8) (h : OctI w0 w a m c O) (ht : mayT t = true) (hd : t.dist ≤ (m : Int)) (hm : m ≤ 1000000000) :
    Calls Try.prog 24 #[.slice a m c, .agg (tokC t).toArray] w fun e w' => ∃ a' n' c', e = .returned (.slice a' n' c') ∧ OctI w0 w' a' n' c' (grownT t O) := by
  obtain ⟨i0, hi0, hz0, hz1, hz2⟩ := info_parts infoU8
  have CL := Lib.hid (fun u => mkLit_any t u)
  have HI := Lib.hid h
  have HO := Lib.hid h.2.1
  have h2 := mayT_two ht
  have HG := Lib.hid (show grownT t O = if t.len = 0 then O ++ [t.lit] else copyMa t.dist.toNat t.len.toNat O from rfl)
  obtain ⟨lit, len, dist⟩ := t
  dsimp only at HG h2 hd
  unfold tokC at *
  dsimp only at *
  generalize grownT ⟨lit, len, dist⟩ O = G at *
  clear h ht
  go_enter Try.func24, Try.ntmps24
  go_wp2_with fail
  refine (CL.out _).mono ?_
  rintro e w2 ⟨rfl, hb2⟩
  have hrow := (hb2.block w.heap.size (by simp)).trans (heap_alloc_new w _)
  have HROW := Lib.hid hrow
  have y0 := cell_of_row _ w.heap.size 0 _ _ _ hrow
  have y1 := cell_of_row _ w.heap.size 1 _ _ _ hrow
  have y2 := cell_of_row _ w.heap.size 2 _ _ _ hrow
  change World.cell? _ ⟨w.heap.size, 0, none⟩ = some (.int .u8 (lit.toNat : Int)) at y0
  change World.cell? _ ⟨w.heap.size, 1, none⟩ = some (.int .i64 len) at y1
  change World.cell? _ ⟨w.heap.size, 2, none⟩ = some (.int .i64 dist) at y2
  have HI2 := Lib.hid (HI.out.below (((Below.refl w.heap.size w).alloc (Nat.le_refl _) (.cells #[.int .u8 (lit.toNat : Int), .int .i64 len, .int .i64 dist] 51)).trans (hb2.mono (by simp))))
  clear hb2 hrow CL HI
  obtain ⟨q, hq⟩ : ∃ q, q = w.heap.size := ⟨_, rfl⟩
  rw [← hq] at y0 y1 y2 HROW ⊢
  clear hq
  by_cases hl0 : len = 0
  · have hd0 : dist = 0 := by omega
    subst hl0
    subst hd0
    rw [if_pos rfl] at HG
    have HONEC := Lib.hid (one_u8 w2 lit)
    go_wp2_with (at_builtin; refine wpList_append_recs (f := u8C) rfl _ _ 22 rfl 5 i0 (.int .u8 0) 1 1 Try.underlying22 hi0 hz0 hz1 hz2 rfl (by omega) _ O rfl (HI2.out.1.below ((Below.refl _ _).alloc (Nat.le_refl _) _)) ⟨w2.heap.size, 0, none⟩ 1 1 [lit] rfl rfl (fun _ _ => rfl) (fun y _ => u8C_one y) HONEC.out (by rw [HO.out]; unfold maxLen; omega) (by rw [HO.out]; omega) ?_; intro v' w' hr hg hbk; obtain ⟨a', cap', rfl, hI3⟩ := OwnI.more HI2.out hr hg hbk; have HI3 := Lib.hid hI3; clear hr hg hbk hI3)
    go_ret
    exact ⟨_, _, _, rfl, by rw [HG.out]; exact HI3.out⟩
  · have h3 : 3 ≤ len ∧ len ≤ 258 ∧ 1 ≤ dist ∧ dist ≤ 32768 := by
      rcases h2 with h2 | h2
      · exact absurd h2.1 hl0
      · exact h2
    rw [if_neg hl0] at HG
    obtain ⟨N, rfl⟩ : ∃ N : Nat, len = N := ⟨len.toNat, by omega⟩
    obtain ⟨d, rfl⟩ : ∃ d : Nat, dist = d := ⟨dist.toNat, by omega⟩
    obtain ⟨n1, n2, n3, n4⟩ := h3
    rw [Int.toNat_natCast, Int.toNat_natCast] at HG
    have hlb : (decide ((N : Int) = 0) && decide ((d : Int) = 0)) = false := by rw [decide_eq_false hl0]; rfl
    clear hl0 h2
    rw [hlb]
    clear hlb
    go_wp2
    go_loopw [0, 14] (fun so sk wr2 => ∃ (k m2 : Nat) (a2 : Option Addr) (c2 : Nat) (O2 : List UInt8), k ≤ N ∧ m2 = m + k ∧ sk = .int .i64 (k : Int) ∧ so = .slice a2 m2 c2 ∧ OctI w0 wr2 a2 m2 c2 O2 ∧ O2 = copyMa d k O ∧ wr2.heap[q]? = some (.cells #[.int .u8 (lit.toNat : Int), .int .i64 N, .int .i64 d] 51 (0, 0))) (fun _ sk _ => N - (intOf sk).toNat)
    case atStart => exact ⟨0, m, a, c, O, by omega, rfl, rfl, rfl, HI2.out, rfl, HROW.out⟩
    case round =>
      obtain ⟨k, m2, a2, c2, O2, hk, hm2, rfl, rfl, hI4, hO2, hrow4⟩ := hrel
      have HM2 := Lib.hid hm2
      have hm2b : m2 ≤ m + 258 := by omega
      have hm2d : d ≤ m2 := by omega
      clear hm2
      have HI4 := Lib.hid hI4
      have HO4 := Lib.hid hI4.2.1
      have HO2 := Lib.hid hO2
      have HROW4 := Lib.hid hrow4
      have HNE := Lib.hid (hI4.1.ne_of hrow4 (by decide))
      have HQ2 := Lib.hid (Array.getElem?_eq_some_iff.1 hrow4).1
      have z2 := cell_of_row _ q 2 _ _ _ hrow4
      change World.cell? _ ⟨q, 2, none⟩ = some (.int .i64 (d : Int)) at z2
      clear hI4 hO2 hrow4
      by_cases hk1 : k < N
      · have hki : (k : Int) < N := by omega
        obtain ⟨ob, ooff, rfl, hoc⟩ := HI4.out.bytes.at (by omega)
        have x1 := hoc (m2 - d) (by omega)
        have e2 : ((m2 : Int) - d).toNat = m2 - d := by omega
        have e3 : ¬ ((m2 : Int) - d < 0) := by omega
        have e4 : (m2 : Int) - d < m2 := by omega
        obtain ⟨X, hX⟩ : ∃ X, X = O2.getD (m2 - d) 0 := ⟨_, rfl⟩
        rw [← hX] at x1
        have HO5 := Lib.hid (show O2 ++ [X] = copyMa d (k + 1) O by rw [copyMa_snoc, ← HO2.out, HO4.out, hX])
        have HONEC := Lib.hid (one_u8 wr X)
        clear hoc hX
        go_wp2_with (at_builtin; refine wpList_append_recs (f := u8C) rfl _ _ 22 rfl 5 i0 (.int .u8 0) 1 1 Try.underlying22 hi0 hz0 hz1 hz2 rfl (by omega) _ O2 rfl (HI4.out.1.below ((Below.refl _ _).alloc (Nat.le_refl _) _)) ⟨wr.heap.size, 0, none⟩ 1 1 [X] rfl rfl (fun _ _ => rfl) (fun y _ => u8C_one y) HONEC.out (by rw [HO4.out]; unfold maxLen; omega) (by rw [HO4.out]; omega) ?_; intro v' w' hr hg hbk; have hrow5 := (hg.block q (by have := HQ2.out; simp; omega) (by intro e; exact HNE.out q e.symm rfl)).trans ((Below.refl wr.heap.size wr |>.alloc (Nat.le_refl _) (.cells #[.int .u8 (X.toNat : Int)] 5)).block q HQ2.out); obtain ⟨a', cap', rfl, hI5⟩ := OwnI.more HI4.out hr hg hbk; have HI5 := Lib.hid hI5; have HROW5 := Lib.hid (hrow5.trans HROW4.out); clear hr hg hbk hI5 hrow5)
        go_roundw
        case rel =>
          have hmk : m2 + 1 = m + (k + 1) := by have := HM2.out; omega
          exact ⟨k + 1, m2 + 1, _, _, O2 ++ [X], by omega, hmk, by go_num, rfl, HI5.out, HO5.out, HROW5.out⟩
        case measure => simp [intOf]; omega
      · obtain rfl : k = N := by omega
        have hki : ¬ (k : Int) < k := by omega
        go_wp2
        go_ret
        exact ⟨_, _, _, rfl, by rw [HG.out, ← HO2.out]; exact HI4.out⟩
end Go.Proofs.Ytonfppbijofapaa
