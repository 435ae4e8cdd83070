/-
  Package match: Expand.
-/
import Derived.Test.YtonfppbijofapaaMkB
namespace Go.Proofs.Ytonfppbijofapaa
open Go.RowKit
set_option linter.unusedVariables false
set_option linter.unusedSimpArgs false
set_option maxRecDepth 100000

theorem expand_step (L : List Tok) (most : Int) (i : Nat) (O : List UInt8) (h : i < L.length) :
    (faultT (L.getD i default) O.length most ≠ 0 ∧ expandF most (L.drop i) i O = ([], faultT (L.getD i default) O.length most, i)) ∨
    (faultT (L.getD i default) O.length most = 0 ∧ mayT (L.getD i default) = true ∧ (L.getD i default).dist ≤ (O.length : Int) ∧ expandF most (L.drop i) i O = expandF most (L.drop (i + 1)) (i + 1) (grownT (L.getD i default) O) ∧ (grownT (L.getD i default) O).length ≤ O.length + 258) := by
  rw [expand_one L most i O h]
  generalize L.getD i default = t
  unfold faultT
  cases hm : mayT t with
  | false => left; simp
  | true =>
    by_cases h1 : (O.length : Int) < t.dist
    · left; simp [h1]
    · by_cases h2 : most < (O.length : Int) + longT t
      · left; simp [h1, h2]
      · right
        have hx := mayT_two hm
        refine ⟨by simp [h1, h2], rfl, by omega, by simp [h1, h2], ?_⟩
        unfold grownT
        split
        · simp
        · rw [copyMa_len]; omega

set_option maxHeartbeats 8000000 in
theorem matExpand_any (la : Option Addr) (ln lc : Nat) (L : List Tok) (most : Int) (w : World) (h : TokAt w la ln lc L) (hn : ln ≤ 1000000) (hb : most ≤ 9223372036854775807) :
    Calls Try.prog 16 #[.slice la ln lc, .int .i64 most] w (ExpTo L most w) := by
  have HL := Lib.hid h
  have HN := Lib.hid h.1
  have HX := Lib.hid (fun i O (hi : i < ln) => expand_step L most i O (by rw [h.1]; exact hi))
  by_cases hmost : most < 0
  · have HR := Lib.hid (show (([] : List UInt8), (1 : Int), 0) = expandM L most by unfold expandM; rw [if_pos hmost])
    clear h
    go_enter Try.func16, Try.ntmps16
    go_wp2
    go_ret3
    exact ⟨none, 0, 0, [], 1, 0, HR.out, rfl, BytesAt.nil w, Below.refl _ _⟩
  have HR := Lib.hid (show expandM L most = expandF most (L.drop 0) 0 [] by unfold expandM; rw [if_neg hmost]; rfl)
  clear h
  go_enter Try.func16, Try.ntmps16
  go_wp2
  go_loopw [7, 8, 9, 10, 15] (fun so sx sb se si wr => ∃ (i m : Nat) (a : Option Addr) (c : Nat) (O : List UInt8), i ≤ ln ∧ m ≤ 258 * i ∧ si = .int .i64 (i : Int) ∧ so = .slice a m c ∧ OctI w wr a m c O ∧ expandM L most = expandF most (L.drop i) i O) (fun _ _ _ _ si _ => ln - (intOf si).toNat)
  case atStart => exact ⟨0, 0, none, 0, [], Nat.zero_le _, by omega, rfl, rfl, OwnI.nil w, HR.out⟩
  case round =>
    obtain ⟨i, m, a, c, O, hi, hm, rfl, rfl, hI, hex⟩ := hrel
    have HI := Lib.hid hI
    have HO := Lib.hid hI.2.1
    have HB := Lib.hid hI.2.2.2
    have HEX := Lib.hid hex
    clear hI hex HR
    by_cases hlt : i < ln
    · have hii : (i : Int) < ln := by omega
      obtain ⟨tb, toff, rfl, _, hc⟩ := TokAt.cells (CameAt.below HL.out (by omega) HB.out) (by omega)
      have hrange := hc i hlt
      have hone := HX.out i O hlt
      rw [HO.out] at hone
      clear hc
      generalize L.getD i default = t at *
      have HONE := Lib.hid hone
      have HRA := Lib.hid hrange
      have HT3 := Lib.hid (show (tokC t).toArray.size = 3 from rfl)
      clear hone hrange
      have hst := run_storeCells_new (P := Try.prog) wr 51 #[.int .u8 0, .int .i64 0, .int .i64 0] (tokC t).toArray sizeTok rfl (all_oneCell_toArray (tokC_one t))
      rw [List.toList_toArray] at hst
      obtain ⟨w2, hw2⟩ : ∃ u, u = wr.alloc (.cells (tokC t).toArray 51) := ⟨_, rfl⟩
      rw [← hw2] at hst
      have HB2 := Lib.hid (show Below wr.heap.size wr w2 by rw [hw2]; exact (Below.refl _ _).alloc (Nat.le_refl _) _)
      have HROW := Lib.hid (show w2.heap[wr.heap.size]? = some (.cells (tokC t).toArray 51 (0, 0)) by rw [hw2]; exact heap_alloc_new wr _)
      have CM := Lib.hid (mkFault_any t m most w2 (by omega) (by omega) hb)
      have HSZ := Lib.hid (show wr.heap.size < w2.heap.size by rw [hw2]; simp)
      clear hw2
      go_upto_region 7 with (refine wpList_load_mid rfl 51 _ rfl tb (toff + i * 3) rfl (tokC t) _ HRA.out Try.underlying51 rfl sizeTok ?_)
      clear hst
      go_wp2_with (refine wpList_load_row rfl 51 _ rfl wr.heap.size rfl 51 (tokC t).toArray (0, 0) _ HROW.out Try.underlying51 rfl sizeTok ?_)
      refine CM.out.mono ?_
      rintro e w3 ⟨rfl, hb3⟩
      have HROW3 := Lib.hid ((hb3.block wr.heap.size HSZ.out).trans HROW.out)
      have HI3 := Lib.hid (HI.out.below (HB2.out.trans (hb3.mono HB2.out.size)))
      have HB3 := Lib.hid (HI3.out.2.2.2)
      clear hb3 CM HRA HROW
      rcases HONE.out with ⟨hf, he⟩ | ⟨hf, hmay, hdist, he, hlen⟩
      · have HF := Lib.hid (show (([] : List UInt8), faultT t m most, i) = expandM L most by rw [HEX.out, he])
        have hfb : (faultT t m most == 0) = false := by rw [beq_eq_false_iff_ne]; exact hf
        clear he hf HONE
        generalize faultT t m most = FT at *
        go_wp2
        go_ret3
        exact ⟨none, 0, 0, [], FT, i, HF.out, rfl, BytesAt.nil _, HB3.out⟩
      · have HF := Lib.hid (show expandM L most = expandF most (L.drop (i + 1)) (i + 1) (grownT t O) by rw [HEX.out, he])
        have CE := Lib.hid (mkExpT_any t w w3 a m c O HI3.out hmay hdist (by omega))
        have HLE := Lib.hid hlen
        rw [hf]
        clear he hf hlen hmay hdist HONE
        go_wp2_with (refine wpList_load_row rfl 51 _ rfl wr.heap.size rfl 51 (tokC t).toArray (0, 0) _ HROW3.out Try.underlying51 rfl sizeTok ?_)
        refine CE.out.mono ?_
        rintro e w4 ⟨a4, m4, c4, rfl, hI4⟩
        have HI4 := Lib.hid hI4
        have HM4 := Lib.hid (show m4 ≤ 258 * (i + 1) by have := hI4.2.1; have := HLE.out; have := HO.out; omega)
        clear hI4 CE
        go_wp2
        go_roundw
        case rel => exact ⟨i + 1, m4, _, _, grownT t O, by omega, HM4.out, by go_num, rfl, HI4.out, HF.out⟩
        case measure => simp [intOf]; omega
    · obtain rfl : i = ln := by omega
      have HF := Lib.hid (show (O, (0 : Int), 0) = expandM L most by rw [HEX.out, List.drop_eq_nil_of_le (by rw [HN.out]; omega)]; rfl)
      go_wp2
      go_ret3
      exact ⟨_, _, _, O, 0, 0, HF.out, rfl, HI.out.bytes, HB.out⟩
end Go.Proofs.Ytonfppbijofapaa
