/-
  The document's own answers for layer 11 (hamperref11): Best.
-/
import Derived.Test.YtonfppbijofapaaMaMath
import Derived.Test.YtonfppbijofapaaOwn
import Derived.Test.YtonfppbijofapaaOctMem
import Derived.Deep.QuietTactic
import Derived.Deep.Cut
import Derived.BigQuiet
import Derived.StillTailTactics
namespace Go.Proofs.Ytonfppbijofapaa
open Go.RowKit
set_option linter.unusedVariables false
set_option linter.unusedSimpArgs false
set_option maxRecDepth 100000

/-! ### runs, one by one -/
theorem run_more (b : List UInt8) (at_ d j : Nat) (hj : j < 258) (h : at_ + j < b.length ∧ b.getD (at_ + j) 0 = b.getD (at_ + j - d) 0) (hr : runM b at_ d = j + runMN b at_ d j (258 - j)) : runM b at_ d = (j + 1) + runMN b at_ d (j + 1) (258 - (j + 1)) := by
  rw [hr, show 258 - j = (258 - (j + 1)) + 1 by omega, runMN, if_pos h]; omega
theorem run_stop (b : List UInt8) (at_ d j : Nat) (h : ¬ (j < 258 ∧ at_ + j < b.length ∧ b.getD (at_ + j) 0 = b.getD (at_ + j - d) 0)) (hr : runM b at_ d = j + runMN b at_ d j (258 - j)) : runM b at_ d = j := by
  rw [hr]
  by_cases hj : j < 258
  · rw [show 258 - j = (258 - (j + 1)) + 1 by omega, runMN, if_neg (fun hh => h ⟨hj, hh⟩)]; rfl
  · rw [show 258 - j = 0 by omega]; rfl
theorem runM_le (b : List UInt8) (at_ d : Nat) : runM b at_ d ≤ 258 := runN_le b at_ d 258 0
theorem bestTo_le (b : List UInt8) (at_ : Nat) : ∀ D, (bestTo b at_ D).1 ≤ 258 ∧ (bestTo b at_ D).2 ≤ D
  | 0 => ⟨Nat.zero_le _, Nat.le_refl _⟩
  | D + 1 => by
    have h := bestTo_le b at_ D
    have h2 := runM_le b at_ (D + 1)
    rw [bestTo]
    split
    · exact ⟨h2, Nat.le_refl _⟩
    · exact ⟨h.1, by omega⟩
theorem bestM_eq (b : List UInt8) (at_ D : Nat) (hD : D = min at_ 32768) : bestM b at_ = if (bestTo b at_ D).1 < 3 then (0, 0) else bestTo b at_ D := by subst hD; rfl

set_option maxHeartbeats 4000000 in
theorem maBest_any (a : Option Addr) (n cap : Nat) (b : List UInt8) (at_ : Nat) (w : World) (h : BytesAt w a n cap b) (hn : n ≤ 1000000) (hat : at_ < n) :
    Calls Try.prog 11 #[.slice a n cap, .int .i64 at_] w fun e w' => e = .returned (.tuple #[.int .i64 ((bestM b at_).1 : Nat), .int .i64 ((bestM b at_).2 : Nat)]) ∧ Below w.heap.size w w' := by
  have HL := Lib.hid h
  have HN := Lib.hid h.1
  have HE := Lib.hid (fun D (hD : D = min at_ 32768) => bestM_eq b at_ D hD)
  have HT := Lib.hid (fun D => bestTo_le b at_ D)
  have HS := Lib.hid (fun D => show bestTo b at_ (D + 1) = if (bestTo b at_ D).1 < runM b at_ (D + 1) then (runM b at_ (D + 1), D + 1) else bestTo b at_ D from rfl)
  have HRM := Lib.hid (fun d j (hj : j < 258) => run_more b at_ d j hj)
  have HRS := Lib.hid (fun d j => run_stop b at_ d j)
  clear h
  go_enter Try.func11, Try.ntmps11
  go_wp2
  go_loopw [6, 7, 8, 9] (fun sm sd si sn wr => ∃ D d p q : Nat, D ≤ min at_ 32768 ∧ d = D + 1 ∧ si = .int .i64 (d : Int) ∧ sm = .int .i64 (p : Int) ∧ sd = .int .i64 (q : Int) ∧ bestTo b at_ D = (p, q) ∧ Below w.heap.size w wr) (fun _ _ si _ _ => at_ + 2 - (intOf si).toNat)
  case atStart => exact ⟨0, 1, 0, 0, Nat.zero_le _, rfl, rfl, rfl, rfl, rfl, Below.refl _ _⟩
  case round =>
    obtain ⟨D, d, p, q, hD, hd, rfl, rfl, rfl, hpq, hb⟩ := hrel
    have HB := Lib.hid hb
    have hple := (HT.out D).1
    rw [hpq] at hple
    have HS2 := Lib.hid (HS.out D)
    rw [hpq, ← hd] at HS2
    have HPQ := Lib.hid hpq
    clear hb hpq
    by_cases hgo : D < min at_ 32768
    · have h1 : (d : Int) ≤ at_ := by omega
      have h2 : (d : Int) ≤ 32768 := by omega
      have hd1 : 1 ≤ d := by omega
      have hdat : d ≤ at_ := by omega
      have HDD := Lib.hid hd
      have HDG := Lib.hid hgo
      clear hd hgo hD
      go_wp2
      go_loopw [9] (fun sn wr2 => ∃ j : Nat, j ≤ 258 ∧ sn = .int .i64 (j : Int) ∧ runM b at_ d = j + runMN b at_ d j (258 - j) ∧ Below w.heap.size w wr2) (fun sn _ => 258 - (intOf sn).toNat)
      case atStart => exact ⟨0, by omega, rfl, by rw [Nat.zero_add]; rfl, HB.out⟩
      case round =>
        obtain ⟨j, hj, rfl, hrun, hb2⟩ := hrel
        have HB2 := Lib.hid hb2
        have HRUN := Lib.hid hrun
        clear hb2 hrun
        have hstop : ¬ (j < 258 ∧ at_ + j < b.length ∧ b.getD (at_ + j) 0 = b.getD (at_ + j - d) 0) → runM b at_ d = j := fun hh => HRS.out d j hh HRUN.out
        have HSTOP := Lib.hid hstop
        clear hstop
        by_cases c1 : j < 258
        · have c1i : (j : Int) < 258 := by omega
          by_cases c2 : at_ + j < n
          · have c2i : (at_ : Int) + j < n := by omega
            obtain ⟨g, off, rfl, hc⟩ := (HL.out.below HB2.out).at (by omega)
            have x1 := hc (at_ + j) c2
            have x2 := hc (at_ + j - d) (by omega)
            have hmore := HRM.out d j c1
            obtain ⟨X, hX⟩ : ∃ X, X = b.getD (at_ + j) 0 := ⟨_, rfl⟩
            obtain ⟨Y, hY⟩ : ∃ Y, Y = b.getD (at_ + j - d) 0 := ⟨_, rfl⟩
            rw [← hX] at x1 hmore
            rw [← hY] at x2 hmore
            have HX := Lib.hid hX
            have HY := Lib.hid hY
            clear hX hY hc
            have e1 : ((at_ : Int) + j).toNat = at_ + j := by omega
            have e2 : ((at_ : Int) + j - d).toNat = at_ + j - d := by omega
            have e3 : ¬ ((at_ : Int) + j - d < 0) := by omega
            have e4 : (at_ : Int) + j - d < n := by omega
            by_cases c3 : X = Y
            · have HM := Lib.hid (hmore ⟨by rw [HN.out]; exact c2, c3⟩ HRUN.out)
              subst c3
              clear hmore
              go_upto_region 6 with (fail)
              go_quiet (fail)
              go_wp2
              go_roundw
              case rel => exact ⟨j + 1, by omega, by go_num, HM.out, HB2.out.trans (below_drewN (Below.refl _ _) _)⟩
              case measure => simp [intOf]; omega
            · have hc3 : ¬ ((X.toNat : Int) = Y.toNat) := fun hh => c3 (UInt8.toNat_inj.1 (by omega))
              have hc3b : ((X.toNat : Int) == Y.toNat) = false := by simpa using hc3
              have HJ := Lib.hid (HSTOP.out (fun hh => c3 (by rw [HX.out, HY.out]; exact hh.2.2)))
              clear c3 hc3 hmore
              go_upto_region 6 with (fail)
              go_quiet (fail)
              by_cases hmx : p < j
              · have hmxi : (p : Int) < j := by omega
                have HF := Lib.hid (show bestTo b at_ (D + 1) = (j, d) by rw [← HDD.out, HS2.out, HJ.out, if_pos hmx])
                go_wp2
                go_roundw
                case rel => exact ⟨D + 1, d + 1, j, d, by have := HDG.out; omega, by have := HDD.out; omega, by go_num, rfl, rfl, HF.out, HB2.out.trans (below_drewN (Below.refl _ _) _)⟩
                case measure => simp [intOf]; omega
              · have hmxi : ¬ (p : Int) < j := by omega
                have HF := Lib.hid (show bestTo b at_ (D + 1) = (p, q) by rw [← HDD.out, HS2.out, HJ.out, if_neg hmx])
                go_wp2
                go_roundw
                case rel => exact ⟨D + 1, d + 1, p, q, by have := HDG.out; omega, by have := HDD.out; omega, by go_num, rfl, rfl, HF.out, HB2.out.trans (below_drewN (Below.refl _ _) _)⟩
                case measure => simp [intOf]; omega
          · have c2i : ¬ (at_ : Int) + j < n := by omega
            have HJ := Lib.hid (HSTOP.out (fun hh => c2 (by rw [← HN.out]; exact hh.2.1)))
            go_upto_region 6 with (fail)
            go_quiet (fail)
            by_cases hmx : p < j
            · have hmxi : (p : Int) < j := by omega
              have HF := Lib.hid (show bestTo b at_ (D + 1) = (j, d) by rw [← HDD.out, HS2.out, HJ.out, if_pos hmx])
              go_wp2
              go_roundw
              case rel => exact ⟨D + 1, d + 1, j, d, by have := HDG.out; omega, by have := HDD.out; omega, by go_num, rfl, rfl, HF.out, HB2.out.trans (below_drewN (Below.refl _ _) _)⟩
              case measure => simp [intOf]; omega
            · have hmxi : ¬ (p : Int) < j := by omega
              have HF := Lib.hid (show bestTo b at_ (D + 1) = (p, q) by rw [← HDD.out, HS2.out, HJ.out, if_neg hmx])
              go_wp2
              go_roundw
              case rel => exact ⟨D + 1, d + 1, p, q, by have := HDG.out; omega, by have := HDD.out; omega, by go_num, rfl, rfl, HF.out, HB2.out.trans (below_drewN (Below.refl _ _) _)⟩
              case measure => simp [intOf]; omega
        · have c1i : ¬ (j : Int) < 258 := by omega
          have HJ := Lib.hid (HSTOP.out (fun hh => c1 hh.1))
          go_upto_region 6 with (fail)
          go_quiet (fail)
          by_cases hmx : p < j
          · have hmxi : (p : Int) < j := by omega
            have HF := Lib.hid (show bestTo b at_ (D + 1) = (j, d) by rw [← HDD.out, HS2.out, HJ.out, if_pos hmx])
            go_wp2
            go_roundw
            case rel => exact ⟨D + 1, d + 1, j, d, by have := HDG.out; omega, by have := HDD.out; omega, by go_num, rfl, rfl, HF.out, HB2.out.trans (below_drewN (Below.refl _ _) _)⟩
            case measure => simp [intOf]; omega
          · have hmxi : ¬ (p : Int) < j := by omega
            have HF := Lib.hid (show bestTo b at_ (D + 1) = (p, q) by rw [← HDD.out, HS2.out, HJ.out, if_neg hmx])
            go_wp2
            go_roundw
            case rel => exact ⟨D + 1, d + 1, p, q, by have := HDG.out; omega, by have := HDD.out; omega, by go_num, rfl, rfl, HF.out, HB2.out.trans (below_drewN (Below.refl _ _) _)⟩
            case measure => simp [intOf]; omega
    · obtain rfl : D = min at_ 32768 := by omega
      have HBE := Lib.hid (HE.out _ rfl)
      rw [HPQ.out] at HBE
      by_cases hda : d ≤ at_
      · have h1 : (d : Int) ≤ at_ := by omega
        have h2 : ¬ (d : Int) ≤ 32768 := by omega
        clear hd hD hgo
        by_cases h3 : p < 3
        · have h3i : (p : Int) < 3 := by omega
          have HF := Lib.hid (show bestM b at_ = (0, 0) by rw [HBE.out, if_pos h3])
          go_wp2
          go_ret2
          exact ⟨by rw [HF.out]; rfl, HB.out⟩
        · have h3i : ¬ (p : Int) < 3 := by omega
          have HF := Lib.hid (show bestM b at_ = (p, q) by rw [HBE.out, if_neg h3])
          go_wp2
          go_ret2
          exact ⟨by rw [HF.out]; rfl, HB.out⟩
      · have h1 : ¬ (d : Int) ≤ at_ := by omega
        clear hd hD hgo
        by_cases h3 : p < 3
        · have h3i : (p : Int) < 3 := by omega
          have HF := Lib.hid (show bestM b at_ = (0, 0) by rw [HBE.out, if_pos h3])
          go_wp2
          go_ret2
          exact ⟨by rw [HF.out]; rfl, HB.out⟩
        · have h3i : ¬ (p : Int) < 3 := by omega
          have HF := Lib.hid (show bestM b at_ = (p, q) by rw [HBE.out, if_neg h3])
          go_wp2
          go_ret2
          exact ⟨by rw [HF.out]; rfl, HB.out⟩
end Go.Proofs.Ytonfppbijofapaa
