/-
  Package match: how many octets are equal; the best match by the table.
-/
import Derived.Test.YtonfppbijofapaaMkE
import Derived.Deep.QuietTactic
import Derived.Deep.Cut
import Derived.BigQuiet
import Derived.StillTailTactics
namespace Go.Proofs.Ytonfppbijofapaa
open Go.RowKit
set_option linter.unusedVariables false
set_option linter.unusedSimpArgs false
set_option maxRecDepth 100000

set_option maxHeartbeats 4000000 in
theorem mkEqual_any (a : Option Addr) (n cap : Nat) (b : List UInt8) (M o p m : Nat) (w : World) (h : BytesAt w a n cap b) (hn : n ≤ 65536) (ho : o < p) (hp : p < n) (hm : m = min 258 (n - p)) :
    Calls Try.prog 27 #[finC a n cap M, .int .i64 o, .int .i64 p, .int .i64 m] w fun e w' => e = .returned (.int .i64 (runM b p (p - o) : Nat)) ∧ Below w.heap.size w w' := by
  have HL := Lib.hid h
  have HN := Lib.hid h.1
  have HMM := Lib.hid hm
  have hm258 : m ≤ 258 := by omega
  have hpm : p + m ≤ n := by omega
  have HRM := Lib.hid (fun j (hj : j < 258) => run_more b p (p - o) j hj)
  have HRS := Lib.hid (fun j => run_stop b p (p - o) j)
  clear h hm
  unfold finC
  go_enter Try.func27, Try.ntmps27
  go_wp2
  obtain ⟨q, hq⟩ : ∃ q, q = w.heap.size := ⟨_, rfl⟩
  have HQ := Lib.hid hq
  obtain ⟨w1, hw1⟩ : ∃ u, u = w.alloc (.cells #[.slice a n cap, .map (some M)] 46) := ⟨_, rfl⟩
  have HW1 := Lib.hid (show Below w.heap.size w w1 by rw [hw1]; exact (Below.refl _ _).alloc (Nat.le_refl _) _)
  have HROW := Lib.hid (show w1.heap[q]? = some (.cells #[.slice a n cap, .map (some M)] 46 (0, 0)) by rw [hw1, hq]; exact heap_alloc_new w _)
  rw [← hw1, ← hq]
  clear hw1 hq
  go_loopw [9] (fun sn wr => ∃ j : Nat, j ≤ m ∧ sn = .int .i64 (j : Int) ∧ runM b p (p - o) = j + runMN b p (p - o) j (258 - j) ∧ Below w.heap.size w wr ∧ wr.heap[q]? = some (.cells #[.slice a n cap, .map (some M)] 46 (0, 0))) (fun sn _ => 258 - (intOf sn).toNat)
  case atStart => exact ⟨0, by omega, rfl, by rw [Nat.zero_add]; rfl, HW1.out, HROW.out⟩
  case round =>
    obtain ⟨j, hj, rfl, hrun, hb2, hrow⟩ := hrel
    have HB2 := Lib.hid hb2
    have HR := Lib.hid hrow
    have HRUN := Lib.hid hrun
    have y0 := cell_of_row _ q 0 _ _ _ hrow
    change World.cell? _ ⟨q, 0, none⟩ = some (.slice a n cap) at y0
    have HSTOP := Lib.hid (fun hh => HRS.out j hh hrun)
    clear hb2 hrun hrow
    by_cases c1 : j < m
    · have c1i : (j : Int) < m := by omega
      obtain ⟨g, off, rfl, hc⟩ := (HL.out.below HB2.out).at (by omega)
      have x1 := hc (p + j) (by omega)
      have x2 := hc (o + j) (by omega)
      have hmore := HRM.out j (by omega)
      rw [show p + j - (p - o) = o + j by omega] at hmore
      obtain ⟨X, hX⟩ : ∃ X, X = b.getD (p + j) 0 := ⟨_, rfl⟩
      obtain ⟨Y, hY⟩ : ∃ Y, Y = b.getD (o + j) 0 := ⟨_, rfl⟩
      rw [← hX] at x1 hmore
      rw [← hY] at x2 hmore
      have HX := Lib.hid hX
      have HY := Lib.hid hY
      clear hX hY hc
      have e1 : ((p : Int) + j).toNat = p + j := by omega
      have e2 : ((o : Int) + j).toNat = o + j := by omega
      have e3 : (p : Int) + j < n := by omega
      have e4 : (o : Int) + j < n := by omega
      by_cases c3 : X = Y
      · have HM := Lib.hid (hmore ⟨by rw [HN.out]; omega, c3⟩ HRUN.out)
        subst c3
        clear hmore
        go_upto_region 2 with (fail)
        go_quiet (fail)
        go_wp2
        go_roundw
        case rel => exact ⟨j + 1, by omega, by go_num, HM.out, HB2.out.trans (below_drewN (Below.refl _ _) _), HR.out⟩
        case measure => simp [intOf]; omega
      · have hc3 : ¬ ((Y.toNat : Int) = X.toNat) := fun hh => c3 (UInt8.toNat_inj.1 (by omega))
        have hc3b : ((Y.toNat : Int) == X.toNat) = false := by simpa using hc3
        have HJ := Lib.hid (HSTOP.out (fun hh => c3 (by rw [HX.out, HY.out, hh.2.2]; congr 1; omega)))
        clear c3 hc3 hmore
        go_upto_region 2 with (fail)
        go_quiet (fail)
        go_wp2
        go_ret
        exact ⟨congrArg (fun (x : Nat) => Ending.returned (.int .i64 (x : Int))) HJ.out.symm, HB2.out.trans (below_drewN (Below.refl _ _) _)⟩
    · obtain rfl : j = m := by omega
      have HJ := Lib.hid (HSTOP.out (fun hh => by have := HMM.out; have := HN.out; have := hh.1; have := hh.2.1; omega))
      have c1i : ¬ (j : Int) < j := by omega
      go_upto_region 2 with (fail)
      go_quiet (fail)
      go_wp2
      go_ret
      exact ⟨congrArg (fun (x : Nat) => Ending.returned (.int .i64 (x : Int))) HJ.out.symm, HB2.out.trans (below_drewN (Below.refl _ _) _)⟩
end Go.Proofs.Ytonfppbijofapaa
