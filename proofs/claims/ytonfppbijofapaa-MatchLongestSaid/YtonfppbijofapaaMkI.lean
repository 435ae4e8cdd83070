/-
  Package match: Best.
-/
import Derived.Test.YtonfppbijofapaaMkH
namespace Go.Proofs.Ytonfppbijofapaa
open Go.RowKit
set_option linter.unusedVariables false
set_option linter.unusedSimpArgs false
set_option maxRecDepth 100000

set_option maxHeartbeats 4000000 in
theorem matBest_any (a : Option Addr) (n cap : Nat) (b : List UInt8) (at_ : Int) (w : World) (h : BytesAt w a n cap b) (hi : (Lit.int .i64 at_).wf = true) :
    Calls Try.prog 9 #[.slice a n cap, .int .i64 at_] w fun e w' => e = .returned (.tuple #[.int .i64 (bestA b at_).1, .int .i64 (bestA b at_).2.1, .int .i64 (bestA b at_).2.2]) ∧ Below w.heap.size w w' := by
  have hA : bestA b at_ = (if 65536 < n then (0, 0, 5) else if at_ < 0 ∨ (n : Int) ≤ at_ then (0, 0, 4) else ((((bestM b at_.toNat).1 : Nat) : Int), (((bestM b at_.toNat).2 : Nat) : Int), 0) : Int × Int × Int) := by unfold bestA; rw [h.1]
  have hcapn := h.2.1
  have hmax := h.2.2.1
  unfold maxLen at hmax
  by_cases h1 : 65536 < n
  · rw [if_pos h1] at hA
    have h1i : (65536 : Int) < n := by omega
    rw [hA]
    clear hA h
    go_enter Try.func9, Try.ntmps9
    go_wp2
    go_ret3
    exact ⟨rfl, Below.refl _ _⟩
  rw [if_neg h1] at hA
  have h1i : ¬ (65536 : Int) < n := by omega
  by_cases h2 : at_ < 0
  · rw [if_pos (.inl h2)] at hA
    rw [hA]
    clear hA h
    go_enter Try.func9, Try.ntmps9
    go_wp2
    go_ret3
    exact ⟨rfl, Below.refl _ _⟩
  by_cases h3 : (n : Int) ≤ at_
  · rw [if_pos (.inr h3)] at hA
    rw [hA]
    clear hA h
    go_enter Try.func9, Try.ntmps9
    go_wp2
    go_ret3
    exact ⟨rfl, Below.refl _ _⟩
  rw [if_neg (by omega)] at hA
  obtain ⟨p, rfl⟩ : ∃ p : Nat, at_ = p := ⟨at_.toNat, by omega⟩
  rw [Int.toNat_natCast] at hA
  rw [hA]
  have hp : p < n := by omega
  have HL := Lib.hid h
  have HN := Lib.hid h.1
  obtain ⟨lo, hlo⟩ : ∃ lo, lo = p - 32768 := ⟨_, rfl⟩
  have hmx : (if (32768 : Int) < (p : Int) then (p : Int) - 32768 else 0) = ((p - 32768 : Nat) : Int) := by split <;> omega
  have CN := Lib.hid (mkNew_any a n cap w)
  have CA := Lib.hid (fun M u (hu : Below w.heap.size w u) (hT : TabS w.heap.size u M (fun k => offsM b k lo 0)) => mkAdd_any w.heap.size a n cap b M lo 0 (p - lo) lo p u h.1 (fun v hv => h.below (hu.trans hv)) (by omega) hT (by omega) (by omega) (by omega) (by omega))
  have CB := Lib.hid (fun M u (hu : Below w.heap.size w u) (hT : TabS w.heap.size u M (fun k => offsM b k lo (p - lo))) => mkBest_any w.heap.size a n cap b M lo (p - lo) p u (h.below hu) (by omega) hp hT (by omega) (by omega))
  rw [← hlo] at hmx
  clear hA h hlo hi
  generalize bestM b p = B at *
  unfold finC at *
  go_enter Try.func9, Try.ntmps9
  go_wp2_with fail
  refine CN.out.mono ?_
  rintro e w1 ⟨M, rfl, hT, hb1⟩
  have hs1 := hb1.size
  obtain ⟨w2, hw2⟩ : ∃ u, u = w1.alloc (.cells #[.slice a n cap, .map (some M)] 46) := ⟨_, rfl⟩
  have HB2 := Lib.hid (show Below w.heap.size w w2 by rw [hw2]; exact hb1.alloc hs1 _)
  have HT2 := Lib.hid (show TabS w.heap.size w2 M (fun k => offsM b k lo 0) by rw [hw2]; exact hT.below ((Below.refl _ _).alloc (Nat.le_refl _) _))
  have hrow : w2.heap[w1.heap.size]? = some (.cells #[.slice a n cap, .map (some M)] 46 (0, 0)) := by rw [hw2]; exact heap_alloc_new w1 _
  have HROW := Lib.hid hrow
  obtain ⟨q, hq⟩ : ∃ q, q = w1.heap.size := ⟨_, rfl⟩
  clear hT hb1 hs1
  go_upto_region 6 with (fail)
  rw [← hw2]
  have y0 := cell_of_row _ w1.heap.size 0 _ _ _ hrow
  have y1 := cell_of_row _ w1.heap.size 1 _ _ _ hrow
  change World.cell? _ ⟨w1.heap.size, 0, none⟩ = some (.slice a n cap) at y0
  change World.cell? _ ⟨w1.heap.size, 1, none⟩ = some (.map (some M)) at y1
  clear hw2 hrow hq
  go_wp2_with fail
  refine (CA.out M w2 HB2.out HT2.out).mono ?_
  rintro e w3 ⟨rfl, hT3, hb3, hk3⟩
  have HB3 := Lib.hid (HB2.out.trans hb3)
  have HT3 := Lib.hid hT3
  have hrow3 := hk3 _ _ _ HROW.out (by decide)
  have z0 := cell_of_row _ w1.heap.size 0 _ _ _ hrow3
  have z1 := cell_of_row _ w1.heap.size 1 _ _ _ hrow3
  change World.cell? _ ⟨w1.heap.size, 0, none⟩ = some (.slice a n cap) at z0
  change World.cell? _ ⟨w1.heap.size, 1, none⟩ = some (.map (some M)) at z1
  clear hT3 hb3 hk3 hrow3 y0 y1
  go_wp2_with fail
  refine (CB.out M w3 HB3.out HT3.out).mono ?_
  rintro e w4 ⟨rfl, hb4⟩
  have HB4 := Lib.hid (HB3.out.trans (hb4.mono HB3.out.size))
  clear hb4
  go_wp2
  go_ret3
  exact ⟨rfl, HB4.out⟩
end Go.Proofs.Ytonfppbijofapaa
