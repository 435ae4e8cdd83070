/-
  The document's own answers for layer 5 (hamperref05): Same, Of; the law's same.
-/
import Derived.Test.YtcmhijhoemcdcaaSpD
namespace Go.Proofs.Ytcmhijhoemcdcaa
open Go.RowKit
set_option linter.unusedVariables false
set_option linter.unusedSimpArgs false
set_option maxRecDepth 100000

theorem came_owned {α : Type} {f : α → Value} {w : World} {base n cap : Nat} {a : Option Addr} {L : List α} {t : TypeId} (h : w.ownsRow base t 1 (.slice a n cap) n (L.map f)) : CameAt (fun x => [f x]) 1 w a n cap L := by
  have hl : L.length = n := by have := h.1; simpa using this
  rcases h.2 with ⟨h', h0⟩ | ⟨g, cap', cur, h', hb, hg, hnc, hcm, hcs, htake⟩
  · simp at h'
    obtain ⟨rfl, rfl, rfl⟩ := h'
    exact ⟨hl, Nat.le_refl _, by simp, by simp, .inl ⟨rfl, rfl, rfl⟩⟩
  · simp only [Value.slice.injEq, true_and] at h'
    obtain ⟨rfl, rfl⟩ := h'
    refine ⟨hl, hnc, hcm, by simp, .inr ⟨_, rfl, fun i j x hx hj => ?_⟩⟩
    obtain rfl : j = 0 := by omega
    have hi : i < L.length := (List.getElem?_eq_some_iff.1 hx).1
    rw [Addr.add_mid, Nat.zero_add, World.ownsRow.cellAt h (i * 1 + 0) (by omega), Nat.mul_one, Nat.add_zero, List.getElem?_map, hx]
    rfl
theorem ints_owned {w : World} {base n cap : Nat} {a : Option Addr} {P : List Nat} {t : TypeId} (h : w.ownsRow base t 1 (.slice a n cap) n (ivals P)) : IntsAt w a n cap (P.map Int.ofNat) := by
  have : ivals P = (P.map Int.ofNat).map fun z => .int .i64 z := by simp [ivals]
  rw [this] at h
  exact came_owned h
def bvals (L : List Bool) : List Value := L.map .bool
theorem bools_owned {w : World} {base n cap : Nat} {a : Option Addr} {L : List Bool} {t : TypeId} (h : w.ownsRow base t 1 (.slice a n cap) n (bvals L)) : BoolsAt w a n cap L := came_owned h

theorem rsame_any (N N' : Int) (a a' : Option Addr) (n cap n' cap' : Nat) (l l' : List UInt8) (w : World) (h : BytesAt w a n cap l) (h' : BytesAt w a' n' cap' l') :
    Calls Try.prog 9 #[.agg (spV N a n cap), .agg (spV N' a' n' cap')] w fun e w' => e = .returned (.bool (decide (N = N') && (l == l'))) ∧ Below w.heap.size w w' := by
  have hb0 : Below w.heap.size w ((w.alloc (.cells (spV N a n cap) 24)).alloc (.cells (spV N' a' n' cap') 24)) := ((Below.refl _ w).alloc (Nat.le_refl _) _).alloc (by simp) _
  by_cases hN : N = N'
  · subst hN
    have v1 := (h.below hb0).conv
    have v2 := (h'.below hb0).conv
    have HB := Lib.hid hb0
    clear h h' hb0
    unfold spV at *
    go_enter Try.func9, Try.ntmps9
    go_wp2
    go_ret
    refine ⟨?_, HB.out⟩
    simp
  · have HB := Lib.hid hb0
    have hne : (N == N') = false := by simpa using hN
    have HN := Lib.hid hN
    clear h h' hb0 hN
    unfold spV at *
    go_enter Try.func9, Try.ntmps9
    go_wp2
    go_ret
    refine ⟨?_, HB.out⟩
    have := HN.out
    simp [this]

theorem same_any (a a' : Option Addr) (n cap n' cap' : Nat) (L L' : List Int) (w : World) (h : IntsAt w a n cap L) (h' : IntsAt w a' n' cap' L') :
    Calls Try.prog 15 #[.slice a n cap, .slice a' n' cap'] w fun e w' => e = .returned (.bool (L == L')) ∧ Below w.heap.size w w' := by
  have hl : L.length = n := h.1
  have hl' : L'.length = n' := h'.1
  have hn : n ≤ 9223372036854775807 := by have := h.2.1; have := h.2.2.1; unfold maxLen at *; omega
  have HL := Lib.hid h
  have HL' := Lib.hid h'
  have H1 := Lib.hid hl
  have H2 := Lib.hid hl'
  clear h h' hl hl'
  by_cases hnn : n = n'
  · subst hnn
    go_enter Try.func15, Try.ntmps15
    go_wp2
    go_loopw [5] (fun i wr => ∃ k : Nat, k ≤ n ∧ i = .int .i64 k ∧ L.take k = L'.take k ∧ Below w.heap.size w wr) (fun i _ => n - (intOf i).toNat)
    case atStart => exact ⟨0, Nat.zero_le _, rfl, rfl, Below.refl _ _⟩
    case round =>
      obtain ⟨k, hk, rfl, ht, hb⟩ := hrel
      have HB := Lib.hid hb
      have HT := Lib.hid ht
      clear hb ht
      by_cases hlt : k < n
      · obtain ⟨b, off, rfl, _, hc⟩ := IntsAt.cell (CameAt.below HL.out (by omega) HB.out) (by omega)
        obtain ⟨b', off', rfl, _, hc'⟩ := IntsAt.cell (CameAt.below HL'.out (by omega) HB.out) (by omega)
        have x1 := hc k hlt
        have x2 := hc' k hlt
        have hs1 : L.take (k + 1) = L.take k ++ [L.getD k 0] := by
          rw [List.take_succ_eq_append_getElem (by rw [H1.out]; exact hlt), List.getD, List.getElem?_eq_getElem (by rw [H1.out]; exact hlt)]; rfl
        have hs2 : L'.take (k + 1) = L'.take k ++ [L'.getD k 0] := by
          rw [List.take_succ_eq_append_getElem (by rw [H2.out]; exact hlt), List.getD, List.getElem?_eq_getElem (by rw [H2.out]; exact hlt)]; rfl
        have S1 := Lib.hid hs1
        have S2 := Lib.hid hs2
        have hki : (k : Int) < n := by omega
        obtain ⟨z, hz⟩ : ∃ z, z = L.getD k 0 := ⟨_, rfl⟩
        obtain ⟨z', hz'⟩ : ∃ z, z = L'.getD k 0 := ⟨_, rfl⟩
        rw [← hz] at x1 S1
        rw [← hz'] at x2 S2
        have Z1 := Lib.hid hz
        have Z2 := Lib.hid hz'
        clear hc hc' hs1 hs2 hz hz'
        by_cases hzz : z = z'
        · have hne : (z != z') = false := by rw [hzz]; simp
          have HZ := Lib.hid hzz
          clear hzz
          go_upto_region 6 with (fail)
          go_quiet (fail)
          go_wp2
          go_roundw
          case rel => exact ⟨k + 1, by omega, by go_num, by rw [S1.out, S2.out, HT.out, HZ.out], HB.out.trans (below_drewN (Below.refl _ _) _)⟩
          case measure => simp [intOf]; omega
        · have hne : (z != z') = true := by simpa using hzz
          have HZ := Lib.hid hzz
          clear hzz
          go_upto_region 6 with (fail)
          go_quiet (fail)
          go_wp2
          go_ret
          refine ⟨?_, HB.out.trans (below_drewN (Below.refl _ _) _)⟩
          have : (L == L') = false := by
            rw [beq_eq_false_iff_ne]
            intro e
            exact HZ.out (by rw [Z1.out, Z2.out, e])
          rw [this]
          rfl
      · obtain rfl : k = n := by omega
        go_wp2
        go_ret
        refine ⟨?_, HB.out⟩
        have : (L == L') = true := by
          rw [beq_iff_eq]
          have := HT.out
          rwa [List.take_of_length_le (by rw [H1.out]; omega), List.take_of_length_le (by rw [H2.out]; omega)] at this
        rw [this]
        rfl
  · have hne : ((n : Int) != (n' : Int)) = true := by simp; omega
    have HNN := Lib.hid hnn
    clear hnn
    go_enter Try.func15, Try.ntmps15
    go_wp2
    go_ret
    refine ⟨?_, Below.refl _ _⟩
    have : (L == L') = false := by
      rw [beq_eq_false_iff_ne]
      intro e
      exact HNN.out (by rw [← H1.out, ← H2.out, e])
    rw [this]
    rfl

end Go.Proofs.Ytcmhijhoemcdcaa
