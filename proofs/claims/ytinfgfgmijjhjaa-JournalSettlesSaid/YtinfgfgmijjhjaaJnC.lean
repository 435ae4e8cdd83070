/-
  Grow, Concat: octets of several slices, one behind the other.
-/
import Derived.Test.YtinfgfgmijjhjaaJnB
import Derived.Test.YtinfgfgmijjhjaaRowsAt
import Derived.Lib.AppendZerosOnto
import Derived.Lib.Walk
namespace Go.Proofs.Ytinfgfgmijjhjaa
open Go.RowKit
set_option linter.unusedVariables false
set_option linter.unusedSimpArgs false

/-- room for so many octets, in new memory -/
def RoomTo (w : World) (e : Ending) (w' : World) : Prop :=
  ∃ g G, e = .returned (.slice (some ⟨g, 0, none⟩) 0 G) ∧ w'.ownsRow w.heap.size 5 1 (.slice (some ⟨g, 0, none⟩) 0 G) 0 [] ∧ Below w.heap.size w w'

set_option maxHeartbeats 1000000 in
set_option maxRecDepth 100000 in
theorem grow_nil (m : Nat) (w : World) (h1 : 1 ≤ m) (h2 : m ≤ 1073741824) :
    Calls Try.prog 82 #[.slice none 0 0, .int .i64 m] w (RoomTo w) := by
  obtain ⟨i0, hi, hz0, hz1, hz2⟩ := info_parts infoU8
  have hold : (Builtin.firstCells i0.size 0 (.slice none 0 0)).run Try.prog w.drew = .ok ([] : List Value).toArray w.drew := run_firstCells_none w.drew i0.size 0 0 0
  have hrz : ∀ ty, (Builtin.append_ #[24, 3] ty #[.slice none 0 0, .int .i64 m]).run Try.prog w =
      .ok (.slice (some ⟨w.heap.size, 0, none⟩) m (grownCap w m 0 5)) (w.drew.alloc (.cells (#[] ++ Builtin.zeroCells (Value.int .u8 0).cells m ++ Builtin.zeroCells (Value.int .u8 0).cells (grownCap w m 0 5 - m)) 5)) := fun ty => by
    have h := Lib.run_append_grow_zeros w 24 3 ty 5 i0 (.int .u8 0) .i64 .i64 Try.underlying24 Try.underlying3 hi hz0 none 0 0 [] hold m (by omega) (by omega) (by omega) (by omega) (by rw [hz2]; omega) (by
      rw [Nat.zero_add]; exact growslice_fits (by omega) (by rw [hz2]; omega))
    simpa using h
  have hcap := grownCap_le_maxLen w m 0 5 (by unfold maxLen; omega)
  have hge : m ≤ grownCap w m 0 5 := grownCap_ge w _ _ _
  generalize hG : grownCap w m 0 5 = G at *
  have hsz : (#[] ++ Builtin.zeroCells (Value.int .u8 0).cells m ++ Builtin.zeroCells (Value.int .u8 0).cells (G - m)).size = G := by
    simp [Builtin.zeroCells, Value.cells]; omega
  generalize #[] ++ Builtin.zeroCells (Value.int .u8 0).cells m ++ Builtin.zeroCells (Value.int .u8 0).cells (G - m) = C at *
  have HS := Lib.hid hsz
  have HC := Lib.hid hcap
  have hcm := hcap
  unfold maxLen at hcm
  clear hold hi hz0 hz1 hz2 hG hsz hcap
  go_enter Try.func82, Try.ntmps82
  go_wp2_with (at_builtin; refine Lib.wpList_append_run _ rfl _ _ _ _ rfl _ _ rfl rfl _ _ (hrz _) ?_)
  go_ret
  refine ⟨w.heap.size, G, rfl, ?_, ((Below.refl _ _).drew).alloc (by simp) _⟩
  exact ⟨rfl, .inr ⟨w.heap.size, G, C, rfl, Nat.le_refl _, heap_alloc_new w.drew _, Nat.zero_le _, HC.out, by rw [HS.out, Nat.mul_one], by simp⟩⟩

def flatK (L : Nat → List UInt8) (k : Nat) : List UInt8 := (List.range k).flatMap L
theorem flatK_succ (L : Nat → List UInt8) (k : Nat) : flatK L (k + 1) = flatK L k ++ L k := by simp [flatK, List.range_succ]
theorem flatK_mono (L : Nat → List UInt8) : ∀ (n k : Nat), k ≤ n → (flatK L k).length ≤ (flatK L n).length := by
  intro n
  induction n with
  | zero => intro k hk; have h0 : k = 0 := by omega
            rw [h0]; exact Nat.le_refl _
  | succ n ih =>
    intro k hk
    by_cases h : k = n + 1
    · subst h; exact Nat.le_refl _
    · have := ih k (by omega); rw [flatK_succ, List.length_append]; omega

set_option maxHeartbeats 1000000 in
set_option maxRecDepth 100000 in
theorem concat_any (A : Option Addr) (n cap : Nat) (R : Nat → Option Addr × Nat × Nat) (L : Nat → List UInt8) (w : World) (h : RowsAt w A n cap R L) (h1 : 1 ≤ (flatK L n).length) (h2 : (flatK L n).length ≤ 1073741824) (hn : n ≤ 1000) :
    Calls Try.prog 70 #[.slice A n cap] w (FreshB id (flatK L n).length (flatK L n) w) := by
  have hmono := flatK_mono L n
  have hp : 0 < n := by
    rcases Nat.eq_zero_or_pos n with h0 | h0
    · subst h0; simp [flatK] at h1
    · exact h0
  obtain ⟨b, off, rfl, hcell⟩ := h.at hp
  have HR := Lib.hid h
  have HC := Lib.hid hcell
  have HM := Lib.hid hmono
  clear h hcell hmono
  go_enter Try.func70, Try.ntmps70
  go_wp2
  go_loop [3, 11] (fun s i => ∃ k : Nat, k ≤ n ∧ i = .int .i64 k ∧ s = .int .i64 (flatK L k).length) (fun _ i => n - (intOf i).toNat)
  case atStart => exact ⟨0, Nat.zero_le _, rfl, rfl⟩
  case round =>
    obtain ⟨k, hk, rfl, rfl⟩ := hrel
    by_cases hlt : k < n
    · have hc := HC.out k hlt
      have hl : (L k).length = (R k).2.1 := ((HR.out.2.2 k hlt).2).1
      have hsu := flatK_succ L k
      have hm1 := HM.out (k + 1) (by omega)
      have hle : (flatK L (k + 1)).length = (flatK L k).length + (R k).2.1 := by rw [hsu, List.length_append, hl]
      have hki : (k : Int) < (n : Int) := by omega
      generalize (flatK L k).length = s at *
      generalize (R k).2.1 = m at *
      have hb : s + m ≤ 1073741824 := by omega
      have HLE := Lib.hid hle
      clear hle hm1 hsu hl
      go_wp2
      go_round
      case rel => exact ⟨k + 1, by omega, by go_num, by rw [HLE.out]; go_num⟩
      case measure => simp [intOf]; omega
    · obtain rfl : k = n := by omega
      have hpos : ¬ (((flatK L k).length : Int) < 0) := by omega
      have CG := Lib.hid (grow_nil (flatK L k).length w h1 h2)
      generalize hF : (flatK L k).length = F at *
      have HF := Lib.hid hF
      clear hF
      go_wp2_with (go_at_call 82; refine (CG.out).mono ?_; rintro e w1 ⟨g, G, rfl, ho, hb⟩)
      have HO := Lib.hid ho
      have HB := Lib.hid hb
      clear ho hb CG
      obtain ⟨ws, hws⟩ : ∃ ws : World, ws = w1 := ⟨_, rfl⟩
      have HW := Lib.hid hws
      clear hws
      go_loopw [6, 27] (fun v i wr => ∃ (j : Nat) (a' : Option Addr) (cap' : Nat), j ≤ k ∧ i = .int .i64 j ∧ v = .slice a' (flatK L j).length cap' ∧ wr.ownsRow w.heap.size 5 1 (.slice a' (flatK L j).length cap') (flatK L j).length (vals (flatK L j)) ∧ Below w.heap.size w wr) (fun _ i _ => k - (intOf i).toNat)
      case atStart => exact ⟨0, _, _, Nat.zero_le _, rfl, rfl, HO.out, HB.out⟩
      case round =>
        obtain ⟨j, a', cap', hj, rfl, rfl, hown, hbel⟩ := hrel
        have HOW := Lib.hid hown
        have HBE := Lib.hid hbel
        clear hown hbel
        by_cases hlt : j < k
        · have hc := ((HR.out.below (HBE.out.mono (Nat.le_refl _))).2.2 j hlt)
          obtain ⟨b', off', he, hcr⟩ := (HR.out.below (HBE.out.mono (Nat.le_refl _))).at hp
          simp only [Option.some.injEq, Addr.mk.injEq, and_true] at he
          obtain ⟨rfl, rfl⟩ := he
          have hcj := hcr j hlt
          have HSRC := Lib.hid hc.2
          have hl := hc.2.1
          have hsu := flatK_succ L j
          have hm1 := HM.out (j + 1) (by omega)
          have hle : (flatK L (j + 1)).length = (flatK L j).length + (R j).2.1 := by rw [hsu, List.length_append, hl]
          have hji : (j : Int) < (k : Int) := by omega
          have HSU := Lib.hid hsu
          have HLE := Lib.hid hle
          have hbd : (flatK L j).length + (R j).2.1 ≤ 1073741824 := by have := HF.out; omega
          have HSZ := Lib.hid HBE.out.size
          clear hc hcr hl hsu hm1 hle
          generalize hRj : R j = r at *
          obtain ⟨ra, rm, rc⟩ := r
          dsimp only at *
          go_wp2_with (refine wpList_append_bytes rfl _ _ rfl w.heap.size _ (flatK L j).length (vals (flatK L j)) rfl HOW.out ra rm rc (L j) rfl HSRC.out ((flatK L j).length + rm) rfl (by omega) HSZ.out ?_; intro a2 cap2 w2 ho2 hg2)
          go_roundw
          case rel =>
            refine ⟨j + 1, a2, cap2, by omega, by go_num, by rw [HLE.out], ?_, HBE.out.grown hg2 HBE.out.size (fun q hq => (HOW.out.lt q hq).1)⟩
            rw [HLE.out, HSU.out]
            simpa [vals] using ho2
          case measure => simp [intOf]; omega
        · obtain rfl : j = k := by omega
          go_wp2
          go_ret
          exact ⟨a', cap', by rw [HF.out]; rfl, by rw [← HF.out]; exact HOW.out, HBE.out⟩

end Go.Proofs.Ytinfgfgmijjhjaa
