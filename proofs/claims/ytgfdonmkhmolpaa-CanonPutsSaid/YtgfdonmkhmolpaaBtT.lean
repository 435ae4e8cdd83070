/-
  The document's own answers for layer 8 (hamperref08): Bytes.
-/
import Derived.Test.YtgfdonmkhmolpaaBtS
namespace Go.Proofs.Ytgfdonmkhmolpaa
open Go.RowKit
set_option linter.unusedVariables false
set_option linter.unusedSimpArgs false
set_option maxRecDepth 100000

theorem bt_append (s t : ByteArray) : s ++ t = ⟨(s.data.toList ++ t.data.toList).toArray⟩ := by
  apply ByteArray.ext
  rw [ByteArray.data_append]
  apply Array.ext'
  simp
theorem bt_conv (w : World) (X : UInt8) :
    (convert 36 9 (.slice (some ⟨w.heap.size, 0, none⟩) 1 1)).run Try.prog (w.alloc (.cells #[.int .u8 (X.toNat : Int)] 5)) = .ok (.string ⟨[X].toArray⟩) (w.alloc (.cells #[.int .u8 (X.toNat : Int)] 5)) := by
  refine BytesAt.conv (BytesAt.of_cells (l := [X]) rfl (Nat.le_refl _) (by unfold maxLen; omega) fun i hi => ?_)
  obtain rfl : i = 0 := by omega
  have := World.cell?_alloc_mark w #[.int .u8 (X.toNat : Int)] 5 (0, 0) 0
  simp only [Nat.zero_add, this]
  simp
/-- a part of flags -/
theorem BoolsAt.cutIf {w : World} {b off n cap at_ m : Nat} {l : List Bool} (h : BoolsAt w (some ⟨b, off, none⟩) n cap l) (hm : at_ + m ≤ n) :
    BoolsAt w (some ⟨b, off + at_, none⟩) m (cap - at_) ((l.drop at_).take m) := by
  obtain ⟨h1, h2, h3, h4, h5⟩ := h
  refine ⟨by simp; omega, by omega, by omega, fun _ _ => rfl, .inr ⟨_, rfl, fun i j x hi hj => ?_⟩⟩
  rcases h5 with ⟨hx, _⟩ | ⟨p, hp, hc⟩
  · cases hx
  · injection hp with hp
    subst hp
    have him : i < m := by
      have := (List.getElem?_eq_some_iff.1 hi).1
      simp at this; omega
    have hx : l[at_ + i]? = some x := by rw [← hi, List.getElem?_take_of_lt him, List.getElem?_drop]
    have := hc (at_ + i) j x hx hj
    rw [Addr.add_mid] at this ⊢
    rw [← this]
    congr 2
    omega

set_option maxHeartbeats 1000000 in
/-- Bytes -/
theorem rbytes_any (sa : Option Addr) (m c : Nat) (L : List Bool) (w : World) (h : BoolsAt w sa m c L) (hm : m ≤ 68719476736) :
    Calls Try.prog 27 #[.slice sa m c] w fun e w' => e = .returned (.string ⟨(packB L).toArray⟩) ∧ Below w.heap.size w w' := by
  have CW := Lib.hid (rwhole_any sa m c L w h (by omega))
  obtain ⟨q, hq⟩ : ∃ q, q = octN m := ⟨_, rfl⟩
  have hqm : q ≤ 8589934592 := by rw [hq]; unfold octN; omega
  have HL := Lib.hid (show (packB L).length = q by rw [packB_len, h.1, hq])
  have HWL := Lib.hid (show (wholeL L).length = q * 8 by rw [wholeL_length, h.1, hq])
  have HP := Lib.hid (show ∀ k, k < q → ((packB L).getD k 0).toNat = numL (((wholeL L).drop (8 * k)).take 8) from fun k hk => pack_at L k (by rw [h.1, ← hq]; exact hk))
  have HQ := Lib.hid hq
  clear h hq
  go_enter Try.func27, Try.ntmps27
  go_wp2_with fail
  refine CW.out.mono ?_
  rintro e w1 ⟨a, n, cap, rfl, hI⟩
  have hn : n = q * 8 := by rw [← hI.2.1, HWL.out]
  subst hn
  have HI := Lib.hid hI
  have hsz := hI.2.2.2.size
  clear hI
  go_wp2
  go_loopw [4, 5] (fun s4 s5 wr => ∃ k : Nat, k ≤ q ∧ s5 = .int .i64 (8 * k : Nat) ∧ s4 = .string ⟨((packB L).take k).toArray⟩ ∧ Below w1.heap.size w1 wr) (fun _ s5 _ => q * 8 - (intOf s5).toNat)
  case atStart => exact ⟨0, Nat.zero_le _, rfl, rfl, Below.refl _ _⟩
  case round =>
    obtain ⟨k, hk, rfl, rfl, hb⟩ := hrel
    obtain ⟨A, hA⟩ : ∃ A, A = (packB L).take k := ⟨_, rfl⟩
    have HA := Lib.hid hA
    have hAl : A.length ≤ 8589934592 := by rw [hA, List.length_take]; omega
    rw [← hA]
    clear hA
    by_cases hlt : k < q
    · obtain ⟨b, off, rfl, _, hc⟩ := BoolsAt.cell (CameAt.below HI.out.came (by omega) hb) (by omega)
      have hcut := BoolsAt.cutIf (at_ := 8 * k) (m := 8) (CameAt.below HI.out.came (by omega) hb) (by omega)
      have CN := Lib.hid (rnumber_any _ 8 _ _ wr hcut (by omega))
      rw [← HP.out k hlt] at CN
      have HX := Lib.hid (show (packB L).take (k + 1) = (packB L).take k ++ [(packB L).getD k 0] by
        rw [List.take_succ_eq_append_getElem (by rw [HL.out]; exact hlt), List.getD, List.getElem?_eq_getElem (by rw [HL.out]; exact hlt)]; rfl)
      generalize (packB L).getD k 0 = X at *
      have hX := X.toNat_lt
      have hcap : q * 8 ≤ cap := HI.out.came.2.1
      have hne : ¬ cap = 8 * k := by omega
      have e1 : IntKind.u8.wrap (X.toNat : Int) = (X.toNat : Int) := by rw [IntKind.wrap_u8']; omega
      have hcv := bt_conv wr X
      clear hc hcut
      go_wp2_with fail
      refine CN.out.mono ?_
      rintro e w2 ⟨rfl, rfl⟩
      go_wp2
      go_roundw
      case rel => exact ⟨k + 1, by omega, by go_num, by rw [HX.out, ← HA.out, bt_append], hb.alloc hb.size _⟩
      case measure => simp [intOf]; omega
    · obtain rfl : k = q := by omega
      have HT := Lib.hid (show A = packB L by rw [HA.out, List.take_of_length_le (by rw [HL.out]; omega)])
      go_wp2
      go_ret
      exact ⟨by rw [HT.out]; rfl, HI.out.2.2.2.trans (hb.mono hsz)⟩
end Go.Proofs.Ytgfdonmkhmolpaa
