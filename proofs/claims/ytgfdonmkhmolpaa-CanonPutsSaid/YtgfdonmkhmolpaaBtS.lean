/-
  The document's own answers for layer 8 (hamperref08): Whole, Number, Of, Bytes.
-/
import Derived.Test.YtgfdonmkhmolpaaBtR
import Derived.Test.YtgfdonmkhmolpaaBtG
import Derived.Lib.AppendStr
namespace Go.Proofs.Ytgfdonmkhmolpaa
open Go.RowKit
set_option linter.unusedVariables false
set_option linter.unusedSimpArgs false
set_option maxRecDepth 100000

/-- so many noughts behind -/
def zeroL (F : List Bool) (k : Nat) : List Bool := F ++ List.replicate k false
theorem zeroL_succ (F : List Bool) (k : Nat) : zeroL F (k + 1) = zeroL F k ++ [false] := by unfold zeroL; rw [List.replicate_succ', List.append_assoc]
theorem zeroL_len (F : List Bool) (k : Nat) : (zeroL F k).length = F.length + k := by simp [zeroL]

set_option maxHeartbeats 1000000 in
/-- Whole -/
theorem rwhole_any (sa : Option Addr) (m c : Nat) (L : List Bool) (w : World) (h : BoolsAt w sa m c L) (hm : m ≤ 1099511627776) :
    Calls Try.prog 40 #[.slice sa m c] w (FreshBo (wholeL L) w) := by
  obtain ⟨i0, hi, hz0, hz1, hz2⟩ := info_parts infoBo
  have hbs : ∀ u, (Instr.buildSlice 42 0 #[]).run Try.prog u = .ok (.slice (some ⟨u.heap.size, 0, none⟩) 0 0) (u.alloc (.cells #[] 4)) := fun u => by
    simp [Instr.buildSlice, run_underlying Try.underlying42, sizeOf, typeInfo, hi, Instr.fill, newRow, Array.range_zero']
  have HL := Lib.hid h.1
  have HN := Lib.hid (bo_new w)
  have HH := Lib.hid (CameAt.below h (by omega) ((Below.refl _ w).alloc (o := .cells #[] 4) (Nat.le_refl _)))
  obtain ⟨z, hz⟩ : ∃ z, z = octN m * 8 - m := ⟨_, rfl⟩
  have hz8 : (m + z) % 8 = 0 ∧ z < 8 := by unfold octN at hz; omega
  have HW := Lib.hid (show wholeL L = zeroL L z by unfold wholeL zeroL; rw [show L.length = m from h.1, hz])
  clear h hz hi hz0 hz1 hz2
  go_enter Try.func40, Try.ntmps40
  go_wp2_with (at_builtin; refine wpList_append_bo rfl _ _ rfl _ [] rfl HN.out.1 sa m c L rfl HH.out (by simp; omega) ?_; intro v' w1 hr hg hbk; obtain ⟨a', cap', hv', hI1⟩ := BoI.more0 HN.out hr hg hbk; rw [HL.out, Nat.zero_add] at hv' hI1; subst hv'; have HI1 := Lib.hid hI1; clear hr hg hbk hI1)
  go_loopw [3] (fun s3 wr => ∃ (k : Nat) (a : Option Addr) (cap : Nat), k ≤ z ∧ s3 = .slice a (m + k) cap ∧ BoI w wr a (m + k) cap (zeroL L k)) (fun s3 _ => m + z - (match s3 with | .slice _ n _ => n | _ => 0))
  case atStart => exact ⟨0, a', cap', Nat.zero_le _, rfl, by simpa [zeroL] using HI1.out⟩
  case round =>
    obtain ⟨k, a, cap, hk, rfl, hI⟩ := hrel
    have HI := Lib.hid hI
    clear hI
    by_cases hlt : k < z
    · have hd : (((m + k : Nat) : Int) % 8 != 0) = true := by rw [bne_iff_ne]; omega
      have hd2 : (((m : Int) + (k : Int)) % 8 != 0) = true := by rw [bne_iff_ne]; omega
      have HS := Lib.hid (zeroL_succ L k)
      have HZ := Lib.hid (one_came wr false)
      go_wp2_with (at_builtin; refine wpList_append_bo rfl _ _ rfl _ (zeroL L k) rfl (HI.out.1.below ((Below.refl _ _).alloc (Nat.le_refl _) _)) (some ⟨wr.heap.size, 0, none⟩) 1 1 [false] rfl HZ.out (by rw [HI.out.2.1]; omega) ?_; intro v' w' hr hg hbk; obtain ⟨a', cap', rfl, hI2⟩ := BoI.more HI.out hr hg hbk; have HI2 := Lib.hid hI2; clear hr hg hbk hI2)
      go_roundw
      case rel => exact ⟨k + 1, a', cap', by omega, by rfl, by rw [HS.out]; exact HI2.out⟩
      case measure => simp; omega
    · obtain rfl : k = z := by omega
      have hd : (((m + k : Nat) : Int) % 8 != 0) = false := by rw [bne_eq_false_iff_eq]; omega
      have hd2 : (((m : Int) + (k : Int)) % 8 != 0) = false := by rw [bne_eq_false_iff_eq]; omega
      go_wp2
      go_ret
      exact ⟨a, m + k, cap, rfl, by rw [HW.out]; exact HI.out⟩

set_option maxHeartbeats 1000000 in
/-- Number -/
theorem rnumber_any (sa : Option Addr) (m c : Nat) (L : List Bool) (w : World) (h : BoolsAt w sa m c L) (hm : m ≤ 63) :
    Calls Try.prog 41 #[.slice sa m c] w fun e w' => e = .returned (.int .u64 (numL L : Int)) ∧ w = w' := by
  have HL := Lib.hid h.1
  have HH := Lib.hid h
  clear h
  go_enter Try.func41, Try.ntmps41
  go_wp2
  go_loop [3, 4] (fun s3 s4 => ∃ k x : Nat, k ≤ m ∧ s4 = .int .i64 ((k : Int) - 1) ∧ s3 = .int .u64 x ∧ x = numL (L.drop k)) (fun _ s4 => (intOf s4 + 1).toNat)
  case atStart => exact ⟨m, 0, Nat.le_refl _, rfl, rfl, by rw [List.drop_of_length_le (by rw [HL.out]; omega)]; rfl⟩
  case round =>
    obtain ⟨k, x, hk, rfl, rfl, hx⟩ := hrel
    have HX := Lib.hid hx
    by_cases hlt : 0 < k
    · obtain ⟨j, rfl⟩ : ∃ j, k = j + 1 := ⟨k - 1, by omega⟩
      obtain ⟨b, off, rfl, _, hc⟩ := BoolsAt.cell HH.out (by omega)
      have hcj := hc j (by omega)
      have hlim := numL_lt (L.drop (j + 1))
      rw [← hx] at hlim
      have hx63 : x ≤ 4611686018427387904 := by
        have h1 : (L.drop (j + 1)).length ≤ 62 := by rw [List.length_drop, HL.out]; omega
        have h2 : 2 ^ (L.drop (j + 1)).length ≤ 2 ^ 62 := Nat.pow_le_pow_right (by omega) h1
        have h3 : (2 : Nat) ^ 62 = 4611686018427387904 := by decide
        omega
      have HD := Lib.hid (show numL (L.drop j) = (if L.getD j false then 1 else 0) + 2 * numL (L.drop (j + 1)) by
        rw [List.drop_eq_getElem_cons (by rw [HL.out]; omega), numL_cons, List.getD, List.getElem?_eq_getElem (by rw [HL.out]; omega)]; rfl)
      have e1 : ((j + 1 : Nat) : Int) - 1 = (j : Int) := by omega
      have e2 : IntKind.u64.wrap ((x : Int) + x) = (x : Int) + x := by rw [IntKind.wrap_u64]; omega
      have e3 : IntKind.u64.wrap ((x : Int) + x + 1) = (x : Int) + x + 1 := by rw [IntKind.wrap_u64]; omega
      rw [e1]
      clear hx hc hlim e1
      cases hb : L.getD j false with
      | false =>
        rw [hb] at hcj HD
        clear hb
        go_wp2
        go_round
        case rel => exact ⟨j, x + x, by omega, by first | rfl | go_num, by go_num, by rw [HD.out, ← HX.out]; simp; omega⟩
        case measure => simp [intOf]
      | true =>
        rw [hb] at hcj HD
        clear hb
        go_wp2
        go_round
        case rel => exact ⟨j, x + x + 1, by omega, by first | rfl | go_num, by go_num, by rw [HD.out, ← HX.out]; simp; omega⟩
        case measure => simp [intOf]
    · obtain rfl : k = 0 := by omega
      have e1 : ((0 : Nat) : Int) - 1 = -1 := by omega
      rw [e1]
      clear hx
      go_wp2
      go_ret
      exact ⟨by rw [HX.out]; rfl, rfl⟩

set_option maxHeartbeats 1000000 in
/-- Of -/
theorem rofb_any (sa : Option Addr) (m c : Nat) (l : List UInt8) (w : World) (h : BytesAt w sa m c l) (hm : m ≤ 1099511627776) :
    Calls Try.prog 15 #[.slice sa m c] w (FreshBo (ofL l) w) := by
  obtain ⟨i0, hi, hz0, hz1, hz2⟩ := info_parts infoBo
  have HL := Lib.hid h.1
  have HH := Lib.hid h
  clear h
  go_enter Try.func15, Try.ntmps15
  go_wp2
  go_loopw [3, 4] (fun s3 s4 wr => ∃ (k n : Nat) (a : Option Addr) (cap : Nat), k ≤ m ∧ n = 8 * k ∧ s4 = .int .i64 k ∧ s3 = .slice a n cap ∧ BoI w wr a n cap (ofL (l.take k))) (fun _ s4 _ => m - (intOf s4).toNat)
  case atStart => exact ⟨0, 0, none, 0, Nat.zero_le _, rfl, rfl, rfl, BoI.nil w⟩
  case round =>
    obtain ⟨k, n, a, cap, hk, hn, rfl, rfl, hI⟩ := hrel
    have HN := Lib.hid hn
    have hn2 : n ≤ 8796093022208 := by omega
    have HI := Lib.hid hI
    by_cases hlt : k < m
    · obtain ⟨b, off, rfl, hc⟩ := BytesAt.at (HH.out.below hI.2.2.2) (by omega)
      have hck := hc k hlt
      have HS := Lib.hid (show ofL (l.take (k + 1)) = ofL (l.take k) ++ bitsL (l.getD k 0).toNat 8 by
        rw [List.take_succ_eq_append_getElem (by rw [HL.out]; exact hlt), ofL_snoc, List.getD, List.getElem?_eq_getElem (by rw [HL.out]; exact hlt)]; rfl)
      generalize l.getD k 0 = X at *
      have hX := X.toNat_lt
      have CB := Lib.hid (rbits_any X.toNat 8 wr (by omega) (by omega))
      have e1 : IntKind.u64.wrap (X.toNat : Int) = (X.toNat : Int) := by rw [IntKind.wrap_u64]; omega
      clear hc hI hn
      go_wp2_with fail
      refine CB.out.mono ?_
      rintro e w2 ⟨a2, n2, cap2, rfl, hB⟩
      have hn2e : n2 = 8 := by rw [← hB.2.1, bitsL_length]
      subst hn2e
      have HB := Lib.hid hB
      have HI2 := Lib.hid (HI.out.below hB.2.2.2)
      clear hB
      go_wp2_with (at_builtin; refine wpList_append_bo rfl _ _ rfl _ (ofL (l.take k)) rfl HI2.out.1 a2 8 cap2 (bitsL X.toNat 8) rfl HB.out.came (by rw [HI2.out.2.1]; omega) ?_; intro v' w' hr hg hbk; obtain ⟨a', cap', hv', hI3⟩ := BoI.more0 HI2.out hr hg hbk; rw [bitsL_length] at hv' hI3; subst hv'; have HI3 := Lib.hid hI3; clear hr hg hbk hI3)
      go_roundw
      case rel => exact ⟨k + 1, n + 8, a', cap', by omega, by rw [HN.out]; omega, by go_num, rfl, by rw [HS.out]; exact HI3.out⟩
      case measure => simp [intOf]; omega
    · obtain rfl : k = m := by omega
      rw [List.take_of_length_le (by rw [HL.out]; omega)] at HI
      clear hI hn
      go_wp2
      go_ret
      exact ⟨a, n, cap, rfl, HI.out⟩
end Go.Proofs.Ytgfdonmkhmolpaa
