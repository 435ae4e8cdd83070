/-
  The document's own answer of layer 2: Go, Sum, Seal.
-/
import Derived.Test.YtflboggjbjfkjaaCrcC
namespace Go.Proofs.Ytflboggjbjfkjaa
open Go.RowKit
set_option linter.unusedVariables false
set_option linter.unusedSimpArgs false

theorem xor_octet (u o : Nat) (hu : u < 4294967296) (ho : o < 256) : bits .xor .u32 (u : Int) (o : Int) = ((u ^^^ o : Nat) : Int) := u32_xor_nat _ _ hu (by omega)

theorem step_odd (v : Nat) (hv : v < 4294967296) (h : v % 2 = 1) : bits .xor .u32 ((v : Int) / 2) 3988292384 = ((step v : Nat) : Int) := by
  have e : (v : Int) / 2 = ((v / 2 : Nat) : Int) := by simp
  have := u32_xor_nat (v / 2) 3988292384 (by omega) (by omega)
  unfold step poly
  rw [if_pos h, e]
  exact this
theorem step_even (v : Nat) (h : ¬ v % 2 = 1) : ((v : Int) / 2) = ((step v : Nat) : Int) := by
  unfold step
  rw [if_neg h]; simp

set_option maxHeartbeats 1000000 in
set_option maxRecDepth 100000 in
theorem rgo_any (s : Nat) (a : Option Addr) (n cap : Nat) (l : List UInt8) (w : World) (hs : s < 4294967296) (hl : BytesAt w a n cap l) :
    Calls Try.prog 61 #[.int .u32 s, .slice a n cap] w fun e w' => e = .returned (.int .u32 (goL s l : Nat)) ∧ w = w' := by
  have HL := Lib.hid hl
  clear hl
  have hn : n ≤ 9223372036854775807 := by have h1 := HL.out.2.1; have h2 := HL.out.2.2.1; unfold maxLen at h2; omega
  go_enter Try.func61, Try.ntmps61
  go_wp2
  go_loop [0, 5] (fun x i => ∃ k u : Nat, k ≤ n ∧ i = .int .i64 k ∧ x = .int .u32 u ∧ u < 4294967296 ∧ u = goL s (l.take k)) (fun _ i => n - (intOf i).toNat)
  case atStart => exact ⟨0, s, by omega, rfl, rfl, hs, by simp [goL_nil]⟩
  case round =>
    obtain ⟨k, u, hk, rfl, rfl, hu, hus⟩ := hrel
    have HS := Lib.hid hus
    clear hus
    by_cases hlt : k < n
    · obtain ⟨b, off, rfl, hc⟩ := HL.out.at (by omega)
      have hck := hc k hlt
      clear hc
      have ho : (l.getD k 0).toNat < 256 := (l.getD k 0).toNat_lt
      have hgo := goL_take l k s (by rw [HL.out.1]; exact hlt)
      rw [← HS.out] at hgo
      have HGO := Lib.hid hgo
      clear hgo
      generalize (l.getD k 0).toNat = o at *
      have hx := xor_octet u o hu ho
      have hxl : u ^^^ o < 4294967296 := Nat.xor_lt_two_pow (n := 32) (by omega) (by omega)
      go_wp2
      clear hx
      generalize u ^^^ o = x at *
      go_loop [0, 6] (fun y j => ∃ q v : Nat, q ≤ 8 ∧ j = .int .i64 q ∧ y = .int .u32 v ∧ v < 4294967296 ∧ steps (8 - q) v = steps 8 x) (fun _ j => 8 - (intOf j).toNat)
      case atStart => exact ⟨0, x, by omega, rfl, rfl, hxl, rfl⟩
      case round =>
        obtain ⟨q, v, hq, rfl, rfl, hv, hvs⟩ := hrel
        have HV := Lib.hid hvs
        clear hvs
        by_cases hq8 : q < 8
        · have h8 : 8 - q = (8 - (q + 1)) + 1 := by omega
          have H8 := Lib.hid h8
          clear h8
          by_cases hodd : v % 2 = 1
          · have hb : ((v : Int) % 2 == 1) = true := by simp; omega
            have HI := Lib.hid (step_odd v hv hodd)
            clear hodd
            go_wp2
            go_round
            case rel => exact ⟨q + 1, step v, by omega, by go_num, congrArg _ HI.out, step_lt v hv, by rw [← HV.out, H8.out]; rfl⟩
            case measure => simp [intOf]; omega
          · have hb : ((v : Int) % 2 == 1) = false := by simp; omega
            have HI := Lib.hid (step_even v hodd)
            clear hodd
            go_wp2
            go_round
            case rel => exact ⟨q + 1, step v, by omega, by go_num, congrArg _ HI.out, step_lt v hv, by rw [← HV.out, H8.out]; rfl⟩
            case measure => simp [intOf]; omega
        · obtain rfl : q = 8 := by omega
          have hvx : v = steps 8 x := by rw [← HV.out]; rfl
          have HVX := Lib.hid hvx
          clear hvx
          go_wp2
          go_round
          case rel => exact ⟨k + 1, v, by omega, by go_num, rfl, hv, by rw [HVX.out, HGO.out]⟩
          case measure => simp [intOf]; omega
    · obtain rfl : k = n := by omega
      have hfin : u = goL s l := by rw [HS.out, List.take_of_length_le (Nat.le_of_eq HL.out.1)]
      have HF := Lib.hid hfin
      clear hfin
      go_wp2
      go_ret
      exact ⟨ret_int (congrArg (fun x : Nat => (x : Int)) HF.out), rfl⟩

theorem rsum_any (a : Option Addr) (n cap : Nat) (l : List UInt8) (w : World) (hl : BytesAt w a n cap l) :
    Calls Try.prog 55 #[.slice a n cap] w fun e w' => e = .returned (.int .u32 (sumL l : Nat)) ∧ w = w' := by
  have HG := Lib.hid (rgo_any 4294967295 a n cap l w (by omega) hl)
  have hlt := goL_lt l 4294967295 (by omega)
  have hs : (4294967295 : Int) - (goL 4294967295 l : Nat) = ((sumL l : Nat) : Int) := by unfold sumL ones; omega
  have HS := Lib.hid hs
  clear hs hl
  generalize goL 4294967295 l = g at *
  go_enter Try.func55, Try.ntmps55
  go_wp2_with (go_at_call 61; refine (HG.out).mono ?_; rintro e w1 ⟨rfl, rfl⟩)
  go_ret
  exact ⟨ret_int HS.out, rfl⟩

theorem blk_at (w : World) (cs : Array Value) (t : TypeId) (n : Nat) (q : List UInt8) (h : cs.toList = vals q) (hn : q.length = n) (hm : n ≤ maxLen) :
    BytesAt (w.alloc (.cells cs t)) (some ⟨w.heap.size, 0, none⟩) n n q :=
  BytesAt.of_cells hn (Nat.le_refl _) hm fun i hi => by
    rw [Nat.zero_add, cell_of_row _ _ i _ _ _ (heap_alloc_new w _), ← Array.getElem?_toList, h, vals_at _ _ (by omega)]

theorem ba_app (s t : List UInt8) : (⟨s.toArray⟩ : ByteArray) ++ ⟨t.toArray⟩ = ⟨(s ++ t).toArray⟩ := by
  apply ByteArray.ext
  rw [ByteArray.data_append]
  simp

theorem rseal_any (a : Option Addr) (n cap : Nat) (l : List UInt8) (w : World) (hl : BytesAt w a n cap l) (hn : n ≤ 140737488355320) :
    Calls Try.prog 36 #[.slice a n cap] w fun e w' => e = .returned (.string ⟨(sealL l).toArray⟩) ∧ Below w.heap.size w w' := by
  have HS := Lib.hid (rsum_any a n cap l w hl)
  have hlt := sumL_lt l
  have hconv := hl.conv
  have hlen : l.length + (leB 4 (sumL l)).length ≤ 9223372036854775807 := by rw [hl.1, leB_length]; omega
  have hmk := (blk_at w (markV (sumL l)) 5 4 (leB 4 (sumL l)) (mark_vals l) (leB_length _ _) (by unfold maxLen; omega)).conv
  unfold markV at hmk
  go_enter Try.func36, Try.ntmps36
  go_wp2_with (go_at_call 55; refine (HS.out).mono ?_; rintro e w1 ⟨rfl, rfl⟩)
  go_ret
  exact ⟨congrArg (fun b => Ending.returned (.string b)) (ba_app l (leB 4 (sumL l))), (Below.refl _ _).alloc (Nat.le_refl _) _⟩

end Go.Proofs.Ytflboggjbjfkjaa
