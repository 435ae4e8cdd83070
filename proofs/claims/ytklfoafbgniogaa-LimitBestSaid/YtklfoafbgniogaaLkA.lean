/-
  Package limit: valid, Cost.
-/
import Derived.Test.YtklfoafbgniogaaLmY
import Derived.Test.YtklfoafbgniogaaLmC
namespace Go.Proofs.Ytklfoafbgniogaa
open Go.RowKit Go.Deep
set_option linter.unusedVariables false
set_option linter.unusedSimpArgs false
set_option maxRecDepth 100000

set_option maxHeartbeats 2000000 in
theorem lkValid_any (a : Option Addr) (n cap : Nat) (L : List Int) (w : World) (h : IntsAt w a n cap L) :
    Calls Try.prog 15 #[.slice a n cap] w fun e w' => e = .returned (.bool (mayK L)) ∧ w = w' := by
  have hl : L.length = n := h.1
  have hn : n ≤ 9223372036854775807 := by have := h.2.1; have := h.2.2.1; unfold maxLen at *; omega
  have HL := Lib.hid h
  have H1 := Lib.hid hl
  have HNV := Lib.hid (fun k (hk : k < n) => mayK_bad L k (by rw [hl]; exact hk))
  have HAL := Lib.hid (fun k (hk : k < n) => okK_take L k (by rw [hl]; exact hk))
  have HCH := Lib.hid (show L.all okK = true → mayK L = decide (n ≤ 320) from fun h => by unfold mayK; rw [h, hl]; rfl)
  have HBG := Lib.hid (show 320 < n → mayK L = false from fun h => by unfold mayK; rw [hl, decide_eq_false (by omega), Bool.and_false])
  clear h hl
  by_cases h3 : 320 < n
  · have HR := Lib.hid (HBG.out h3)
    have h3i : (320 : Int) < n := by omega
    clear HNV HAL HCH HBG
    go_enter Try.func15, Try.ntmps15
    go_wp2
    go_ret
    exact ⟨by rw [HR.out]; rfl, rfl⟩
  have h3i : ¬ (320 : Int) < n := by omega
  go_enter Try.func15, Try.ntmps15
  go_wp2
  go_loop [10] (fun i => ∃ k : Nat, k ≤ n ∧ i = .int .i64 k ∧ (L.take k).all okK = true) (fun i => n - (intOf i).toNat)
  case atStart => exact ⟨0, Nat.zero_le _, rfl, rfl⟩
  case round =>
    obtain ⟨k, hk, rfl, hv⟩ := hrel
    have HV := Lib.hid hv
    clear hv
    by_cases hlt : k < n
    · obtain ⟨b, off, rfl, _, hc⟩ := IntsAt.cell HL.out (by omega)
      have x1 := hc k hlt
      have hki : (k : Int) < n := by omega
      have hok := HAL.out k hlt
      have hno := HNV.out k hlt
      clear hc
      generalize L.getD k 0 = z at *
      have HOK := Lib.hid hok
      clear hok HAL HNV HBG HCH
      by_cases hneg : z < 0
      · have HR := Lib.hid (hno (by unfold okK; simp; omega))
        clear hno
        go_wp2
        go_ret
        exact ⟨by rw [HR.out]; rfl, rfl⟩
      · by_cases h15 : 2147483647 < z
        · have HR := Lib.hid (hno (by unfold okK; simp; omega))
          clear hno
          go_wp2
          go_ret
          exact ⟨by rw [HR.out]; rfl, rfl⟩
        · clear hno
          have hok2 : okK z = true := by unfold okK; simp; omega
          have HYV := Lib.hid (show (L.take (k + 1)).all okK = true by rw [HOK.out, HV.out, hok2]; rfl)
          clear hok2 HOK
          go_wp2
          go_round
          case rel => exact ⟨k + 1, by omega, by go_num, HYV.out⟩
          case measure => simp [intOf]; omega
    · obtain rfl : k = n := by omega
      have hki : ¬ (k : Int) < k := by omega
      have HT := Lib.hid (show L.take k = L from List.take_of_length_le (by have := H1.out; omega))
      have hv2 := HV.out
      rw [HT.out] at hv2
      have HD := Lib.hid (show mayK L = true by rw [HCH.out hv2, decide_eq_true (by omega)])
      clear HCH HV hv2 HNV HAL HBG
      go_wp2
      go_ret
      exact ⟨by rw [HD.out]; rfl, rfl⟩

/-! ### Cost -/
def costTo (L M : List Int) (i : Nat) : Nat := ((List.range i).map fun i => (L.getD i 0).toNat * (M.getD i 0).toNat).sum
theorem costTo_succ (L M : List Int) (i : Nat) : costTo L M (i + 1) = costTo L M i + (L.getD i 0).toNat * (M.getD i 0).toNat := by unfold costTo; rw [List.range_succ, List.map_append, List.sum_append]; simp
theorem all_badK (M : List Int) (p : Int → Bool) (k : Nat) (h : k < M.length) (hx : p (M.getD k 0) = false) : M.all p = false := by
  rw [List.all_eq_false]
  refine ⟨M.getD k 0, ?_, by rw [hx]; simp⟩
  rw [List.getD, List.getElem?_eq_getElem h]; exact List.getElem_mem h

set_option maxHeartbeats 4000000 in
theorem limCost_any (a : Option Addr) (n cap : Nat) (L : List Int) (b : Option Addr) (k c : Nat) (M : List Int) (w : World) (h : IntsAt w a n cap L) (h2 : IntsAt w b k c M) :
    Calls Try.prog 12 #[.slice a n cap, .slice b k c] w fun e w' => e = .returned (.tuple #[.int .i64 (costV L M), .int .i64 (costE L M)]) ∧ Below w.heap.size w w' := by
  have hl : L.length = n := h.1
  have hm : M.length = k := h2.1
  have HBAD := Lib.hid (show costOk L M = false → costE L M = 1 ∧ costV L M = 0 from fun h => ⟨by unfold costE; rw [h]; rfl, by unfold costV; rw [h]; rfl⟩)
  have CV := Lib.hid (lkValid_any a n cap L w h)
  have HL := Lib.hid h
  have HM := Lib.hid h2
  have HLL := Lib.hid hl
  have HML := Lib.hid hm
  cases hv : mayK L with
  | false =>
    have HR := Lib.hid (HBAD.out (by unfold costOk; rw [hv]; rfl))
    rw [hv] at CV
    clear hv h h2 hl hm
    go_enter Try.func12, Try.ntmps12
    go_wp2_with fail
    refine CV.out.mono ?_
    rintro e w1 ⟨rfl, rfl⟩
    go_wp2
    go_ret2
    exact ⟨by rw [HR.out.1, HR.out.2]; rfl, Below.refl _ _⟩
  | true =>
    obtain ⟨hn320, hz⟩ := mayK_nats L hv
    have HOK := Lib.hid (show M.all okI = true → n = k → costE L M = 0 ∧ costV L M = (costTo L M k : Nat) from fun ha e => by
      have : costOk L M = true := by unfold costOk; rw [hv, ha, hl, hm, e]; simp
      exact ⟨by unfold costE; rw [this]; rfl, by unfold costV; rw [this, if_pos rfl]; unfold costN costTo; rw [hm]⟩)
    have HNE := Lib.hid (show n ≠ k → costE L M = 1 ∧ costV L M = 0 from fun e => HBAD.out (by unfold costOk; rw [hl, hm, decide_eq_false e]; simp))
    have HNO := Lib.hid (fun i (hi : i < k) (hx : okI (M.getD i 0) = false) => HBAD.out (by unfold costOk; rw [all_badK M okI i (by rw [hm]; exact hi) hx, Bool.and_false]))
    have HAL := Lib.hid (fun i (hi : i < k) => all_take M i (by rw [hm]; exact hi))
    have HZ := Lib.hid (fun i (hi : i < n) => hz (L.getD i 0) (by rw [List.getD, List.getElem?_eq_getElem (by rw [hl]; exact hi)]; exact List.getElem_mem _))
    rw [hv] at CV
    have hn3 : n ≤ 320 := by omega
    clear hv h h2 hl hm hz hn320 HBAD
    by_cases hnk : n = k
    · subst hnk
      have hnn : ((n : Int) == n) = true := beq_self_eq_true _
      have HOK2 := Lib.hid (fun ha => HOK.out ha rfl)
      clear HOK
      have HCS := Lib.hid (costTo_succ L M)
      have HT0 := Lib.hid (show (M.take 0).all okI = true from rfl)
      have HC0 := Lib.hid (show costTo L M 0 ≤ 0 * 32212254705 by rw [Nat.zero_mul]; exact Nat.le_of_eq (by simp [costTo]))
      go_enter Try.func12, Try.ntmps12
      go_wp2_with fail
      refine CV.out.mono ?_
      rintro e w1 ⟨rfl, rfl⟩
      go_wp2
      go_loop [6, 21] (fun sc si => ∃ i : Nat, i ≤ n ∧ si = .int .i64 (i : Int) ∧ sc = .int .i64 (costTo L M i : Nat) ∧ costTo L M i ≤ i * 32212254705 ∧ (M.take i).all okI = true) (fun _ si => n - (intOf si).toNat)
      case atStart => exact ⟨0, Nat.zero_le _, rfl, rfl, HC0.out, HT0.out⟩
      case round =>
        obtain ⟨i, hi, rfl, rfl, hco, hall⟩ := hrel
        have HA := Lib.hid hall
        clear hall
        by_cases hlt : i < n
        · have hii : (i : Int) < n := by omega
          obtain ⟨b1, o1, rfl, _, hc1⟩ := IntsAt.cell HL.out (by omega)
          obtain ⟨b2, o2, rfl, _, hc2⟩ := IntsAt.cell HM.out (by omega)
          have x1 := hc1 i hlt
          have x2 := hc2 i hlt
          have hz1 := HZ.out i hlt
          have hno := HNO.out i hlt
          have hal := HAL.out i hlt
          have hcs := HCS.out i
          clear hc1 hc2
          have hs : costTo L M i ≤ 10307921505600 := by have := Nat.mul_le_mul_right 32212254705 hi; omega
          generalize L.getD i 0 = x at *
          generalize M.getD i 0 = y at *
          generalize costTo L M i = s at *
          have HNO2 := Lib.hid hno
          have HAL2 := Lib.hid hal
          clear hno hal HNO HAL
          by_cases hneg : y < 0
          · have HR := Lib.hid (HNO2.out (by unfold okI; simp; omega))
            go_wp2
            go_ret2
            exact ⟨by rw [HR.out.1, HR.out.2]; rfl, Below.refl _ _⟩
          by_cases h15 : 15 < y
          · have HR := Lib.hid (HNO2.out (by unfold okI; simp; omega))
            go_wp2
            go_ret2
            exact ⟨by rw [HR.out.1, HR.out.2]; rfl, Below.refl _ _⟩
          have HA2 := Lib.hid (show (M.take (i + 1)).all okI = true by rw [HAL2.out, HA.out]; unfold okI; simp; omega)
          obtain ⟨X, rfl⟩ : ∃ X : Nat, x = X := ⟨x.toNat, by omega⟩
          obtain ⟨Y, rfl⟩ : ∃ Y : Nat, y = Y := ⟨y.toNat, by omega⟩
          rw [Int.toNat_natCast, Int.toNat_natCast] at hcs
          have hp : X * Y ≤ 2147483647 * 15 := Nat.mul_le_mul (by omega) (by omega)
          obtain ⟨z, hz⟩ : ∃ z, z = X * Y := ⟨_, rfl⟩
          rw [← hz] at hp hcs
          have hp2 : z ≤ 32212254705 := by omega
          have e1 : IntKind.i64.wrap ((X : Int) * (Y : Int)) = (z : Int) := by rw [IntWalk.i64_in _ (by rw [← Int.natCast_mul, ← hz]; omega), hz, Int.natCast_mul]
          have HCO := Lib.hid (show costTo L M (i + 1) ≤ (i + 1) * 32212254705 by rw [hcs, Nat.add_mul]; omega)
          have HCE := Lib.hid hcs
          clear hcs HNO2 HAL2 hco hz hp
          go_wp2
          go_round
          case rel => exact ⟨i + 1, by omega, by go_num, by rw [HCE.out]; go_num, HCO.out, HA2.out⟩
          case measure => simp [intOf]; omega
        · obtain rfl : i = n := by omega
          have hii : ¬ (i : Int) < i := by omega
          have hv2 := HA.out
          rw [List.take_of_length_le (by rw [HML.out]; exact Nat.le_refl _)] at hv2
          have HR := Lib.hid (HOK2.out hv2)
          clear hv2
          go_wp2
          go_ret2
          exact ⟨by rw [HR.out.1, HR.out.2]; rfl, Below.refl _ _⟩
    · have HR := Lib.hid (HNE.out hnk)
      have hnn : ((k : Int) == n) = false := by rw [beq_eq_false_iff_ne]; omega
      clear HNE
      go_enter Try.func12, Try.ntmps12
      go_wp2_with fail
      refine CV.out.mono ?_
      rintro e w1 ⟨rfl, rfl⟩
      go_wp2
      go_ret2
      exact ⟨by rw [HR.out.1, HR.out.2]; rfl, Below.refl _ _⟩
end Go.Proofs.Ytklfoafbgniogaa
