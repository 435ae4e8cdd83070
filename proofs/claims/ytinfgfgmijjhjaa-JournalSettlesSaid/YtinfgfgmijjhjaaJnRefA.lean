/-
  The document's answer for layer 4: May, Head.
-/
import Derived.Test.YtinfgfgmijjhjaaJnJ
import Derived.Test.YtinfgfgmijjhjaaRefCrc
import Derived.Test.YtinfgfgmijjhjaaRefOct
namespace Go.Proofs.Ytinfgfgmijjhjaa
open Go.RowKit
set_option linter.unusedVariables false
set_option linter.unusedSimpArgs false

theorem hasAt_none (M : List PutM) (x : Int) (k : Nat) (hk : k ≤ M.length) (h : ∀ j, j < k → (M.getD j default).at_ ≠ x) : hasAt (M.take k) x = false := by
  unfold hasAt
  rw [List.any_eq_false]
  intro q hq
  obtain ⟨j, hj⟩ := List.mem_iff_getElem?.1 hq
  have hjk : j < k := by
    have := (List.getElem?_eq_some_iff.1 hj).1
    simp at this; omega
  rw [List.getElem?_take_of_lt hjk] at hj
  have := h j hjk
  rw [List.getD, hj] at this
  simpa using this
theorem hasAt_some (M : List PutM) (x : Int) (k j : Nat) (hk : k ≤ M.length) (hj : j < k) (h : (M.getD j default).at_ = x) : hasAt (M.take k) x = true := by
  unfold hasAt
  rw [List.any_eq_true]
  refine ⟨M.getD j default, ?_, by simpa using h⟩
  rw [List.mem_iff_getElem?]
  exact ⟨j, by rw [List.getElem?_take_of_lt hj, List.getD, List.getElem?_eq_getElem (by omega)]; rfl⟩

set_option maxHeartbeats 4000000 in
set_option maxRecDepth 100000 in
theorem rmay_any (U : Nat → Prop) (a : Option Addr) (n cap : Nat) (M : List PutM) (size : Int) (w : World) (h : PutsIn w U a n cap M) :
    Calls Try.prog 9 #[.slice a n cap, .int .i64 size] w fun e w' => e = .returned (.bool (mayB (M.map PutM.pt) size)) ∧ Below w.heap.size w w' := by
  have hn := h.len
  have hlen : (M.map PutM.pt).length = n := by rw [List.length_map, h.mlen]
  have HP := Lib.hid h
  have HL := Lib.hid hlen
  have HML := Lib.hid h.mlen
  clear h hlen
  go_enter Try.func9, Try.ntmps9
  go_wp2
  go_loopw [5] (fun i wr => ∃ k : Nat, k ≤ n ∧ i = .int .i64 k ∧ Below w.heap.size w wr ∧ ∀ j, j < k → okAt (M.map PutM.pt) size j = true) (fun i _ => n - (intOf i).toNat)
  case atStart => exact ⟨0, Nat.zero_le _, rfl, Below.refl _ _, fun j hj => by omega⟩
  case round =>
    obtain ⟨k, hk, rfl, hb, hok⟩ := hrel
    have HB := Lib.hid hb
    have HOK := Lib.hid hok
    clear hb hok
    by_cases hlt : k < n
    · have hlk : k < M.length := by rw [HML.out]; exact hlt
      have hoM := okAt_M M size k hlk
      obtain ⟨b, off, rfl, hUb, hcell⟩ := HP.out.at (by omega)
      have HC := Lib.hid hcell
      have HBLT := Lib.hid (HP.out.lt b hUb)
      have cellB : ∀ (u : World) (hbu : Below w.heap.size w u) (j : Nat), j < n → u.cell? ⟨b, off + j * 2, none⟩ = some (.int .i64 (M.getD j default).at_) := fun u hbu j hj => by
        have := (HC.out j hj).1
        rw [hbu.cell (p := ⟨b, off + j * 2, none⟩) HBLT.out]
        exact this
      have HCB := Lib.hid cellB
      obtain ⟨_, q1, _⟩ := hcell k hlt
      have c0 := HCB.out wr HB.out k hlt
      have c1 : wr.cell? ⟨b, off + k * 2 + 1, none⟩ = some (.slice (M.getD k default).a (M.getD k default).n (M.getD k default).cap) := by
        rw [HB.out.cell (p := ⟨b, off + k * 2 + 1, none⟩) HBLT.out]; exact q1
      have hbl := (HP.out.bytes _ (HP.out.mem k hlt)).1
      have hki : (k : Int) < (n : Int) := by omega
      have hall : ∀ bb : Bool, okAt (M.map PutM.pt) size k = bb → (bb = true → ∀ j, j < k + 1 → okAt (M.map PutM.pt) size j = true) ∧ (bb = false → mayB (M.map PutM.pt) size = false) := fun bb hbb => by
        refine ⟨fun hbt j hj => ?_, fun hbf => may_not _ _ fun hh => ?_⟩
        · by_cases hjk : j = k
          · subst hjk; rw [hbb, hbt]
          · exact HOK.out j (by omega)
        · have := hh.2.2 k (by rw [HL.out]; exact hlt)
          rw [hbb, hbf] at this; cases this
      rw [hoM] at hall
      obtain ⟨x, hx⟩ : ∃ x, M.getD k default = x := ⟨_, rfl⟩
      rw [hx] at c0 c1 hbl hall
      obtain ⟨xi, xa, xn, xc, xb⟩ := x
      dsimp only at c0 c1 hbl hall
      subst hbl
      have HX := Lib.hid hx
      have HA := Lib.hid (hall _ rfl)
      clear hall hoM hcell cellB q1 HC hx
      by_cases d1 : 41 ≤ xi
      · by_cases d2 : xi < size
        · by_cases d3 : xb.length = 128
          · have d4 : ((xb.length : Int) == 128) = true := by simp; omega
            have d5 : ((xb.length : Int) != 128) = false := by simp; omega
            have d6 : decide (xi < 41) = false := by simp; omega
            have d7 : decide (size ≤ xi) = false := by simp; omega
            have HA2 := Lib.hid (show (hasAt (M.take k) xi = false → ∀ j, j < k + 1 → okAt (M.map PutM.pt) size j = true) ∧ (hasAt (M.take k) xi = true → mayB (M.map PutM.pt) size = false) from
              ⟨fun hf => HA.out.1 (by simp only [hf]; simp [d1, d2, d3]), fun hf => HA.out.2 (by simp only [hf]; simp)⟩)
            have HBW := Lib.hid HB.out
            clear HA d3
            go_wp2
            obtain ⟨wo, rfl⟩ : ∃ wo : World, wo = wr := ⟨_, rfl⟩
            clear c0 c1 d4 d5 d6 d7
            go_loopw [6] (fun i wr => ∃ j : Nat, j ≤ k ∧ i = .int .i64 j ∧ Below w.heap.size w wr ∧ ∀ q, q < j → (M.getD q default).at_ ≠ xi) (fun i _ => k - (intOf i).toNat)
            case atStart => exact ⟨0, Nat.zero_le _, rfl, HB.out, fun q hq => by omega⟩
            case round =>
              obtain ⟨j, hj, rfl, hbj, hne⟩ := hrel
              have HBJ := Lib.hid hbj
              have HNE := Lib.hid hne
              clear hbj hne
              by_cases hjk : j < k
              · have e0 := HCB.out wr.drew HBJ.out.drew j (by omega)
                have e1 := HCB.out wr.drew HBJ.out.drew k hlt
                rw [HX.out] at e1
                dsimp only at e1
                have HYS := Lib.hid (fun (h : (M.getD j default).at_ = xi) => hasAt_some M xi k j (by omega) hjk h)
                have HNX := Lib.hid (fun (h : (M.getD j default).at_ ≠ xi) => (fun q hq => by
                  by_cases hqj : q = j
                  · subst hqj; exact h
                  · exact HNE.out q (by omega) : ∀ q, q < j + 1 → (M.getD q default).at_ ≠ xi))
                have hji : (j : Int) < (k : Int) := by omega
                have hjn : (j : Int) < (n : Int) := by omega
                generalize (M.getD j default).at_ = y at *
                by_cases hy : y = xi
                · have HF := Lib.hid (HA2.out.2 (HYS.out hy))
                  have hy0 : (y == xi) = true := by simpa using hy
                  clear hy HYS HNX
                  go_wp2_with fail
                  refine region_head 11 [0, 1, 2, 3, 4, 5, 6, 7, 8, 9, 10] [] (fun u => u.cell? ⟨b, off + j * 2, none⟩ = some (.int .i64 y) ∧ u.cell? ⟨b, off + k * 2, none⟩ = some (.int .i64 xi)) (by kernel_rfl) (by kernel_rfl) ⟨e0, e1⟩ ?_
                  clear e0 e1
                  simp only [pickO, List.append_eq, List.cons_append, List.nil_append, List.filterMap_cons, List.filterMap_nil, List.getElem?_cons_zero, List.getElem?_cons_succ, Option.map_some, List.drop_succ_cons, List.drop_zero]
                  iterate 11
                    refine seqH_readG _ rfl (by rfl) (by rintro u ⟨hu1, hu2⟩; go_simp; with_reducible rfl) ?_
                    try simp only [Act.put, List.setIfInBounds_toArray, List.set_cons_zero, List.set_cons_succ]
                  refine seqH_nil ?_
                  go_wp2
                  go_ret
                  rw [HF.out]
                  exact ⟨rfl, HBJ.out.drew⟩
                · have HN := Lib.hid (HNX.out hy)
                  have hy0 : (y == xi) = false := by simpa using hy
                  clear hy HYS HNX
                  go_wp2_with fail
                  refine region_head 11 [0, 1, 2, 3, 4, 5, 6, 7, 8, 9, 10] [] (fun u => u.cell? ⟨b, off + j * 2, none⟩ = some (.int .i64 y) ∧ u.cell? ⟨b, off + k * 2, none⟩ = some (.int .i64 xi)) (by kernel_rfl) (by kernel_rfl) ⟨e0, e1⟩ ?_
                  clear e0 e1
                  simp only [pickO, List.append_eq, List.cons_append, List.nil_append, List.filterMap_cons, List.filterMap_nil, List.getElem?_cons_zero, List.getElem?_cons_succ, Option.map_some, List.drop_succ_cons, List.drop_zero]
                  iterate 11
                    refine seqH_readG _ rfl (by rfl) (by rintro u ⟨hu1, hu2⟩; go_simp; with_reducible rfl) ?_
                    try simp only [Act.put, List.setIfInBounds_toArray, List.set_cons_zero, List.set_cons_succ]
                  refine seqH_nil ?_
                  go_wp2
                  go_roundw
                  case rel => exact ⟨j + 1, by omega, by go_num, HBJ.out.drew, HN.out⟩
                  case measure => simp [intOf]; omega
              · obtain rfl : j = k := by omega
                have HT := Lib.hid (HA2.out.1 (hasAt_none M xi j (by omega) HNE.out))
                go_wp2
                go_roundw
                case rel => exact ⟨j + 1, by omega, by go_num, HBJ.out, HT.out⟩
                case measure => simp [intOf]; omega
          · have HF := Lib.hid (HA.out.2 (by simp [d3]))
            have d4 : ((xb.length : Int) == 128) = false := by simp; omega
            have d5 : ((xb.length : Int) != 128) = true := by simp; omega
            have d6 : decide (xi < 41) = false := by simp; omega
            have d7 : decide (size ≤ xi) = false := by simp; omega
            clear HA d3
            go_wp2
            go_ret
            rw [HF.out]
            exact ⟨rfl, HB.out⟩
        · have HF := Lib.hid (HA.out.2 (by simp [d2]))
          have d6 : decide (xi < 41) = false := by simp; omega
          have d7 : decide (size ≤ xi) = true := by simp; omega
          clear HA
          go_wp2
          go_ret
          rw [HF.out]
          exact ⟨rfl, HB.out⟩
      · have HF := Lib.hid (HA.out.2 (by simp [d1]))
        have d6 : decide (xi < 41) = true := by simp; omega
        clear HA
        go_wp2
        go_ret
        rw [HF.out]
        exact ⟨rfl, HB.out⟩
    · obtain rfl : k = n := by omega
      by_cases h1 : 1 ≤ k
      · by_cases h2 : k ≤ 40
        · have HT := Lib.hid (may_of_all (M.map PutM.pt) size (by rw [HL.out]; exact h1) (by rw [HL.out]; exact h2) (by rw [HL.out]; exact HOK.out))
          have e1 : (1 : Int) ≤ (k : Int) := by omega
          have e2 : (k : Int) ≤ 40 := by omega
          go_wp2
          go_ret
          rw [HT.out]
          exact ⟨rfl, HB.out⟩
        · have HF := Lib.hid (may_not (M.map PutM.pt) size (by rw [HL.out]; omega))
          have e1 : (1 : Int) ≤ (k : Int) := by omega
          have e2 : decide ((k : Int) ≤ 40) = false := by simp; omega
          go_wp2
          go_ret
          rw [HF.out]
          exact ⟨rfl, HB.out⟩
      · have HF := Lib.hid (may_not (M.map PutM.pt) size (by rw [HL.out]; omega))
        obtain rfl : k = 0 := by omega
        go_wp2
        go_ret
        rw [HF.out]
        exact ⟨rfl, HB.out⟩

end Go.Proofs.Ytinfgfgmijjhjaa
