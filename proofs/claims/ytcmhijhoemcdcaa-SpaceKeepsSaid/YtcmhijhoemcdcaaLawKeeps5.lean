/-
  What is taken was free, and is used then; nothing else changes; given back all is as it was (P5.4).
  No condition: every space, every number, every page.
-/
import Derived.Test.YtcmhijhoemcdcaaSpM
import Derived.Deep.DeepCutAuto
namespace Go.Proofs.Ytcmhijhoemcdcaa.spaceKeeps
open Go.ChangeShapes Go.WideShapes Go.ChangeAt Go.RowKit
set_option linter.unusedVariables false
set_option linter.unusedSimpArgs false

/-! ### what is taken -/
section
variable (F : List Bool) (K : Nat)
theorem kp_len (hK : K ≤ (frees F).length) : ((frees F).take K).length = K := by simp; omega
theorem kp_mem (p : Nat) (h : p ∈ (frees F).take K) : p < F.length ∧ F.getD p false = false ∧ (markF F ((frees F).take K)).getD p false = true := by
  obtain ⟨h1, h2⟩ := (frees_mem F p).1 (List.mem_of_mem_take h)
  refine ⟨h1, h2, ?_⟩
  rw [markF_getD]
  simp [h, h1]
theorem kp_at (hK : K ≤ (frees F).length) (i : Nat) (hi : i < K) : ((frees F).take K).getD i 0 ∈ (frees F).take K := by
  have hl := kp_len F K hK
  rw [List.getD, List.getElem?_eq_getElem (by omega)]
  exact List.getElem_mem _
theorem kp_up (hK : K ≤ (frees F).length) (i : Nat) (hi : i + 1 < K) : ((frees F).take K).getD i 0 < ((frees F).take K).getD (i + 1) 0 := by
  have hl := kp_len F K hK
  have hs : ((frees F).take K).Pairwise (· < ·) := (frees_sorted F).sublist (List.take_sublist _ _)
  have := List.pairwise_iff_getElem.1 hs i (i + 1) (by omega) (by omega) (by omega)
  simpa [List.getD, List.getElem?_eq_getElem (show i < ((frees F).take K).length by omega), List.getElem?_eq_getElem (show i + 1 < ((frees F).take K).length by omega)] using this
theorem kp_back : turnF true 6 (markF F ((frees F).take K)) (((frees F).take K).map Int.ofNat) = (some F, 0) := by
  rw [turn_back 6 _ _ ((frees_nodup F).sublist (List.take_sublist _ _)) fun p hp => ⟨by rw [markF_len]; exact (kp_mem F K p hp).1, (kp_mem F K p hp).2.2⟩,
    clear_mark F _ fun p hp => (kp_mem F K p hp).2.1]
theorem kp_count (hK : K ≤ (frees F).length) : (markF F ((frees F).take K)).count true = F.count true + K := by
  have h1 := frees_count F
  have h2 := frees_count (markF F ((frees F).take K))
  rw [frees_rest, markF_len, List.length_drop] at h2
  omega
theorem kp_used (pp : Int) : (decide (0 ≤ pp) && (markF F ((frees F).take K)).getD pp.toNat false) = ((decide (0 ≤ pp) && F.getD pp.toNat false) || decide (pp ∈ ((frees F).take K).map Int.ofNat)) := by
  by_cases h : 0 ≤ pp
  · obtain ⟨q, rfl⟩ := Int.eq_ofNat_of_zero_le h
    rw [Int.toNat_natCast, markF_getD]
    have : decide ((q : Int) ∈ ((frees F).take K).map Int.ofNat) = (decide (q ∈ (frees F).take K) && decide (q < F.length)) := by
      by_cases hq : q ∈ (frees F).take K
      · have := (kp_mem F K q hq).1
        rw [decide_eq_true (List.mem_map.2 ⟨q, hq, rfl⟩ : (q : Int) ∈ ((frees F).take K).map Int.ofNat)]
        simp [hq, this]
      · have h2 : ¬ (q : Int) ∈ ((frees F).take K).map Int.ofNat := by
          intro hm
          obtain ⟨r, hr, he⟩ := List.mem_map.1 hm
          have he' : (r : Int) = (q : Int) := he
          have : r = q := by omega
          exact hq (this ▸ hr)
        rw [decide_eq_false h2]
        simp [hq]
    rw [this]
    simp
  · have h2 : ¬ pp ∈ ((frees F).take K).map Int.ofNat := by
      intro hm
      obtain ⟨r, hr, he⟩ := List.mem_map.1 hm
      simp at he
      omega
    rw [decide_eq_false h2, decide_eq_false h]
    rfl
end
def tk (P : List Nat) (pp : Int) (i : Nat) : Bool := decide (pp ∈ (P.take i).map Int.ofNat)
theorem tk_zero (P : List Nat) (pp : Int) : tk P pp 0 = false := by simp [tk]
theorem tk_succ (P : List Nat) (pp : Int) (i : Nat) (h : i < P.length) : tk P pp (i + 1) = (tk P pp i || (((P.getD i 0 : Nat) : Int) == pp)) := by
  unfold tk
  rw [List.take_add_one, List.getElem?_eq_getElem h, List.getD, List.getElem?_eq_getElem h]
  simp only [Option.toList_some, List.map_append, List.map_cons, List.map_nil, List.mem_append, List.mem_singleton, Option.getD_some]
  rw [Bool.eq_iff_iff]
  simp only [decide_eq_true_eq, Bool.or_eq_true, beq_iff_eq]
  constructor
  · rintro (h | h)
    · exact .inl h
    · exact .inr h.symm
  · rintro (h | h)
    · exact .inl h
    · exact .inr h.symm
theorem tk_all (P : List Nat) (pp : Int) (K : Nat) (h : P.length = K) : tk P pp K = decide (pp ∈ P.map Int.ofNat) := by
  unfold tk
  rw [List.take_of_length_le (by omega)]
theorem ints_cell {w : World} {b off n cap : Nat} {P : List Nat} (h : IntsAt w (some ⟨b, off, none⟩) n cap (P.map Int.ofNat)) (i : Nat) (hi : i < n) : w.cell? ⟨b, off + i, none⟩ = some (.int .i64 ((P.getD i 0 : Nat) : Int)) := by
  obtain ⟨b', off', he, _, hc⟩ := IntsAt.cell h (by omega)
  simp only [Option.some.injEq, Addr.mk.injEq, and_true] at he
  obtain ⟨rfl, rfl⟩ := he
  have hl : P.length = n := by have := h.1; simpa using this
  have := hc i hi
  rw [this, List.getD, List.getD, List.getElem?_map, List.getElem?_eq_getElem (by omega)]
  rfl
/-- what is not taken -/
theorem take_bad {N : Int} {l : List UInt8} {k : Int} (h : ¬ (mayS N l = true ∧ 0 ≤ k ∧ k ≤ ((frees (FU N l)).length : Int))) : ∃ e, takeU N l k = ([], [], e) ∧ e ≠ 0 := by
  unfold takeU
  cases hm : mayS N l with
  | false => exact ⟨1, by simp, by decide⟩
  | true =>
    have hf : FU N l = flagsL N.toNat l := by simp [FU, hm]
    rw [hf] at h
    rw [if_pos rfl]
    unfold takeR
    by_cases hk : k < 0
    · exact ⟨1, by rw [if_pos hk], by decide⟩
    · refine ⟨5, by rw [if_neg hk, if_pos]; exact Int.not_le.1 fun hh => h ⟨hm, by omega, hh⟩, by decide⟩
theorem take_good {u : World} {a : Option Addr} {n cap : Nat} {F : List Bool} (h : SpAt u F.length a n cap F) (K : Nat) (hK : K ≤ (frees F).length) :
    Calls Try.prog 18 #[.agg #[.int .i64 F.length, .slice a n cap], .int .i64 K] u (fun e w' => ∃ a n cap a' cap', e = .returned (.tuple #[.agg #[.int .i64 F.length, .slice a n cap], .slice a' K cap', .int .i64 0]) ∧
      SpAt w' F.length a n cap (markF F ((frees F).take K)) ∧ IntsAt w' a' K cap' (((frees F).take K).map Int.ofNat) ∧ Below u.heap.size u w') := by
  refine (take_at h (K : Int)).mono ?_
  have hr : takeR F (K : Int) = (markF F ((frees F).take K), (frees F).take K, 0) := by rw [takeR, if_neg (by omega), if_neg (by omega), Int.toNat_natCast]
  rintro e w' ⟨a, n, cap, a', cap', rfl, h1, h2, hb⟩
  rw [hr] at h1 h2 ⊢
  simp only [markF_len] at h1 h2 ⊢
  rw [kp_len F K hK] at h2 ⊢
  exact ⟨a, n, cap, a', cap', rfl, h1, h2, hb⟩
theorem count_at {u : World} {N : Int} {a : Option Addr} {n cap : Nat} {F : List Bool} (h : SpAt u N a n cap F) : Calls Try.prog 13 #[.agg #[.int .i64 N, .slice a n cap]] u fun e w' => e = .returned (.int .i64 (F.count true : Nat)) ∧ Below u.heap.size u w' := count_ok N a n cap F u h
theorem count_as {u : World} {N : Int} {a : Option Addr} {n cap : Nat} {F1 F : List Bool} {K : Nat} (h : SpAt u N a n cap F1) (hc : F1.count true = F.count true + K) :
    Calls Try.prog 13 #[.agg #[.int .i64 N, .slice a n cap]] u fun e w' => e = .returned (.int .i64 (((F.count true : Nat) : Int) + (K : Int))) ∧ Below u.heap.size u w' := by
  have := count_at h
  rw [hc, Int.natCast_add] at this
  exact this
theorem used_as {u : World} {N : Int} {a : Option Addr} {n cap : Nat} {F1 : List Bool} (h : SpAt u N a n cap F1) (pp : Int) {b : Bool} (hb : (decide (0 ≤ pp) && F1.getD pp.toNat false) = b) :
    Calls Try.prog 14 #[.agg #[.int .i64 N, .slice a n cap], .int .i64 pp] u fun e w' => e = .returned (.bool b) ∧ Below u.heap.size u w' := by
  have := used_at h pp
  rw [hb] at this
  exact this
theorem used_rd {u : World} {N : Int} {a : Option Addr} {n cap : Nat} {F : List Bool} (h : SpAt u N a n cap F) (q : Nat) {b : Bool} (hq : F.getD q false = b) :
    Calls Try.prog 14 #[.agg #[.int .i64 N, .slice a n cap], .int .i64 (q : Int)] u fun e w' => e = .returned (.bool b) ∧ Below u.heap.size u w' := by
  have := used_at h (q : Int)
  rw [Int.toNat_natCast, hq, decide_eq_true (show (0 : Int) ≤ (q : Int) by omega), Bool.true_and] at this
  exact this
theorem same_sp {u : World} {N : Int} {F : List Bool} {a a' : Option Addr} {n cap n' cap' : Nat} (h : SpAt u N a n cap F) (h' : SpAt u N a' n' cap' F) :
    Calls Try.prog 9 #[.agg #[.int .i64 N, .slice a n cap], .agg #[.int .i64 N, .slice a' n' cap']] u fun e w' => e = .returned (.bool true) ∧ Below u.heap.size u w' := by
  have := rsame_any N N a a' n cap n' cap' _ _ u h.oct h'.oct
  rw [decide_eq_true rfl, beq_self_eq_true] at this
  exact this

set_option maxRecDepth 100000 in
set_option maxHeartbeats 8000000 in
theorem core (N : Int) (a : Option Addr) (n cap : Nat) (l : List UInt8) (k pp : Int) (w : World) (hl : BytesAt w a n cap l) :
    Calls Try.prog 5 #[.agg #[.int .i64 N, .slice a n cap], .int .i64 k, .int .i64 pp] w fun e w' => e = .returned (.bool true) ∧ Below w.heap.size w w' := by
  have hb0 : Below w.heap.size w (w.alloc (.cells #[.int .i64 N, .slice a n cap] 24)) := (Below.refl _ _).alloc (Nat.le_refl _) _
  have CF := Lib.hid (few_gen (N := N) (hl.below hb0))
  have HL := Lib.hid (hl.head (m := min n 258) (by omega))
  have hn2 : min n 258 ≤ 258 := by omega
  generalize l.take (min n 258) = L at *
  generalize min n 258 = m at *
  clear hl
  go_enter Try.func5, Try.ntmps5
  go_wp2_with fail
  refine (CF.out).mono ?_
  rintro e w1 ⟨rfl, hb1⟩
  have xs1 : w1.heap[w.heap.size]? = some (.cells (spV N a n cap) 24 (0, 0)) := box_keep hb1
  have b01 : Below w.heap.size w w1 := box_low hb1
  go_upto_region 2 with (refine wpList_store_row rfl _ _ _ rfl w.heap.size (spV N a m cap) rfl rfl 24 _ xs1 sizeSp rfl (spV_one _ _ _ _) ?_)
  have xs2 := heap_setRow_same w1 w.heap.size (spV N a m cap) _ _ xs1
  have b02 : Below w.heap.size w (w1.setRow w.heap.size (spV N a m cap)) := below_setRow b01 (Nat.le_refl _) _
  clear CF hb1 xs1 b01 hb0
  generalize w1.setRow w.heap.size (spV N a m cap) = w2 at *
  have hl2 := HL.out.below b02
  have HL2 := Lib.hid hl2
  have B02 := Lib.hid b02
  have XS2 := Lib.hid xs2
  obtain ⟨c0, c1⟩ := sp_cells xs2
  have hs2 : w.heap.size < w2.heap.size := (Array.getElem?_eq_some_iff.1 xs2).1
  clear xs2 b02 HL hl2
  by_cases hgood : mayS N L = true ∧ 0 ≤ k ∧ k ≤ ((frees (FU N L)).length : Int)
  · obtain ⟨hm, hk0, hkf⟩ := hgood
    obtain ⟨K, rfl⟩ := Int.eq_ofNat_of_zero_le hk0
    have hS2 := sp_of_may hm HL2.out
    have hFU : FU N L = flagsL N.toNat L := by simp [FU, hm]
    rw [hFU] at hkf
    have hKf : K ≤ (frees (flagsL N.toNat L)).length := by omega
    clear hFU hkf hk0 hm HL2
    generalize flagsL N.toNat L = F at *
    have hN := hS2.num
    subst hN
    have hF := hS2.len
    have hK2 : K ≤ 2048 := by have := frees_count F; omega
    have CA := Lib.hid (take_good hS2 K hKf)
    have S2 := Lib.hid hS2
    have HKF := Lib.hid hKf
    have hlF1 : (markF F ((frees F).take K)).length = F.length := markF_len _ _
    have HBK := Lib.hid (kp_back F K)
    have HCT := Lib.hid (kp_count F K hKf)
    have HUS := Lib.hid (kp_used F K pp)
    have HPL := Lib.hid (kp_len F K hKf)
    have HM := Lib.hid (fun i hi => kp_mem F K _ (kp_at F K hKf i hi))
    have HUP := Lib.hid (kp_up F K hKf)
    have HF1 := Lib.hid hlF1
    clear hS2 hKf hlF1 HKF
    go_wp2_with fail
    refine (CA.out).mono ?_
    rintro e w3 ⟨a3, n3, q3, p3, d3, rfl, S3, I3, hb3⟩
    clear CA c0 c1
    generalize markF F ((frees F).take K) = F1 at *
    generalize (frees F).take K = P at *
    have b24 : Below w2.heap.size w2 (w3.alloc (.cells #[.int .i64 F.length, .slice a3 n3 q3] 24)) := hb3.alloc hb3.size _
    have b34 : Below w3.heap.size w3 (w3.alloc (.cells #[.int .i64 F.length, .slice a3 n3 q3] 24)) := (Below.refl _ _).alloc (Nat.le_refl _) _
    have xa4 : (w3.alloc (.cells #[.int .i64 F.length, .slice a3 n3 q3] 24)).heap[w3.heap.size]? = some (.cells (spV F.length a3 n3 q3) 24 (0, 0)) := heap_alloc_new w3 _
    have xs4 := (b24.block _ hs2).trans XS2.out
    have S4 := Lib.hid (S3.below b34)
    have I4 := Lib.hid (CameAt.below I3 (by omega) b34)
    have SS := Lib.hid (S2.out.below b24)
    have B04 := Lib.hid (B02.out.trans (b24.mono B02.out.size))
    clear b24 b34 S3 I3 hb3 XS2 S2 B02 hs2
    go_upto_region 5 with (fail)
    generalize w3.alloc (.cells #[.int .i64 F.length, .slice a3 n3 q3] 24) = w4 at *
    have hA4 : w3.heap.size < w4.heap.size := (Array.getElem?_eq_some_iff.1 xa4).1
    have hs4 : w.heap.size < w4.heap.size := (Array.getElem?_eq_some_iff.1 xs4).1
    have XA := Lib.hid xa4
    have XS := Lib.hid xs4
    have QA := Lib.hid (fun (u : World) (h : Below w4.heap.size w4 u) => sp_cells ((h.block _ hA4).trans XA.out))
    have QS := Lib.hid (fun (u : World) (h : Below w4.heap.size w4 u) => sp_cells ((h.block _ hs4).trans XS.out))
    clear xa4 xs4
    go_wp2
    go_loopw [10, 11] (fun s10 s11 wr => ∃ i : Nat, i ≤ K ∧ s11 = .int .i64 i ∧ s10 = .bool (tk P pp i) ∧ Below w4.heap.size w4 wr) (fun _ s11 _ => K - (intOf s11).toNat)
    case atStart => exact ⟨0, Nat.zero_le _, rfl, by rw [tk_zero], Below.refl _ _⟩
    case round =>
      obtain ⟨i, hiK, rfl, rfl, hb⟩ := hrel
      have HB := Lib.hid hb
      clear hb
      by_cases hlt : i < K
      · have hii : (i : Int) < K := by omega
        obtain ⟨lb, loff, rfl, hlb, hlc⟩ := IntsAt.cell (CameAt.below I4.out (by omega) HB.out) (by omega)
        clear hlb hlc
        have bd := HB.out.trans ((below_drewN (Below.refl wr.heap.size wr) 1 : Below wr.heap.size wr wr.drew).mono HB.out.size)
        have HBD := Lib.hid bd
        have QL := Lib.hid (fun (u : World) (h : Below w4.heap.size w4 u) => ints_cell (CameAt.below I4.out (by omega) h) i hlt)
        obtain ⟨m1, m2, m3⟩ := HM.out i hlt
        have TKS := Lib.hid (tk_succ P pp i (by rw [HPL.out]; exact hlt))
        have US := Lib.hid (fun (u : World) (h : Below w4.heap.size w4 u) => used_rd (SS.out.below h) (P.getD i 0) m2)
        have UA := Lib.hid (fun (u : World) (h : Below w4.heap.size w4 u) => used_rd (S4.out.below h) (P.getD i 0) m3)
        clear m1 m2 m3 bd
        rcases Nat.eq_zero_or_pos i with rfl | hpos
        · have hzero := 0
          have QL' := Lib.hid (fun (u : World) (h : Below w4.heap.size w4 u) => show u.cell? ⟨lb, loff, none⟩ = some (.int .i64 ((P.getD 0 0 : Nat) : Int)) from QL.out u h)
          clear QL
          generalize hx : ((P.getD 0 0 : Nat) : Int) = x at *
          clear hx
          go_upto_region 9 with (fail)
          refine region_head 31 [0, 1, 2, 3, 4, 5, 6, 7, 8, 9, 10, 11, 12, 13, 14, 15, 16, 17, 18, 19, 20, 21, 22, 23, 24, 25, 26, 27, 28, 29, 30] [5, 12] (fun u => (u.cell? ⟨w.heap.size, 0, none⟩ = some (.int .i64 F.length) ∧ u.cell? ⟨w.heap.size, 1, none⟩ = some (.slice a m cap)) ∧ (u.cell? ⟨w3.heap.size, 0, none⟩ = some (.int .i64 F.length) ∧ u.cell? ⟨w3.heap.size, 1, none⟩ = some (.slice a3 n3 q3)) ∧ u.cell? ⟨lb, loff, none⟩ = some (.int .i64 x)) (by kernel_rfl) (by kernel_rfl) ⟨QS.out _ HBD.out, QA.out _ HBD.out, QL'.out _ HBD.out⟩ ?_
          simp only [pickO, List.append_eq, List.cons_append, List.nil_append, List.filterMap_cons, List.filterMap_nil, List.getElem?_cons_zero, List.getElem?_cons_succ, Option.map_some, List.drop_succ_cons, List.drop_zero]
          iterate 5
            refine seqH_readG _ rfl (by rfl) (by rintro u ⟨⟨hu1, hu2⟩, ⟨hu3, hu4⟩, hu5⟩; go_simp; with_reducible rfl) ?_
            try simp only [Act.put, List.setIfInBounds_toArray, List.set_cons_zero, List.set_cons_succ]
          refine seqH_moveG rfl (by rfl) (fun K' hK => ?_)
          go_simp
          refine (US.out _ HBD.out).mono ?_
          rintro e w5 ⟨rfl, hb5⟩
          have b45 := HBD.out.trans (hb5.mono HBD.out.size)
          refine hK _ _ ⟨QS.out _ b45, QA.out _ b45, QL'.out _ b45⟩ ?_
          have B45 := Lib.hid b45
          clear hK K' hb5 b45
          try simp only [Act.put, List.setIfInBounds_toArray, List.set_cons_zero, List.set_cons_succ]
          iterate 6
            refine seqH_readG _ rfl (by rfl) (by rintro u ⟨⟨hu1, hu2⟩, ⟨hu3, hu4⟩, hu5⟩; go_simp; with_reducible rfl) ?_
            try simp only [Act.put, List.setIfInBounds_toArray, List.set_cons_zero, List.set_cons_succ]
          refine seqH_moveG rfl (by rfl) (fun K' hK => ?_)
          go_simp
          refine (UA.out _ B45.out).mono ?_
          rintro e w6 ⟨rfl, hb6⟩
          have b46 := B45.out.trans (hb6.mono B45.out.size)
          refine hK _ _ ⟨QS.out _ b46, QA.out _ b46, QL'.out _ b46⟩ ?_
          have B46 := Lib.hid b46
          clear hK K' hb6 b46 B45
          try simp only [Act.put, List.setIfInBounds_toArray, List.set_cons_zero, List.set_cons_succ]
          iterate 6
            refine seqH_readG _ rfl (by rfl) (by rintro u hu; clear hu; go_simp; with_reducible rfl) ?_
            try simp only [Act.put, List.setIfInBounds_toArray, List.set_cons_zero, List.set_cons_succ]
          iterate 10
            refine seqH_skip rfl (by rfl) ?_
            try simp only [Act.put, List.setIfInBounds_toArray, List.set_cons_zero, List.set_cons_succ]
          iterate 2
            refine seqH_readG _ rfl (by rfl) (by rintro u hu; clear hu; go_simp; with_reducible rfl) ?_
            try simp only [Act.put, List.setIfInBounds_toArray, List.set_cons_zero, List.set_cons_succ]
          refine seqH_nil ?_
          go_upto_region 11 with (fail)
          have hcl := QL'.out _ B46.out
          generalize tk P pp 0 = tb at *
          cases tb with
          | true =>
            rw [Bool.true_or] at TKS
            go_wp2
            go_roundw
            case rel => exact ⟨0 + 1, by omega, by go_num, by rw [TKS.out], B46.out⟩
            case measure => simp [intOf]; omega
          | false =>
            rw [Bool.false_or] at TKS
            go_wp2
            go_roundw
            case rel => exact ⟨0 + 1, by omega, by go_num, by rw [TKS.out], B46.out⟩
            case measure => simp [intOf]; omega
        · obtain ⟨j, hj⟩ : ∃ j, i = j + 1 := ⟨i - 1, by omega⟩
          have hup := HUP.out j (by omega)
          rw [← hj] at hup
          have QM := Lib.hid (fun (u : World) (h : Below w4.heap.size w4 u) => ints_cell (CameAt.below I4.out (by omega) h) j (by omega))
          have hge : ¬ ((P.getD i 0 : Nat) : Int) ≤ ((P.getD j 0 : Nat) : Int) := by omega
          have hij : (i : Int) - 1 = (j : Int) := by omega
          have hjK : (j : Int) < K := by omega
          have hdi : decide ((0 : Int) < (i : Int)) = true := decide_eq_true (by omega)
          have hwj : IntKind.i64.wrap ((i : Int) - 1) = (j : Int) := by rw [hij]; exact IntWalk.i64_in _ (by omega)
          have hdg : decide (((P.getD i 0 : Nat) : Int) ≤ ((P.getD j 0 : Nat) : Int)) = false := decide_eq_false hge
          clear hup hj hpos
          generalize ((P.getD j 0 : Nat) : Int) = y at *
          generalize hx : ((P.getD i 0 : Nat) : Int) = x at *
          clear hx
          go_upto_region 9 with (fail)
          refine region_head 31 [0, 1, 2, 3, 4, 5, 6, 7, 8, 9, 10, 11, 12, 13, 14, 15, 16, 17, 18, 19, 20, 21, 22, 23, 24, 25, 26, 27, 28, 29, 30] [5, 12] (fun u => (u.cell? ⟨w.heap.size, 0, none⟩ = some (.int .i64 F.length) ∧ u.cell? ⟨w.heap.size, 1, none⟩ = some (.slice a m cap)) ∧ (u.cell? ⟨w3.heap.size, 0, none⟩ = some (.int .i64 F.length) ∧ u.cell? ⟨w3.heap.size, 1, none⟩ = some (.slice a3 n3 q3)) ∧ u.cell? ⟨lb, loff + i, none⟩ = some (.int .i64 x) ∧ u.cell? ⟨lb, loff + j, none⟩ = some (.int .i64 y)) (by kernel_rfl) (by kernel_rfl) ⟨QS.out _ HBD.out, QA.out _ HBD.out, QL.out _ HBD.out, QM.out _ HBD.out⟩ ?_
          simp only [pickO, List.append_eq, List.cons_append, List.nil_append, List.filterMap_cons, List.filterMap_nil, List.getElem?_cons_zero, List.getElem?_cons_succ, Option.map_some, List.drop_succ_cons, List.drop_zero]
          iterate 5
            refine seqH_readG _ rfl (by rfl) (by rintro u ⟨⟨hu1, hu2⟩, ⟨hu3, hu4⟩, hu5, hu6⟩; go_simp; with_reducible rfl) ?_
            try simp only [Act.put, List.setIfInBounds_toArray, List.set_cons_zero, List.set_cons_succ]
          refine seqH_moveG rfl (by rfl) (fun K' hK => ?_)
          go_simp
          refine (US.out _ HBD.out).mono ?_
          rintro e w5 ⟨rfl, hb5⟩
          have b45 := HBD.out.trans (hb5.mono HBD.out.size)
          refine hK _ _ ⟨QS.out _ b45, QA.out _ b45, QL.out _ b45, QM.out _ b45⟩ ?_
          have B45 := Lib.hid b45
          clear hK K' hb5 b45
          try simp only [Act.put, List.setIfInBounds_toArray, List.set_cons_zero, List.set_cons_succ]
          iterate 6
            refine seqH_readG _ rfl (by rfl) (by rintro u ⟨⟨hu1, hu2⟩, ⟨hu3, hu4⟩, hu5, hu6⟩; go_simp; with_reducible rfl) ?_
            try simp only [Act.put, List.setIfInBounds_toArray, List.set_cons_zero, List.set_cons_succ]
          refine seqH_moveG rfl (by rfl) (fun K' hK => ?_)
          go_simp
          refine (UA.out _ B45.out).mono ?_
          rintro e w6 ⟨rfl, hb6⟩
          have b46 := B45.out.trans (hb6.mono B45.out.size)
          refine hK _ _ ⟨QS.out _ b46, QA.out _ b46, QL.out _ b46, QM.out _ b46⟩ ?_
          have B46 := Lib.hid b46
          clear hK K' hb6 b46 B45
          try simp only [Act.put, List.setIfInBounds_toArray, List.set_cons_zero, List.set_cons_succ]
          iterate 4
            refine seqH_readG _ rfl (by rfl) (by rintro u hu; clear hu; go_simp; with_reducible rfl) ?_
            try simp only [Act.put, List.setIfInBounds_toArray, List.set_cons_zero, List.set_cons_succ]
          refine seqH_readG (.bool true) rfl (by rfl) (by rintro u hu; clear hu; go_simp; try omega) ?_
          try simp only [Act.put, List.setIfInBounds_toArray, List.set_cons_zero, List.set_cons_succ]
          iterate 3
            refine seqH_readG _ rfl (by rfl) (by rintro u hu; clear hu; go_simp; with_reducible rfl) ?_
            try simp only [Act.put, List.setIfInBounds_toArray, List.set_cons_zero, List.set_cons_succ]
          refine seqH_readG (.int .i64 (j : Int)) rfl (by rfl) (by rintro u hu; clear hu; go_simp; exact IntWalk.i64_in _ (by omega)) ?_
          try simp only [Act.put, List.setIfInBounds_toArray, List.set_cons_zero, List.set_cons_succ]
          iterate 6
            refine seqH_readG _ rfl (by rfl) (by rintro u ⟨⟨hu1, hu2⟩, ⟨hu3, hu4⟩, hu5, hu6⟩; go_simp; with_reducible rfl) ?_
            try simp only [Act.put, List.setIfInBounds_toArray, List.set_cons_zero, List.set_cons_succ]
          refine seqH_readG (.bool false) rfl (by rfl) (by rintro u hu; clear hu; go_simp; try omega) ?_
          try simp only [Act.put, List.setIfInBounds_toArray, List.set_cons_zero, List.set_cons_succ]
          iterate 2
            refine seqH_readG _ rfl (by rfl) (by rintro u hu; clear hu; go_simp; with_reducible rfl) ?_
            try simp only [Act.put, List.setIfInBounds_toArray, List.set_cons_zero, List.set_cons_succ]
          refine seqH_nil ?_
          go_upto_region 11 with (fail)
          have hcl := QL.out _ B46.out
          generalize tk P pp i = tb at *
          cases tb with
          | true =>
            rw [Bool.true_or] at TKS
            go_wp2
            go_roundw
            case rel => exact ⟨i + 1, by omega, by go_num, by rw [TKS.out], B46.out⟩
            case measure => simp [intOf]; omega
          | false =>
            rw [Bool.false_or] at TKS
            go_wp2
            go_roundw
            case rel => exact ⟨i + 1, by omega, by go_num, by rw [TKS.out], B46.out⟩
            case measure => simp [intOf]; omega
      · obtain rfl : i = K := by omega
        rw [tk_all P pp i HPL.out]
        generalize decide (pp ∈ P.map Int.ofNat) = tb at *
        have hnl : ¬ (i : Int) < i := by omega
        have cg := give_at (S4.out.below HB.out) (CameAt.below I4.out (by omega) HB.out)
        rw [HBK.out] at cg
        unfold SpRd at cg
        simp only [Option.getD_some] at cg
        have CG := Lib.hid cg
        obtain ⟨c0, c1⟩ := QA.out wr HB.out
        clear cg
        go_wp2_with fail
        refine (CG.out).mono ?_
        rintro e w5 ⟨a5, n5, q5, rfl, S5, hb5⟩
        have b45 := HB.out.trans (hb5.mono HB.out.size)
        have b46 : Below w4.heap.size w4 (w5.alloc (.cells #[.int .i64 F.length, .slice a5 n5 q5] 24)) := b45.alloc b45.size _
        have S6 := S5.below (show Below w5.heap.size w5 (w5.alloc (.cells #[.int .i64 F.length, .slice a5 n5 q5] 24)) from (Below.refl _ _).alloc (Nat.le_refl _) _)
        have xb6 : (w5.alloc (.cells #[.int .i64 F.length, .slice a5 n5 q5] 24)).heap[w5.heap.size]? = some (.cells (spV F.length a5 n5 q5) 24 (0, 0)) := heap_alloc_new w5 _
        clear CG hb5 S5 b45 c0 c1
        go_upto_region 13 with (fail)
        generalize w5.alloc (.cells #[.int .i64 F.length, .slice a5 n5 q5] 24) = w6 at *
        have hb6 : w5.heap.size < w6.heap.size := (Array.getElem?_eq_some_iff.1 xb6).1
        have XB := Lib.hid xb6
        have QB := Lib.hid (fun (u : World) (h : Below w6.heap.size w6 u) => sp_cells ((h.block _ hb6).trans XB.out))
        have SB := Lib.hid S6
        have B46 := Lib.hid b46
        have QA6 := Lib.hid (fun (u : World) (h : Below w6.heap.size w6 u) => QA.out u (B46.out.trans (h.mono B46.out.size)))
        have QS6 := Lib.hid (fun (u : World) (h : Below w6.heap.size w6 u) => QS.out u (B46.out.trans (h.mono B46.out.size)))
        have SA6 := Lib.hid (fun (u : World) (h : Below w6.heap.size w6 u) => S4.out.below (B46.out.trans (h.mono B46.out.size)))
        have SS6 := Lib.hid (fun (u : World) (h : Below w6.heap.size w6 u) => SS.out.below (B46.out.trans (h.mono B46.out.size)))
        have B06 := Lib.hid (B04.out.trans (B46.out.mono B04.out.size))
        have hcF : F.count true ≤ 2048 := Nat.le_trans (List.count_le_length ..) hF
        have UA := fun (u : World) (h : Below w6.heap.size w6 u) => used_as (SA6.out u h) pp HUS.out
        have US := fun (u : World) (h : Below w6.heap.size w6 u) => used_at (SS6.out u h) pp
        have CA := fun (u : World) (h : Below w6.heap.size w6 u) => count_as (SA6.out u h) HCT.out
        have CS := fun (u : World) (h : Below w6.heap.size w6 u) => count_at (SS6.out u h)
        have RS := Lib.hid (fun (u : World) (h : Below w6.heap.size w6 u) => same_sp (SB.out.below h) (SS6.out u h))
        clear S6 xb6 b46 HB QA QS SA6 SS6 HM HUP HBK HUS HCT I4 S4 SS XA XS hA4 hs4 hb6 XB B04 B46
        generalize F.count true = cF at *
        generalize (decide (0 ≤ pp) && F.getD pp.toNat false) = us at *
        have CA' := Lib.hid CA
        have CS' := Lib.hid CS
        have BD := Lib.hid (below_drewN (Below.refl w6.heap.size w6) 1 : Below w6.heap.size w6 w6.drew)
        have hwa : IntKind.i64.wrap ((cF : Int) + (i : Int)) = (cF : Int) + (i : Int) := IntWalk.i64_in _ (by omega)
        have HWA := Lib.hid hwa
        clear CA CS hwa
        cases us with
        | true =>
          simp only [Bool.true_or] at UA
          have UA' := Lib.hid UA
          have US' := Lib.hid US
          clear UA US
          refine region_head 38 [0, 1, 3, 4, 2, 5, 6, 7, 8, 9, 10, 11, 12, 13, 14, 15, 16, 17, 19, 21, 18, 20, 22, 23, 24, 25, 26, 27, 28, 29, 30, 31, 32, 33, 34, 35, 36, 37] [2, 5, 18, 20, 32, 35] (fun u => (u.cell? ⟨w.heap.size, 0, none⟩ = some (.int .i64 F.length) ∧ u.cell? ⟨w.heap.size, 1, none⟩ = some (.slice a m cap)) ∧ (u.cell? ⟨w3.heap.size, 0, none⟩ = some (.int .i64 F.length) ∧ u.cell? ⟨w3.heap.size, 1, none⟩ = some (.slice a3 n3 q3)) ∧ (u.cell? ⟨w5.heap.size, 0, none⟩ = some (.int .i64 F.length) ∧ u.cell? ⟨w5.heap.size, 1, none⟩ = some (.slice a5 n5 q5))) (by kernel_rfl) (by kernel_rfl) ⟨QS6.out _ BD.out, QA6.out _ BD.out, QB.out _ BD.out⟩ ?_
          simp only [pickO, List.append_eq, List.cons_append, List.nil_append, List.filterMap_cons, List.filterMap_nil, List.getElem?_cons_zero, List.getElem?_cons_succ, Option.map_some, List.drop_succ_cons, List.drop_zero]
          iterate 4
            refine seqH_readG _ rfl (by rfl) (by rintro u ⟨⟨hu1, hu2⟩, ⟨hu3, hu4⟩, hu5, hu6⟩; go_simp; with_reducible rfl) ?_
            try simp only [Act.put, List.setIfInBounds_toArray, List.set_cons_zero, List.set_cons_succ]
          refine seqH_moveG rfl (by rfl) (fun K' hK => ?_)
          go_simp
          refine (UA'.out _ BD.out).mono ?_
          rintro e w7 ⟨rfl, hb7⟩
          have b67 := BD.out.trans (hb7.mono BD.out.size)
          refine hK _ _ ⟨QS6.out _ b67, QA6.out _ b67, QB.out _ b67⟩ ?_
          have B67 := Lib.hid b67
          clear hK K' hb7 b67
          try simp only [Act.put, List.setIfInBounds_toArray, List.set_cons_zero, List.set_cons_succ]
          refine seqH_moveG rfl (by rfl) (fun K' hK => ?_)
          go_simp
          refine (US'.out _ B67.out).mono ?_
          rintro e w8 ⟨rfl, hb8⟩
          have b68 := B67.out.trans (hb8.mono B67.out.size)
          refine hK _ _ ⟨QS6.out _ b68, QA6.out _ b68, QB.out _ b68⟩ ?_
          have B68 := Lib.hid b68
          clear hK K' hb8 b68
          try simp only [Act.put, List.setIfInBounds_toArray, List.set_cons_zero, List.set_cons_succ]
          iterate 1
            refine seqH_readG _ rfl (by rfl) (by rintro u hu; clear hu; go_simp; with_reducible rfl) ?_
            try simp only [Act.put, List.setIfInBounds_toArray, List.set_cons_zero, List.set_cons_succ]
          refine seqH_skip rfl (by rfl) ?_
          try simp only [Act.put, List.setIfInBounds_toArray, List.set_cons_zero, List.set_cons_succ]
          iterate 1
            refine seqH_readG _ rfl (by rfl) (by rintro u hu; clear hu; go_simp; with_reducible rfl) ?_
            try simp only [Act.put, List.setIfInBounds_toArray, List.set_cons_zero, List.set_cons_succ]
          refine seqH_readG (.bool true) rfl (by rfl) (by rintro u hu; clear hu; go_simp; try simp) ?_
          try simp only [Act.put, List.setIfInBounds_toArray, List.set_cons_zero, List.set_cons_succ]
          iterate 4
            refine seqH_readG _ rfl (by rfl) (by rintro u hu; clear hu; go_simp; with_reducible rfl) ?_
            try simp only [Act.put, List.setIfInBounds_toArray, List.set_cons_zero, List.set_cons_succ]
          refine seqH_readG (.bool true) rfl (by rfl) (by rintro u hu; clear hu; go_simp; try simp) ?_
          try simp only [Act.put, List.setIfInBounds_toArray, List.set_cons_zero, List.set_cons_succ]
          iterate 2
            refine seqH_readG _ rfl (by rfl) (by rintro u hu; clear hu; go_simp; with_reducible rfl) ?_
            try simp only [Act.put, List.setIfInBounds_toArray, List.set_cons_zero, List.set_cons_succ]
          iterate 3
            refine seqH_readG _ rfl (by rfl) (by rintro u ⟨⟨hu1, hu2⟩, ⟨hu3, hu4⟩, hu5, hu6⟩; go_simp; with_reducible rfl) ?_
            try simp only [Act.put, List.setIfInBounds_toArray, List.set_cons_zero, List.set_cons_succ]
          refine seqH_moveG rfl (by rfl) (fun K' hK => ?_)
          go_simp
          refine (CA'.out _ B68.out).mono ?_
          rintro e w9 ⟨rfl, hb9⟩
          have b69 := B68.out.trans (hb9.mono B68.out.size)
          refine hK _ _ ⟨QS6.out _ b69, QA6.out _ b69, QB.out _ b69⟩ ?_
          have B69 := Lib.hid b69
          clear hK K' hb9 b69
          try simp only [Act.put, List.setIfInBounds_toArray, List.set_cons_zero, List.set_cons_succ]
          refine seqH_moveG rfl (by rfl) (fun K' hK => ?_)
          go_simp
          refine (CS'.out _ B69.out).mono ?_
          rintro e w10 ⟨rfl, hb10⟩
          have b610 := B69.out.trans (hb10.mono B69.out.size)
          refine hK _ _ ⟨QS6.out _ b610, QA6.out _ b610, QB.out _ b610⟩ ?_
          have B610 := Lib.hid b610
          clear hK K' hb10 b610
          try simp only [Act.put, List.setIfInBounds_toArray, List.set_cons_zero, List.set_cons_succ]
          refine seqH_readG (.int .i64 ((cF : Int) + (i : Int))) rfl (by rfl) (by rintro u hu; clear hu; go_simp; exact HWA.out) ?_
          try simp only [Act.put, List.setIfInBounds_toArray, List.set_cons_zero, List.set_cons_succ]
          refine seqH_readG (.bool true) rfl (by rfl) (by rintro u hu; clear hu; go_simp; try simp) ?_
          try simp only [Act.put, List.setIfInBounds_toArray, List.set_cons_zero, List.set_cons_succ]
          iterate 3
            refine seqH_readG _ rfl (by rfl) (by rintro u hu; clear hu; go_simp; with_reducible rfl) ?_
            try simp only [Act.put, List.setIfInBounds_toArray, List.set_cons_zero, List.set_cons_succ]
          refine seqH_readG (.bool true) rfl (by rfl) (by rintro u hu; clear hu; go_simp; try simp) ?_
          try simp only [Act.put, List.setIfInBounds_toArray, List.set_cons_zero, List.set_cons_succ]
          iterate 2
            refine seqH_readG _ rfl (by rfl) (by rintro u hu; clear hu; go_simp; with_reducible rfl) ?_
            try simp only [Act.put, List.setIfInBounds_toArray, List.set_cons_zero, List.set_cons_succ]
          iterate 2
            refine seqH_readG _ rfl (by rfl) (by rintro u ⟨⟨hu1, hu2⟩, ⟨hu3, hu4⟩, hu5, hu6⟩; go_simp; with_reducible rfl) ?_
            try simp only [Act.put, List.setIfInBounds_toArray, List.set_cons_zero, List.set_cons_succ]
          refine seqH_moveG rfl (by rfl) (fun K' hK => ?_)
          go_simp
          refine (RS.out _ B610.out).mono ?_
          rintro e w11 ⟨rfl, hb11⟩
          have b611 := B610.out.trans (hb11.mono B610.out.size)
          refine hK _ _ ⟨QS6.out _ b611, QA6.out _ b611, QB.out _ b611⟩ ?_
          have B611 := Lib.hid b611
          clear hK K' hb11 b611
          try simp only [Act.put, List.setIfInBounds_toArray, List.set_cons_zero, List.set_cons_succ]
          iterate 2
            refine seqH_readG _ rfl (by rfl) (by rintro u hu; clear hu; go_simp; with_reducible rfl) ?_
            try simp only [Act.put, List.setIfInBounds_toArray, List.set_cons_zero, List.set_cons_succ]
          refine seqH_moveG rfl (by rfl) (fun K' hK => ?_)
          go_simp
          refine (awake05 _).mono ?_
          rintro e w12 ⟨rfl, hb12⟩
          have b612 := B611.out.trans (hb12.mono B611.out.size)
          refine hK _ _ ⟨QS6.out _ b612, QA6.out _ b612, QB.out _ b612⟩ ?_
          have B612 := Lib.hid b612
          clear hK K' hb12 b612
          try simp only [Act.put, List.setIfInBounds_toArray, List.set_cons_zero, List.set_cons_succ]
          iterate 2
            refine seqH_readG _ rfl (by rfl) (by rintro u hu; clear hu; go_simp; with_reducible rfl) ?_
            try simp only [Act.put, List.setIfInBounds_toArray, List.set_cons_zero, List.set_cons_succ]
          refine seqH_nil ?_
          go_wp2
          go_ret
          exact ⟨rfl, B06.out.trans (B612.out.mono B06.out.size)⟩
        | false =>
          simp only [Bool.false_or] at UA
          have UA' := Lib.hid UA
          have US' := Lib.hid US
          clear UA US
          refine region_head 38 [0, 1, 3, 4, 2, 5, 6, 7, 8, 9, 10, 11, 12, 13, 14, 15, 16, 17, 19, 21, 18, 20, 22, 23, 24, 25, 26, 27, 28, 29, 30, 31, 32, 33, 34, 35, 36, 37] [2, 5, 18, 20, 32, 35] (fun u => (u.cell? ⟨w.heap.size, 0, none⟩ = some (.int .i64 F.length) ∧ u.cell? ⟨w.heap.size, 1, none⟩ = some (.slice a m cap)) ∧ (u.cell? ⟨w3.heap.size, 0, none⟩ = some (.int .i64 F.length) ∧ u.cell? ⟨w3.heap.size, 1, none⟩ = some (.slice a3 n3 q3)) ∧ (u.cell? ⟨w5.heap.size, 0, none⟩ = some (.int .i64 F.length) ∧ u.cell? ⟨w5.heap.size, 1, none⟩ = some (.slice a5 n5 q5))) (by kernel_rfl) (by kernel_rfl) ⟨QS6.out _ BD.out, QA6.out _ BD.out, QB.out _ BD.out⟩ ?_
          simp only [pickO, List.append_eq, List.cons_append, List.nil_append, List.filterMap_cons, List.filterMap_nil, List.getElem?_cons_zero, List.getElem?_cons_succ, Option.map_some, List.drop_succ_cons, List.drop_zero]
          iterate 4
            refine seqH_readG _ rfl (by rfl) (by rintro u ⟨⟨hu1, hu2⟩, ⟨hu3, hu4⟩, hu5, hu6⟩; go_simp; with_reducible rfl) ?_
            try simp only [Act.put, List.setIfInBounds_toArray, List.set_cons_zero, List.set_cons_succ]
          refine seqH_moveG rfl (by rfl) (fun K' hK => ?_)
          go_simp
          refine (UA'.out _ BD.out).mono ?_
          rintro e w7 ⟨rfl, hb7⟩
          have b67 := BD.out.trans (hb7.mono BD.out.size)
          refine hK _ _ ⟨QS6.out _ b67, QA6.out _ b67, QB.out _ b67⟩ ?_
          have B67 := Lib.hid b67
          clear hK K' hb7 b67
          try simp only [Act.put, List.setIfInBounds_toArray, List.set_cons_zero, List.set_cons_succ]
          refine seqH_moveG rfl (by rfl) (fun K' hK => ?_)
          go_simp
          refine (US'.out _ B67.out).mono ?_
          rintro e w8 ⟨rfl, hb8⟩
          have b68 := B67.out.trans (hb8.mono B67.out.size)
          refine hK _ _ ⟨QS6.out _ b68, QA6.out _ b68, QB.out _ b68⟩ ?_
          have B68 := Lib.hid b68
          clear hK K' hb8 b68
          try simp only [Act.put, List.setIfInBounds_toArray, List.set_cons_zero, List.set_cons_succ]
          iterate 1
            refine seqH_readG _ rfl (by rfl) (by rintro u hu; clear hu; go_simp; with_reducible rfl) ?_
            try simp only [Act.put, List.setIfInBounds_toArray, List.set_cons_zero, List.set_cons_succ]
          iterate 1
            refine seqH_readG _ rfl (by rfl) (by rintro u hu; clear hu; go_simp; with_reducible rfl) ?_
            try simp only [Act.put, List.setIfInBounds_toArray, List.set_cons_zero, List.set_cons_succ]
          iterate 1
            refine seqH_readG _ rfl (by rfl) (by rintro u hu; clear hu; go_simp; with_reducible rfl) ?_
            try simp only [Act.put, List.setIfInBounds_toArray, List.set_cons_zero, List.set_cons_succ]
          refine seqH_readG (.bool true) rfl (by rfl) (by rintro u hu; clear hu; go_simp; try simp) ?_
          try simp only [Act.put, List.setIfInBounds_toArray, List.set_cons_zero, List.set_cons_succ]
          iterate 4
            refine seqH_readG _ rfl (by rfl) (by rintro u hu; clear hu; go_simp; with_reducible rfl) ?_
            try simp only [Act.put, List.setIfInBounds_toArray, List.set_cons_zero, List.set_cons_succ]
          refine seqH_readG (.bool true) rfl (by rfl) (by rintro u hu; clear hu; go_simp; try simp) ?_
          try simp only [Act.put, List.setIfInBounds_toArray, List.set_cons_zero, List.set_cons_succ]
          iterate 2
            refine seqH_readG _ rfl (by rfl) (by rintro u hu; clear hu; go_simp; with_reducible rfl) ?_
            try simp only [Act.put, List.setIfInBounds_toArray, List.set_cons_zero, List.set_cons_succ]
          iterate 3
            refine seqH_readG _ rfl (by rfl) (by rintro u ⟨⟨hu1, hu2⟩, ⟨hu3, hu4⟩, hu5, hu6⟩; go_simp; with_reducible rfl) ?_
            try simp only [Act.put, List.setIfInBounds_toArray, List.set_cons_zero, List.set_cons_succ]
          refine seqH_moveG rfl (by rfl) (fun K' hK => ?_)
          go_simp
          refine (CA'.out _ B68.out).mono ?_
          rintro e w9 ⟨rfl, hb9⟩
          have b69 := B68.out.trans (hb9.mono B68.out.size)
          refine hK _ _ ⟨QS6.out _ b69, QA6.out _ b69, QB.out _ b69⟩ ?_
          have B69 := Lib.hid b69
          clear hK K' hb9 b69
          try simp only [Act.put, List.setIfInBounds_toArray, List.set_cons_zero, List.set_cons_succ]
          refine seqH_moveG rfl (by rfl) (fun K' hK => ?_)
          go_simp
          refine (CS'.out _ B69.out).mono ?_
          rintro e w10 ⟨rfl, hb10⟩
          have b610 := B69.out.trans (hb10.mono B69.out.size)
          refine hK _ _ ⟨QS6.out _ b610, QA6.out _ b610, QB.out _ b610⟩ ?_
          have B610 := Lib.hid b610
          clear hK K' hb10 b610
          try simp only [Act.put, List.setIfInBounds_toArray, List.set_cons_zero, List.set_cons_succ]
          refine seqH_readG (.int .i64 ((cF : Int) + (i : Int))) rfl (by rfl) (by rintro u hu; clear hu; go_simp; exact HWA.out) ?_
          try simp only [Act.put, List.setIfInBounds_toArray, List.set_cons_zero, List.set_cons_succ]
          refine seqH_readG (.bool true) rfl (by rfl) (by rintro u hu; clear hu; go_simp; try simp) ?_
          try simp only [Act.put, List.setIfInBounds_toArray, List.set_cons_zero, List.set_cons_succ]
          iterate 3
            refine seqH_readG _ rfl (by rfl) (by rintro u hu; clear hu; go_simp; with_reducible rfl) ?_
            try simp only [Act.put, List.setIfInBounds_toArray, List.set_cons_zero, List.set_cons_succ]
          refine seqH_readG (.bool true) rfl (by rfl) (by rintro u hu; clear hu; go_simp; try simp) ?_
          try simp only [Act.put, List.setIfInBounds_toArray, List.set_cons_zero, List.set_cons_succ]
          iterate 2
            refine seqH_readG _ rfl (by rfl) (by rintro u hu; clear hu; go_simp; with_reducible rfl) ?_
            try simp only [Act.put, List.setIfInBounds_toArray, List.set_cons_zero, List.set_cons_succ]
          iterate 2
            refine seqH_readG _ rfl (by rfl) (by rintro u ⟨⟨hu1, hu2⟩, ⟨hu3, hu4⟩, hu5, hu6⟩; go_simp; with_reducible rfl) ?_
            try simp only [Act.put, List.setIfInBounds_toArray, List.set_cons_zero, List.set_cons_succ]
          refine seqH_moveG rfl (by rfl) (fun K' hK => ?_)
          go_simp
          refine (RS.out _ B610.out).mono ?_
          rintro e w11 ⟨rfl, hb11⟩
          have b611 := B610.out.trans (hb11.mono B610.out.size)
          refine hK _ _ ⟨QS6.out _ b611, QA6.out _ b611, QB.out _ b611⟩ ?_
          have B611 := Lib.hid b611
          clear hK K' hb11 b611
          try simp only [Act.put, List.setIfInBounds_toArray, List.set_cons_zero, List.set_cons_succ]
          iterate 2
            refine seqH_readG _ rfl (by rfl) (by rintro u hu; clear hu; go_simp; with_reducible rfl) ?_
            try simp only [Act.put, List.setIfInBounds_toArray, List.set_cons_zero, List.set_cons_succ]
          refine seqH_moveG rfl (by rfl) (fun K' hK => ?_)
          go_simp
          refine (awake05 _).mono ?_
          rintro e w12 ⟨rfl, hb12⟩
          have b612 := B611.out.trans (hb12.mono B611.out.size)
          refine hK _ _ ⟨QS6.out _ b612, QA6.out _ b612, QB.out _ b612⟩ ?_
          have B612 := Lib.hid b612
          clear hK K' hb12 b612
          try simp only [Act.put, List.setIfInBounds_toArray, List.set_cons_zero, List.set_cons_succ]
          iterate 2
            refine seqH_readG _ rfl (by rfl) (by rintro u hu; clear hu; go_simp; with_reducible rfl) ?_
            try simp only [Act.put, List.setIfInBounds_toArray, List.set_cons_zero, List.set_cons_succ]
          refine seqH_nil ?_
          go_wp2
          go_ret
          exact ⟨rfl, B06.out.trans (B612.out.mono B06.out.size)⟩
  · obtain ⟨e1, he, hne⟩ := take_bad hgood
    have CA := Lib.hid (take_gen (N := N) HL2.out k)
    rw [he] at CA
    clear hgood he
    unfold TakeRd at CA
    go_wp2_with fail
    refine (CA.out).mono ?_
    rintro e w3 ⟨a3, n3, q3, p3, d3, rfl, S3, I3, hb3⟩
    have hz : n3 = 0 := S3.size
    subst hz
    have hne1 : (e1 != 0) = true := by simpa using hne
    have HB3 := Lib.hid hb3
    clear CA S3 I3 hb3 c0 c1
    go_wp2_with fail
    refine (awake05 _).mono ?_
    rintro e w6 ⟨rfl, hb6⟩
    have b26 := (HB3.out.alloc HB3.out.size _).trans (hb6.mono (by have := HB3.out.size; simp; omega))
    have B06 := Lib.hid (B02.out.trans (b26.mono B02.out.size))
    clear hb6 b26
    go_wp2
    go_ret
    exact ⟨rfl, B06.out⟩

theorem walk (v : Value) {H : Type} {enc : TypeId × Value → H} (d : DataW H) (p : List MemPlace) (k pp : Int) (W : World) {r : Reach} {b0 base : Nat} {sp : Nat → Bool} {held : Bool}
    (hv : Value.okWide Try.prog W r b0 24 v) (h : DataW.Trod enc Try.prog W base sp held 24 v d p) (w1 : (Lit.int .i64 k).wf = true) (w2 : (Lit.int .i64 pp).wf = true) :
    Calls Try.prog 5 #[v, .int .i64 k, .int .i64 pp] W fun e w' => e = .returned (.bool true) ∧ Below W.heap.size W w' := by
  obtain ⟨N, a, n, cap, l, rfl, hl⟩ := open_space hv h
  exact core N a n cap l k pp W hl

theorem own : ownKnob Try.prog.godebug = none := by kernel_rfl
theorem laidOut : laidOutB Try.prog = true := by kernel_rfl

set_option maxRecDepth 100000 in
theorem lifted (os : Os) (started : os.Started) (H : Type) (enc : TypeId × Value → H) :
    ReturnsInHanded {} Try.checked os 5 .any (Rows.spaceKeepsSpec.pre6 enc Try.prog Try.f5 Rows.spaceKeepsRow.domain false) (Rows.spaceKeepsSpec.post enc Try.prog Try.f5 false true false false) := by
  refine returnsInHanded_of_change (C := Try.checked) own started (by kernel_rfl) Try.func5
    (ChangeSpec.witness6 (enc := enc) (C := Try.checked) false ⟨#[], #[.agg #[.int .i64 0, .slice none 0 0], .int .i64 0, .int .i64 0], []⟩ 8 (by kernel_rfl) (by kernel_rfl) (by kernel_rfl) (by kernel_rfl)) ?_
  intro W base args ds gs before hval0 hW hcnd _
  have hval : ∀ (j : Nat) t v, Try.f5.params[j]? = some t → args[j]? = some v → Value.okWide Try.prog W .any base t v := hval0
  have hW' := hW
  obtain ⟨p, q, hA0, hV, rfl, hfz, hnd⟩ := hW
  have hA : DataW.TrodAll enc Try.prog W 0 (fun _ => true) true Try.f5.params.toList args.toList ds p := hA0
  rw [Try.params5] at hA hval
  obtain ⟨v0, vs0, d0, ds0, p0, q0, hargs, rfl, rfl, h0, r0⟩ := trodAll_cons hA
  obtain ⟨v1, vs1, d1, ds1, p1, q1, rfl, rfl, rfl, h1, r1⟩ := trodAll_cons r0
  obtain ⟨v2, vs2, d2, ds2, p2, q2, rfl, rfl, rfl, h2, r2⟩ := trodAll_cons r1
  obtain ⟨rfl, rfl, rfl⟩ := trodAll_nil r2
  obtain rfl : args = #[v0, v1, v2] := by cases args; simp_all
  obtain ⟨rfl, rfl⟩ := trodVars_none hV
  have k0 := h0
  have lt0 : ∀ x ∈ p0, x.block < W.heap.size := by obtain ⟨m, hm⟩ := k0; exact DataW.trod_lt m _ _ _ hm
  obtain ⟨a1, rfl, rfl, rfl, w1⟩ := open_int Try.underlying3 (hval 1 3 v1 rfl rfl) h1
  obtain ⟨a2, rfl, rfl, rfl, w2⟩ := open_int Try.underlying3 (hval 2 3 v2 rfl rfl) h2
  clear hA0 hval0
  refine (walk v0 d0 p0 a1 a2 W (hval 0 24 v0 rfl rfl) k0 w1 w2).mono fun e W' ⟨he, bel⟩ => ?_
  subst he
  exact ⟨_, rfl, _, _, _, [], _, [], hW', trodAll_mk1 (shut_bool Try.underlying4 _), (trodAll_cons_mk (Below.trod laidOut (by kernel_rfl) (of_decide_eq_true (by kernel_rfl)) k0 bel lt0) (trodAll_cons_mk (shut_int Try.underlying3 w1) (trodAll_cons_mk (shut_int Try.underlying3 w2) trodAll_mk0))), rfl, bel.frame _, fun h => by cases h⟩

theorem proved : Rows.SpaceKeepsSaid :=
  OpenClaim.holds_of_wide 5 Try.f5 rfl rfl rfl rfl rfl rfl rfl ⟨rfl, rfl, rfl, rfl, rfl⟩ rfl rfl rfl rfl rfl (by kernel_rfl) Try.func5 (by kernel_rfl)
    (of_decide_eq_true (by kernel_rfl)) (by unfold Func.isWrapper; first | (rw [if_pos (by decide +kernel)]; kernel_rfl) | (rw [if_neg (by decide +kernel)]; exact ⟨rfl, rfl⟩))
    (fun os started H enc _ => lifted os started H enc)

end Go.Proofs.Ytcmhijhoemcdcaa.spaceKeeps
