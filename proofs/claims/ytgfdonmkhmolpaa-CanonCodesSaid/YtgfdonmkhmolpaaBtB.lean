/-
  Contract of package bits: bit of a Writer.
-/
import Derived.Test.YtgfdonmkhmolpaaBtA
namespace Go.Proofs.Ytgfdonmkhmolpaa
open Go.RowKit
set_option linter.unusedVariables false
set_option linter.unusedSimpArgs false
set_option maxRecDepth 100000

theorem wr_kept {w w' : World} {B : Nat} {v : Value} {G : List Bool} {o : Obj} (h : WrV w B v G) (hg : (w.alloc o).grownBy w' v.ownBlock) : w'.heap[B]? = w.heap[B]? := by
  rw [hg.block B (by have := h.lt; simp; omega) (fun e => h.ne B e.symm rfl)]
  exact Below.heap_alloc _ _ _ h.lt
/-- the next octet is laid behind: the row has a nought more -/
theorem wr_more {w w' : World} {B : Nat} {v v' : Value} {G : List Bool} {o : Obj} (h : WrV w B v G) (h8 : G.length % 8 = 0) (hr : BytO w' v' (packB G ++ [0])) (hg : (w.alloc o).grownBy w' v.ownBlock) (hk : v'.ownBlock = v.ownBlock ∨ v'.ownBlock = some (w.alloc o).heap.size) :
    (w'.setCell ⟨B, 0, none⟩ v').heap[B]? = some (.cells #[v', .int .i64 (G.length : Int)] 74 (0, 0)) ∧ BytO (w'.setCell ⟨B, 0, none⟩ v') v' (packB (G ++ [false])) ∧
    Only (fun k => k = B ∨ v.ownBlock = some k) w (w'.setCell ⟨B, 0, none⟩ v') ∧ (v'.ownBlock = v.ownBlock ∨ ∃ k, v'.ownBlock = some k ∧ w.heap.size ≤ k) := by
  have hB := (wr_kept h hg).trans h.1
  refine ⟨by rw [heap_setCell_same _ _ _ _ _ _ hB]; rfl, ?_, ?_, ?_⟩
  · rw [bit_new G h8]
    exact hr.keep fun k hk => heap_setCell_other _ _ _ _ (hr.ne_of hB ne_wr_byte k hk)
  · refine ((Only.alloc (S := fun k => k = B ∨ v.ownBlock = some k) w o).trans (Only.of_grown hg fun k hk => .inr hk) (fun i hi hS => hS)).trans (Only.setCell _ _ _ (.inl rfl)) (fun i hi hS => hS)
  · rcases hk with hk | hk
    · exact .inl hk
    · exact .inr ⟨_, hk, by simp⟩

/-- the last octet of a writer with a nought more, and what comes of it when the bit is set -/
theorem wr_last {w : World} {B n : Nat} {v : Value} {G : List Bool} (hn : n = G.length) (h1 : w.heap[B]? = some (.cells #[v, .int .i64 (n : Int)] 74 (0, 0))) (h2 : BytO w v (packB (G ++ [false]))) :
    ∃ g q X cap, v = .slice (some ⟨g, 0, none⟩) (q + 1) cap ∧ q = n / 8 ∧ w.cell? ⟨g, q, none⟩ = some (.int .u8 ((X : UInt8).toNat : Int)) ∧ w.frozen? ⟨g, q, none⟩ = false ∧
      (q + 1 ≤ cap ∧ cap ≤ maxLen) ∧
      ∀ b : Bool, X.toNat ||| ((if b then 1 else 0) * 2 ^ (n % 8)) < 256 ∧
        WrV ((w.setCell ⟨g, q, none⟩ (.int .u8 ((X.toNat ||| ((if b then 1 else 0) * 2 ^ (n % 8)) : Nat) : Int))).setCell ⟨B, 1, none⟩ (.int .i64 ((n : Int) + 1))) B v (G ++ [b]) ∧
        Only (fun k => k = B ∨ v.ownBlock = some k) w ((w.setCell ⟨g, q, none⟩ (.int .u8 ((X.toNat ||| ((if b then 1 else 0) * 2 ^ (n % 8)) : Nat) : Int))).setCell ⟨B, 1, none⟩ (.int .i64 ((n : Int) + 1))) := by
  subst hn
  have hl : (packB (G ++ [false])).length = G.length / 8 + 1 := by rw [packB_length]; simp; omega
  obtain ⟨g, cap, rfl, c1, c2, c3⟩ := h2.form' (by omega)
  have hx : (packB (G ++ [false]))[G.length / 8]? = some ((packB (G ++ [false])).getD (G.length / 8) 0) := by rw [List.getD, List.getElem?_eq_getElem (by omega)]; rfl
  have hc := h2.cellAt (G.length / 8) 0 _ hx (by omega)
  rw [Nat.mul_one, Nat.add_zero] at hc
  have hne := h2.ne_of h1 ne_wr_byte g rfl
  refine ⟨g, G.length / 8, (packB (G ++ [false])).getD (G.length / 8) 0, cap, by rw [hl], rfl, hc, h2.frozenAt _, by omega, fun b => ?_⟩
  obtain ⟨p1, p2⟩ := bit_set G b
  refine ⟨p1, ⟨?_, ?_⟩, ?_⟩
  · have e1 := (heap_setCell_other w ⟨g, G.length / 8, none⟩ B (.int .u8 ((((packB (G ++ [false])).getD (G.length / 8) 0).toNat ||| ((if b then 1 else 0) * 2 ^ (G.length % 8)) : Nat) : Int)) (fun e => hne e.symm)).trans h1
    rw [heap_setCell_same _ _ _ _ _ _ e1]
    simp
  · have hst := h2.stored (G.length / 8) 0 (by omega) (by omega) (UInt8.ofNat (((packB (G ++ [false])).getD (G.length / 8) 0).toNat ||| ((if b then 1 else 0) * 2 ^ (G.length % 8)))) (.int .u8 ((((packB (G ++ [false])).getD (G.length / 8) 0).toNat ||| ((if b then 1 else 0) * 2 ^ (G.length % 8)) : Nat) : Int)) (by
      simp only [bytC, List.set_cons_zero, UInt8.toNat_ofNat']
      rw [Nat.mod_eq_of_lt p1]) rfl
    rw [p2, Nat.mul_one, Nat.add_zero] at hst
    rw [hl]
    rw [hl] at hst
    exact hst.keep fun k hk => heap_setCell_other _ _ _ _ (by injection hk with hk; rw [← hk]; exact hne)
  · exact (Only.setCell _ _ _ (.inr rfl)).trans (Only.setCell _ _ _ (.inl rfl)) (fun i hi hS => hS)

theorem wr_bits (x n : Nat) (b : Bool) (hbx : x.testBit 0 = b) (X : UInt8) (hx : x < 18446744073709551616) :
    bits .or .u8 (X.toNat : Int) (IntKind.u8.wrap (IntKind.u8.wrap (bits .and .u64 (x : Int) 1) * 2 ^ ((n : Int) % 8).toNat)) = ((X.toNat ||| ((if b then 1 else 0) * 2 ^ (n % 8)) : Nat) : Int) := by
  subst hbx
  have h2 : (if x.testBit 0 then 1 else 0) = x % 2 := by
    rw [Nat.testBit_zero]
    by_cases h : x % 2 = 1
    · simp [h]
    · have : x % 2 = 0 := by omega
      simp [this]
  have hp := two_pow_lt (n % 8) (by omega)
  have hm : x % 2 * 2 ^ (n % 8) < 256 := by
    have : x % 2 < 2 := Nat.mod_lt _ (by omega)
    generalize 2 ^ (n % 8) = z at *
    have : x % 2 = 0 ∨ x % 2 = 1 := by omega
    rcases this with h | h <;> rw [h] <;> omega
  have h3 : ((n : Int) % 8).toNat = n % 8 := by omega
  have h6 : bits .and .u64 (x : Int) 1 = ((x % 2 : Nat) : Int) := by have := u64_and_nat x 1 hx (by omega); rw [nat_mask1] at this; exact this
  have h4 : IntKind.u8.wrap ((x % 2 : Nat) : Int) = ((x % 2 : Nat) : Int) := by rw [IntKind.wrap_u8']; omega
  have h5 : IntKind.u8.wrap (((x % 2 : Nat) : Int) * 2 ^ (n % 8)) = ((x % 2 * 2 ^ (n % 8) : Nat) : Int) := by
    have e : ((x % 2 * 2 ^ (n % 8) : Nat) : Int) = ((x % 2 : Nat) : Int) * 2 ^ (n % 8) := by rw [Int.natCast_mul, Int.natCast_pow]; rfl
    rw [← e, IntKind.wrap_u8']
    omega
  rw [h2, h3, h6, h4, h5]
  exact u8_or_nat _ _ X.toNat_lt hm

theorem wrTo_of {w wx wy : World} {B : Nat} {v vx : Value} {F : List Bool} (k3 : Only (fun k => k = B ∨ v.ownBlock = some k) w wx) (k4 : vx.ownBlock = v.ownBlock ∨ ∃ k, vx.ownBlock = some k ∧ w.heap.size ≤ k)
    (h1 : WrV wy B vx F) (h2 : Only (fun k => k = B ∨ vx.ownBlock = some k) wx wy) : WrTo B v F w wy.drew := by
  refine ⟨vx, h1, (k3.trans h2 fun i hi hT => ?_).trans (Only.drew (S := fun k => k = B ∨ v.ownBlock = some k) _) (fun i hi hS => hS), k4⟩
  rcases hT with hT | hT
  · exact .inl hT
  · rcases k4 with k4 | ⟨k, k4, hk⟩
    · exact .inr (by rw [← k4]; exact hT)
    · rw [k4] at hT; injection hT with hT; omega

set_option maxHeartbeats 1000000 in
theorem wbit_any (B : Nat) (v : Value) (G : List Bool) (x : Nat) (b : Bool) (w : World) (h : WrV w B v G) (hx : x < 18446744073709551616) (hbx : x.testBit 0 = b) (hG : G.length ≤ 1099511627776) :
    Calls Try.prog 43 #[.pointer (some ⟨B, 0, none⟩), .int .u64 x] w fun e w' => e = .returned (.tuple #[]) ∧ WrTo B v (G ++ [b]) w w' := by
  have HBX := Lib.hid hbx
  clear hbx
  obtain ⟨n, hn⟩ : ∃ n, n = G.length := ⟨_, rfl⟩
  have HW := Lib.hid h
  obtain ⟨hb, ho⟩ := h
  rw [← hn] at hb hG
  have HB := Lib.hid hb
  have HO := Lib.hid ho
  have HN := Lib.hid hn
  obtain ⟨c0, c1, f0, f1⟩ := two_cells hb
  have HL := Lib.hid (packB_len G)
  obtain ⟨i0, hi, hz0, hz1, hz2⟩ := info_parts infoU8
  obtain ⟨a, cap, hv, hcap, hmax⟩ := ho.form
  obtain ⟨m, hm⟩ : ∃ m, m = (packB G).length := ⟨_, rfl⟩
  rw [← hm] at hv hcap
  have hm2 : m = octN n := by rw [hm, hn]; exact packB_len G
  have hm3 : m ≤ 1099511627776 := by rw [hm2]; unfold octN; omega
  have HM := Lib.hid hm
  subst hv
  clear hb ho hn hm hm2
  go_enter Try.func43, Try.ntmps43
  by_cases h8 : n % 8 = 0
  · have hd : ((n : Int) % 8 == 0) = true := by rw [beq_iff_eq]; omega
    have H8 := Lib.hid h8
    have HLM := Lib.hid (show (packB G ++ [0]).length = m + 1 by rw [List.length_append, ← HM.out]; rfl)
    have HZ := Lib.hid (one_rec (f := bytC) (x := 0) (w := w.alloc (.cells #[.int .u8 0] 5)) (B := w.heap.size) (t := 5) (fr := (0, 0)) (heap_alloc_new w _))
    clear h8
    go_upto_region 2 with (at_builtin; refine wpList_append_recs (f := bytC) rfl _ _ 36 rfl 5 i0 (.int .u8 0) 1 1 Try.underlying36 hi hz0 hz1 hz2 rfl (by omega) _ (packB G) rfl (HO.out.below ((Below.refl _ _).alloc (Nat.le_refl _) _)) ⟨w.heap.size, 0, none⟩ 1 1 [0] rfl rfl (fun _ _ => rfl) (fun y _ => bytC_one y) HZ.out (by rw [← HM.out]; unfold maxLen; omega) (by rw [← HM.out]; omega) ?_; intro v' w' hr hg hbk; obtain ⟨a', cap', hv', hc3, hc4⟩ := hr.form; rw [HLM.out] at hv' hc3; subst hv'; obtain ⟨d0, d1, e0, e1⟩ := two_cells ((wr_kept HW.out hg).trans HB.out); have HR := Lib.hid hr; have HG := Lib.hid hg; have HOB := Lib.hid hbk; clear hr hg hbk)
    obtain ⟨k1, k2, k3, k4⟩ := wr_more HW.out (by rw [← HN.out]; exact H8.out) HR.out HG.out HOB.out
    rw [← HN.out] at k1
    clear d0 d1 e0 e1 c0 c1 f0 f1 HR HG HOB hcap
    generalize w'.setCell ⟨B, 0, none⟩ (.slice a' (m + 1) cap') = wx at *
    generalize (Value.slice a' (m + 1) cap') = vx at *
    obtain ⟨g, q, X, cap2, rfl, hq, hcq, hfq, hX, hst⟩ := wr_last HN.out k1 k2
    obtain ⟨d0, d1, e0, e1⟩ := two_cells k1
    have HST := Lib.hid hst
    have K3 := Lib.hid k3
    have K4 := Lib.hid k4
    have hq2 : q ≤ 1099511627776 := by omega
    have hX2 := X.toNat_lt
    have HQ := Lib.hid hq
    have hgB : ¬ g = B := k2.ne_of k1 ne_wr_byte g rfl
    have d0' : wx.drew.cell? ⟨B, 0, none⟩ = some (.slice (some ⟨g, 0, none⟩) (q + 1) cap2) := d0
    have d1' : wx.drew.cell? ⟨B, 1, none⟩ = some (.int .i64 (n : Int)) := d1
    have hcq' : wx.drew.cell? ⟨g, q, none⟩ = some (.int .u8 (X.toNat : Int)) := hcq
    clear hq k1 k2
    clear hst k3 k4 hi hz0 hz1 hz2 H8 HZ HLM
    have hwq : IntKind.i64.wrap (q : Int) = q := IntWalk.i64_in _ (by omega)
    have htm : (n : Int).tmod 8 = (n : Int) % 8 := Int.tmod_eq_emod_of_nonneg (by omega)
    have hnn : 0 ≤ (n : Int) % 8 := by omega
    have HFV := Lib.hid (wr_bits x n b HBX.out X hx)
    obtain ⟨hst1, hst2, hst3⟩ := HST.out b
    have hqq : (q : Int) < (q : Int) + 1 := by omega
    refine region_still_tail 23 (by kernel_rfl) (by kernel_rfl) ?_
    simp only [List.take_succ_cons, List.take_zero, List.drop_succ_cons, List.drop_zero]
    repeat still_step
    refine wpStill_nil ?_
    generalize (X.toNat ||| ((if b then 1 else 0) * 2 ^ (n % 8))) = Y at *
    have S2 := Lib.hid hst2
    have S3 := Lib.hid hst3
    clear htm hnn hst2 hst3
    rw [HFV.out]
    go_wp2
    go_end0
    exact ⟨rfl, wrTo_of K3.out K4.out S2.out S3.out⟩
  · have hd : ((n : Int) % 8 == 0) = false := by rw [beq_eq_false_iff_ne]; omega
    have k2 : BytO w (.slice a m cap) (packB (G ++ [false])) := by rw [bit_old G (by rw [← HN.out]; exact h8)]; exact HO.out
    have k3 := Only.refl (fun k => k = B ∨ (Value.slice a m cap).ownBlock = some k) w
    have k4 : (Value.slice a m cap).ownBlock = (Value.slice a m cap).ownBlock ∨ ∃ k, (Value.slice a m cap).ownBlock = some k ∧ w.heap.size ≤ k := .inl rfl
    have k1 := HB.out
    have K1 := Lib.hid k1
    have K2 := Lib.hid k2
    have K30 := Lib.hid k3
    have K40 := Lib.hid k4
    clear k1 k2 k3 k4 h8
    go_upto_region 2 with (fail)
    have k1 := K1.out
    have k2 := K2.out
    have k3 := K30.out
    have k4 := K40.out
    clear K1 K2 K30 K40 c0 c1 f0 f1
    obtain ⟨g, q, X, cap2, hv2, hq, hcq, hfq, hX, hst⟩ := wr_last HN.out k1 k2
    simp only [Value.slice.injEq] at hv2
    obtain ⟨rfl, rfl, rfl⟩ := hv2
    obtain ⟨d0, d1, e0, e1⟩ := two_cells k1
    have HST := Lib.hid hst
    have K3 := Lib.hid k3
    have K4 := Lib.hid k4
    have hq2 : q ≤ 1099511627776 := by omega
    have hX2 := X.toNat_lt
    have HQ := Lib.hid hq
    have hgB : ¬ g = B := k2.ne_of k1 ne_wr_byte g rfl
    have d0' : w.drew.cell? ⟨B, 0, none⟩ = some (.slice (some ⟨g, 0, none⟩) (q + 1) cap) := d0
    have d1' : w.drew.cell? ⟨B, 1, none⟩ = some (.int .i64 (n : Int)) := d1
    have hcq' : w.drew.cell? ⟨g, q, none⟩ = some (.int .u8 (X.toNat : Int)) := hcq
    clear hq k1 k2
    clear hst k3 k4 hi hz0 hz1 hz2
    have hwq : IntKind.i64.wrap (q : Int) = q := IntWalk.i64_in _ (by omega)
    have htm : (n : Int).tmod 8 = (n : Int) % 8 := Int.tmod_eq_emod_of_nonneg (by omega)
    have hnn : 0 ≤ (n : Int) % 8 := by omega
    have HFV := Lib.hid (wr_bits x n b HBX.out X hx)
    obtain ⟨hst1, hst2, hst3⟩ := HST.out b
    have hqq : (q : Int) < (q : Int) + 1 := by omega
    refine region_still_tail 23 (by kernel_rfl) (by kernel_rfl) ?_
    simp only [List.take_succ_cons, List.take_zero, List.drop_succ_cons, List.drop_zero]
    repeat still_step
    refine wpStill_nil ?_
    generalize (X.toNat ||| ((if b then 1 else 0) * 2 ^ (n % 8))) = Y at *
    have S2 := Lib.hid hst2
    have S3 := Lib.hid hst3
    clear htm hnn hst2 hst3
    rw [HFV.out]
    go_wp2
    go_end0
    exact ⟨rfl, wrTo_of K3.out (.inl rfl) S2.out S3.out⟩

end Go.Proofs.Ytgfdonmkhmolpaa
