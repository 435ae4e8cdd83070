/-
  The document's own answers for layer 5 (hamperref05): Of.
-/
import Derived.Test.YtcmhijhoemcdcaaSpR
namespace Go.Proofs.Ytcmhijhoemcdcaa
open Go.RowKit
set_option linter.unusedVariables false
set_option linter.unusedSimpArgs false
set_option maxRecDepth 100000

theorem getD_snoc (G : List Bool) (b : Bool) (p : Nat) : (G ++ [b]).getD p false = if p = G.length then b else G.getD p false := by
  by_cases h : p < G.length
  · rw [if_neg (by omega)]; simp [List.getD, List.getElem?_append_left h]
  · by_cases h2 : p = G.length
    · subst h2; simp [List.getD]
    · rw [if_neg h2]; simp only [List.getD]; rw [List.getElem?_eq_none (by simp; omega), List.getElem?_eq_none (by omega)]
theorem pack_false_new (G : List Bool) (h : G.length % 8 = 0) : packB (G ++ [false]) = packB G ++ [0] := by
  refine bit_ext _ _ (by simp [packB_length]; omega) fun p hp => ?_
  rw [packB_bit, getD_snoc]
  have hl : (packB G).length = (G.length + 7) / 8 := packB_length G
  have hq := packB_bit G p
  unfold bitU at *
  by_cases h1 : p / 8 < (packB G).length
  · have e : (packB G ++ [0]).getD (p / 8) 0 = (packB G).getD (p / 8) 0 := by simp [List.getD, List.getElem?_append_left h1]
    rw [e, hq]
    by_cases h2 : p = G.length
    · omega
    · rw [if_neg h2]
  · have hpe : p / 8 = (packB G).length := by rw [packB_length] at hp; simp at hp; omega
    have e : (packB G ++ [0]).getD (p / 8) 0 = 0 := by rw [hpe]; simp [List.getD]
    rw [e]
    have h3 : G.getD p false = false := by rw [List.getD, List.getElem?_eq_none (by omega)]; rfl
    rw [h3]
    simp
theorem pack_false_old (G : List Bool) (h : G.length % 8 ≠ 0) : packB (G ++ [false]) = packB G := by
  refine bit_ext _ _ (by simp [packB_length]; omega) fun p hp => ?_
  rw [packB_bit, packB_bit, getD_snoc]
  by_cases h1 : p = G.length
  · subst h1; simp
  · rw [if_neg h1]
theorem add_bit : ∀ (x : Fin 256) (j : Fin 8), x.val.testBit j.val = false → x.val ^^^ 2 ^ j.val = x.val + 2 ^ j.val ∧ x.val + 2 ^ j.val < 256 := by decide +kernel
theorem add_bit' (x : UInt8) (j : Nat) (hj : j < 8) (h : x.toNat.testBit j = false) : x.toNat ^^^ 2 ^ j = x.toNat + 2 ^ j ∧ x.toNat + 2 ^ j < 256 := add_bit ⟨x.toNat, x.toNat_lt⟩ ⟨j, hj⟩ h
theorem pack_true (G : List Bool) : ((packB (G ++ [false])).getD (G.length / 8) 0).toNat + 2 ^ (G.length % 8) < 256 ∧
    (packB (G ++ [false])).set (G.length / 8) (UInt8.ofNat (((packB (G ++ [false])).getD (G.length / 8) 0).toNat + 2 ^ (G.length % 8))) = packB (G ++ [true]) := by
  have hb := packB_bit (G ++ [false]) G.length
  unfold bitU at hb
  rw [getD_snoc, if_pos rfl] at hb
  obtain ⟨h1, h2⟩ := add_bit' _ _ (by omega) hb
  have hf := packB_flip (G ++ [false]) G.length (by simp)
  rw [getD_snoc, if_pos rfl, h1] at hf
  refine ⟨h2, hf.trans ?_⟩
  congr 1
  simp

/-- the space so far, in its box -/
def OfI (w : World) (n : Nat) (G : List Bool) (u : World) : Prop :=
  ∃ av m cv, u.heap[w.heap.size]? = some (.cells (spV 0 none 0 0) 24 (0, 0)) ∧ u.heap[w.heap.size + 1]? = some (.cells (spV n av m cv) 24 (0, 0)) ∧
    u.ownsRow w.heap.size 5 1 (.slice av m cv) m (vals (packB G)) ∧ Below w.heap.size w u
theorem OfI.bel {w u : World} {n : Nat} {G : List Bool} (h : OfI w n G u) : Below w.heap.size w u := by obtain ⟨_, _, _, _, _, _, h⟩ := h; exact h
theorem OfI.old {w u : World} {n : Nat} {G : List Bool} (h : OfI w n G u) (h8 : G.length % 8 ≠ 0) : OfI w n (G ++ [false]) u := by
  unfold OfI
  rw [pack_false_old G h8]
  exact h
theorem OfI.new {w u' : World} {n : Nat} {G : List Bool} {av av' : Option Addr} {m cv cv' : Nat} (h8 : G.length % 8 = 0) (hx : u'.heap[w.heap.size]? = some (.cells (spV 0 none 0 0) 24 (0, 0))) (hy : u'.heap[w.heap.size + 1]? = some (.cells (spV n av m cv) 24 (0, 0)))
    (ho : u'.ownsRow w.heap.size 5 1 (.slice av' (m + 1) cv') (m + 1) (vals (packB G) ++ [.int .u8 0])) (hb : Below w.heap.size w u') :
    OfI w n (G ++ [false]) (u'.setCell ⟨w.heap.size + 1, 1, none⟩ (.slice av' (m + 1) cv')) := by
  refine ⟨av', m + 1, cv', (heap_setCell_other _ _ _ _ (by simp)).trans hx, ?_, ?_, hb.setCell (by simp) _⟩
  · rw [heap_setCell_same _ _ _ _ _ _ hy]; rfl
  · rw [pack_false_new G h8]
    have e : vals (packB G ++ [0]) = vals (packB G) ++ [.int .u8 0] := by simp [vals]
    rw [e]
    exact owned_setCell ho hy (by decide)

theorem grown_cells {X w1 : World} {base sz n j : Nat} {tmp : Obj} {t t' : TypeId} {v : Value} {xs : List Value} {c : Array Value} {fr : Nat × Nat} (ho : X.ownsRow base t sz v n xs) (hj : X.heap[j]? = some (.cells c t' fr)) (ht : t ≠ t') (hg : (X.alloc tmp).grownBy w1 v.ownBlock) : w1.heap[j]? = some (.cells c t' fr) := by
  have hjl := (Array.getElem?_eq_some_iff.1 hj).1
  rw [hg.block j (by simp; omega) (fun e => owned_ne ho hj ht j e.symm rfl), Below.heap_alloc _ _ _ hjl]
  exact hj
theorem grown_below' {X w w1 : World} {base sz n : Nat} {tmp : Obj} {t : TypeId} {v : Value} {xs : List Value} (ho : X.ownsRow base t sz v n xs) (hb : Below base w X) (hB : base ≤ X.heap.size) (hg : (X.alloc tmp).grownBy w1 v.ownBlock) : Below base w w1 :=
  (hb.alloc hB tmp).grown hg (by simp; omega) fun k hk => (ho.lt k hk).1

theorem OfI.add {w u : World} {n : Nat} {G : List Bool} {j : Nat} (h : OfI w n (G ++ [false]) u) (hj : j = 2 ^ (G.length % 8)) :
    ∃ g q cv x, u.heap[w.heap.size + 1]? = some (.cells (spV n (some ⟨g, 0, none⟩) (q + 1) cv) 24 (0, 0)) ∧ q ≤ 256 + G.length ∧ u.cell? ⟨g, q, none⟩ = some (.int .u8 ((x : Nat) : Int)) ∧ u.frozen? ⟨g, q, none⟩ = false ∧ x + j < 256 ∧
      OfI w n (G ++ [true]) (u.setCell ⟨g, q, none⟩ (.int .u8 ((x + j : Nat) : Int))) := by
  obtain ⟨av, m, cv, hx, hy, ho, hb⟩ := h
  have hm : m = G.length / 8 + 1 := by have := ho.1; rw [vals_length, packB_length] at this; simp at this; omega
  subst hm
  obtain ⟨g, rfl⟩ : ∃ g, av = some ⟨g, 0, none⟩ := by
    rcases ho.2 with ⟨h', h0⟩ | ⟨g', cap', cur, h', _⟩
    · omega
    · simp only [Value.slice.injEq] at h'; exact ⟨g', h'.1⟩
  obtain ⟨h1, h2⟩ := pack_true G
  rw [← hj] at h1 h2
  have hc := World.ownsRow.cellAt ho (G.length / 8) (by omega)
  rw [vals_at _ _ (by rw [packB_length]; simp; omega)] at hc
  have hf : u.frozen? ⟨g, G.length / 8, none⟩ = false := World.ownsRow.frozenAt ho _
  have hst := World.ownsRow.stored ho (G.length / 8) (.int .u8 ((UInt8.ofNat (((packB (G ++ [false])).getD (G.length / 8) 0).toNat + j)).toNat : Int))
  rw [vals_set, h2] at hst
  have he : (UInt8.ofNat (((packB (G ++ [false])).getD (G.length / 8) 0).toNat + j)).toNat = ((packB (G ++ [false])).getD (G.length / 8) 0).toNat + j := by rw [UInt8.toNat_ofNat']; omega
  rw [he] at hst
  have hgb := (ho.lt g rfl).1
  refine ⟨g, G.length / 8, cv, _, hy, by omega, hc, hf, h1, some ⟨g, 0, none⟩, G.length / 8 + 1, cv, ?_, ?_, hst.1, hb.setCell hgb _⟩
  · exact (heap_setCell_other _ _ _ _ (fun e => owned_ne ho hx (by decide) g rfl e.symm)).trans hx
  · exact (heap_setCell_other _ _ _ _ (fun e => owned_ne ho hy (by decide) g rfl e.symm)).trans hy

set_option maxHeartbeats 4000000 in
theorem rof_any (a : Option Addr) (n cap : Nat) (L : List Bool) (w : World) (h : BoolsAt w a n cap L) (hn : n ≤ 2048) :
    Calls Try.prog 10 #[.slice a n cap] w (FreshSp id L w) := by
  have HL := Lib.hid h
  have HN := Lib.hid (show L.length = n from h.1)
  obtain ⟨i0, hi, hz0, hz1, hz2⟩ := info_parts infoU8
  clear h
  go_enter Try.func10, Try.ntmps10
  go_wp2
  have h00 : OfI w n [] ((w.alloc (.cells (spV 0 none 0 0) 24)).alloc (.cells (spV n none 0 0) 24)) :=
    ⟨none, 0, 0, heap_alloc2_old _ _ _, heap_alloc2_new _ _ _, World.ownsRow_nil _ _ _ _, ((Below.refl _ w).alloc (Nat.le_refl _) _).alloc (by simp) _⟩
  have H00 := Lib.hid h00
  clear h00
  unfold spV at H00
  go_loopw [4, 5] (fun s4 s5 wr => ∃ k m : Nat, k ≤ n ∧ s5 = .int .i64 k ∧ s4 = .int .u8 m ∧ (k % 8 ≠ 0 → m = 2 ^ (k % 8)) ∧ m < 256 ∧ OfI w n (L.take k) wr) (fun _ s5 _ => n - (intOf s5).toNat)
  case atStart => exact ⟨0, 1, Nat.zero_le _, rfl, rfl, fun h => absurd rfl h, by omega, H00.out⟩
  case round =>
    obtain ⟨k, m, hk, rfl, rfl, hm, hm2, hI⟩ := hrel
    by_cases hlt : k < n
    · have hki : (k : Int) < n := by omega
      have hkl : (L.take k).length = k := by rw [List.length_take, HN.out]; omega
      have hsucc : L.take (k + 1) = L.take k ++ [L.getD k false] := by
        rw [List.take_succ_eq_append_getElem (by rw [HN.out]; exact hlt), List.getD, List.getElem?_eq_getElem (by rw [HN.out]; exact hlt)]; rfl
      have hwt : ((2 : Int) ^ (k % 8)) = ((2 ^ (k % 8) : Nat) : Int) := by rw [Int.natCast_pow]; rfl
      have hj := two_pow_lt (k % 8) (by omega)
      obtain ⟨j2, hj2⟩ : ∃ j2 : Nat, j2 = 2 ^ (k % 8) := ⟨_, rfl⟩
      have hnext : (k + 1) % 8 ≠ 0 → (2 * j2) % 256 = 2 ^ ((k + 1) % 8) := by
        intro h
        have e : (k + 1) % 8 = k % 8 + 1 := by omega
        have := two_pow_lt ((k + 1) % 8) (by omega)
        rw [e, Nat.pow_succ] at *
        omega
      have HJ := Lib.hid hj2
      have HNX := Lib.hid hnext
      have HM := Lib.hid hm
      have HKL := Lib.hid hkl
      have HSU := Lib.hid hsucc
      rw [← hj2] at hj
      clear hnext hm hkl hsucc hwt hj2
      by_cases h8 : k % 8 = 0
      · have hd : ((k : Int) % 8 == 0) = true := by rw [beq_iff_eq]; omega
        have hj1 : j2 = 1 := by rw [HJ.out, h8]
        have H8 := Lib.hid h8
        have HJ1 := Lib.hid hj1
        clear h8 hj1
        obtain ⟨av, mm, cv, hx, hy, ho, hb⟩ := hI
        obtain ⟨c0, c1⟩ := sp_cells hy
        have hmm : mm ≤ 257 := by have := ho.1; rw [vals_length, packB_length, HKL.out] at this; omega
        have hf1 : wr.frozen? ⟨w.heap.size + 1, 1, none⟩ = false := frozen_of_row _ _ _ _ _ hy
        have hbs := hb.size
        have HO := Lib.hid ho
        have HX := Lib.hid hx
        have HY := Lib.hid hy
        have HB := Lib.hid hb
        have HSZ : w.heap.size + 1 < wr.heap.size := (Array.getElem?_eq_some_iff.1 hy).1
        clear ho hx hy hb
        go_upto_region 8 with (at_builtin; refine wpList_append_own _ rfl _ _ 22 rfl w.heap.size 5 i0 (.int .u8 0) 1 1 Try.underlying22 hi hz0 hz1 hz2 rfl (by decide) _ mm _ rfl (HO.out.alloc _) ⟨wr.heap.size, 0, none⟩ 1 1 [.int .u8 0] rfl rfl (cell_one_new _ _ _) (by simp [Value.oneCell']) (by unfold maxLen; omega) (by omega) (by simp; omega) ?_; intro v' w1 hown' hgrow _; obtain ⟨g', cap', rfl⟩ := ownsRow_succ hown'; have hx1 := grown_cells HO.out HX.out (by decide) hgrow; have hy1 := grown_cells HO.out HY.out (by decide) hgrow; have hb1 := grown_below' HO.out HB.out hbs hgrow; have hf2 := frozen_of_row w1 (w.heap.size + 1) 1 _ _ hy1; obtain ⟨e0, e1⟩ := sp_cells hy1)
        have hI2 := OfI.new (G := L.take k) (by rw [HKL.out]; exact H8.out) hx1 hy1 hown' hb1
        have HI2 := Lib.hid hI2
        clear hx1 hy1 hb1 hf2 hown' hgrow hI2 e0 e1 c0 c1 hf1
        generalize w1.setCell ⟨w.heap.size + 1, 1, none⟩ (.slice (some ⟨g', 0, none⟩) (mm + 1) cap') = wz at *
        obtain ⟨bb, boff, rfl, _, hbc⟩ := BoolsAt.cell (CameAt.below HL.out (by omega) HI2.out.bel) (by omega)
        have hbk := hbc k hlt
        have HBK := Lib.hid hbk
        cases hbv : L.getD k false with
        | false =>
          rw [hbv] at hbk HSU
          clear hbc hbv
          go_wp2
          go_roundw
          case rel => exact ⟨k + 1, 2 * 1 % 256, by omega, by go_num, rfl, fun h => by have := HNX.out h; rw [HJ1.out] at this; exact this, by omega, by rw [HSU.out]; exact HI2.out⟩
          case measure => simp [intOf]; omega
        | true =>
          rw [hbv] at hbk HSU
          clear hbc hbv
          obtain ⟨g, q, cv2, x, hy2, hq, hcx, hfx, hxj, hI3⟩ := OfI.add HI2.out (j := 1) (by rw [HKL.out, ← HJ.out, HJ1.out])
          obtain ⟨e0, e1⟩ := sp_cells hy2
          have hqb : q ≤ 4096 := by rw [HKL.out] at hq; omega
          have HI3 := Lib.hid hI3
          have HXJ := Lib.hid hxj
          have hmod : ((x : Int) + 1) % 256 = ((x + 1 : Nat) : Int) := by omega
          clear hI3 hy2 hq
          go_wp2
          go_roundw
          case rel => exact ⟨k + 1, 2 * 1 % 256, by omega, by go_num, rfl, fun h => by have := HNX.out h; rw [HJ1.out] at this; exact this, by omega, by rw [HSU.out]; first | exact HI3.out | (have := HI3.out; rw [← hmod] at this; exact this)⟩
          case measure => simp [intOf]; omega
      · have hd : ((k : Int) % 8 == 0) = false := by rw [beq_eq_false_iff_ne]; omega
        obtain rfl : m = j2 := by rw [HM.out h8, HJ.out]
        have hI2 := OfI.old hI (by rw [HKL.out]; exact h8)
        have HI2 := Lib.hid hI2
        clear hI2 hI h8
        obtain ⟨bb, boff, rfl, _, hbc⟩ := BoolsAt.cell (CameAt.below HL.out (by omega) HI2.out.bel) (by omega)
        have hbk := hbc k hlt
        have HBK := Lib.hid hbk
        cases hbv : L.getD k false with
        | false =>
          rw [hbv] at hbk HSU
          clear hbc hbv
          go_wp2
          go_roundw
          case rel => exact ⟨k + 1, 2 * m % 256, by omega, by go_num, by simp; omega, HNX.out, by omega, by rw [HSU.out]; exact HI2.out⟩
          case measure => simp [intOf]; omega
        | true =>
          rw [hbv] at hbk HSU
          clear hbc hbv
          obtain ⟨g, q, cv2, x, hy2, hq, hcx, hfx, hxj, hI3⟩ := OfI.add HI2.out (j := m) (by rw [HKL.out, ← HJ.out])
          obtain ⟨e0, e1⟩ := sp_cells hy2
          have hqb : q ≤ 4096 := by rw [HKL.out] at hq; omega
          have HI3 := Lib.hid hI3
          have HXJ := Lib.hid hxj
          have hmod : ((x : Int) + m) % 256 = ((x + m : Nat) : Int) := by omega
          clear hI3 hy2 hq
          go_wp2
          go_roundw
          case rel => exact ⟨k + 1, 2 * m % 256, by omega, by go_num, by simp; omega, HNX.out, by omega, by rw [HSU.out]; first | exact HI3.out | (have := HI3.out; rw [← hmod] at this; exact this)⟩
          case measure => simp [intOf]; omega
    · obtain rfl : k = n := by omega
      obtain ⟨av, mm, cv, hx, hy, ho, hb⟩ := hI
      obtain ⟨c0, c1⟩ := sp_cells hy
      rw [List.take_of_length_le (by rw [HN.out]; omega)] at ho
      have HX := Lib.hid hx
      have HO := Lib.hid ho
      have HB := Lib.hid hb
      clear ho hb
      go_wp2_with (refine wpList_store_row rfl _ _ _ rfl w.heap.size (spV k av mm cv) rfl rfl 24 _ HX.out sizeSp rfl (spV_one _ _ _ _) ?_)
      exact bodyPost_ret (v := .agg (spV k av mm cv)) (results_cell_row rfl _ _ w.heap.size 24 (spV k av mm cv) (0, 0) _ rfl (heap_setRow_same _ _ _ _ _ HX.out) Try.underlying24 rfl sizeSp) rfl ⟨av, mm, cv, by rw [HN.out]; rfl, owned_setRow HO.out HX.out (by decide), below_setRow HB.out (Nat.le_refl _) _⟩

end Go.Proofs.Ytcmhijhoemcdcaa
