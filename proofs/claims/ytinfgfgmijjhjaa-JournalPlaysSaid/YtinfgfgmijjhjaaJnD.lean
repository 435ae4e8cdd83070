/-
  A transaction's head.
-/
import Derived.Test.YtinfgfgmijjhjaaJnC
import Derived.Test.YtinfgfgmijjhjaaCrcB
import Derived.Lib.SlBytesConst
namespace Go.Proofs.Ytinfgfgmijjhjaa
open Go.RowKit
set_option linter.unusedVariables false
set_option linter.unusedSimpArgs false

theorem bytesL_take (L : List Pt) (k : Nat) (hk : k < L.length) : bytesL (L.take (k + 1)) = bytesL (L.take k) ++ (L.getD k (0, [])).2 := by
  unfold bytesL
  rw [List.take_succ_eq_append_getElem hk, List.flatMap_append, List.getD, List.getElem?_eq_getElem hk]
  simp
theorem placesL_take (L : List Pt) (k : Nat) (hk : k < L.length) : placesL (L.take (k + 1)) = placesL (L.take k) ++ leB 2 (L.getD k (0, [])).1.toNat := by
  unfold placesL
  rw [List.take_succ_eq_append_getElem hk, List.flatMap_append, List.getD, List.getElem?_eq_getElem hk]
  simp

theorem owned_mono {w : World} {base base' : Nat} {e : TypeId} {size : Nat} {v : Value} {n : Nat} {xs : List Value} (h : w.ownsRow base e size v n xs) (hb : base' ≤ base) : w.ownsRow base' e size v n xs :=
  ⟨h.1, h.2.imp id fun ⟨g, cap, cur, h1, h2, h3⟩ => ⟨g, cap, cur, h1, Nat.le_trans hb h2, h3⟩⟩

/-- the four pieces of a head -/
def markR (x y z : List UInt8) (r : Nat) : List UInt8 := if r = 0 then markL else if r = 1 then x else if r = 2 then y else z
def markS (g : Nat) (x y z : Option Addr × Nat) (k r : Nat) : Option Addr × Nat × Nat := if r = 0 then (some ⟨g, 0, none⟩, 4, 4) else if r = 1 then (x.1, 2, x.2) else if r = 2 then (y.1, 4, y.2) else (z.1, 2 * k, z.2)

theorem mark4_at (w w1 : World) (hb : Below (w.alloc (.cells #[.int .u8 116, .int .u8 110, .int .u8 108, .int .u8 106] 5 (4, 5))).heap.size (w.alloc (.cells #[.int .u8 116, .int .u8 110, .int .u8 108, .int .u8 106] 5 (4, 5))) w1) :
    BytesAt w1 (some ⟨w.heap.size, 0, none⟩) 4 4 markL := by
  refine BytesAt.of_cells rfl (Nat.le_refl _) (by unfold maxLen; omega) fun i hi => ?_
  rw [Nat.zero_add, cell_of_row _ _ i _ _ _ ((hb.block w.heap.size (by simp)).trans (heap_alloc_new w _))]
  match i, hi with
  | 0, _ => rfl
  | 1, _ => rfl
  | 2, _ => rfl
  | 3, _ => rfl

theorem mark_rows (w : World) (g : Nat) (x y z : Option Addr × Nat) (k : Nat) (p q r : List UInt8) (h0 : BytesAt w (some ⟨g, 0, none⟩) 4 4 markL) (h1 : BytesAt w x.1 2 x.2 p) (h2 : BytesAt w y.1 4 y.2 q) (h3 : BytesAt w z.1 (2 * k) z.2 r) :
    RowsAt (w.alloc (.cells #[.slice (some ⟨g, 0, none⟩) 4 4, .slice x.1 2 x.2, .slice y.1 4 y.2, .slice z.1 (2 * k) z.2] 24)) (some ⟨w.heap.size, 0, none⟩) 4 4 (markS g x y z k) (markR p q r) := by
  have hb : Below w.heap.size w (w.alloc (.cells #[.slice (some ⟨g, 0, none⟩) 4 4, .slice x.1 2 x.2, .slice y.1 4 y.2, .slice z.1 (2 * k) z.2] 24)) := (Below.refl _ _).alloc (Nat.le_refl _) _
  refine ⟨Nat.le_refl _, by unfold maxLen; omega, fun i hi => ⟨⟨_, rfl, ?_⟩, ?_⟩⟩
  · rw [Addr.add_mid, Nat.zero_add, cell_of_row _ _ _ _ _ _ (heap_alloc_new w _)]
    match i, hi with
    | 0, _ => rfl
    | 1, _ => rfl
    | 2, _ => rfl
    | 3, _ => rfl
  · match i, hi with
    | 0, _ => exact h0.below hb
    | 1, _ => exact h1.below hb
    | 2, _ => exact h2.below hb
    | 3, _ => exact h3.below hb

theorem sum_none : (0 : Int) = (sumL (bytesL []) : Nat) := by
  have : sumL (bytesL []) = 0 := by unfold sumL; rw [show bytesL [] = [] from rfl, goL_nil, Nat.sub_self]
  rw [this]; rfl

set_option maxHeartbeats 2000000 in
set_option maxRecDepth 100000 in
theorem headof_any (U : Nat → Prop) (a : Option Addr) (n cap : Nat) (M : List PutM) (w : World) (h : PutsIn w U a n cap M) (hn : n ≤ 40) (hat : ∀ x ∈ M, 0 ≤ x.at_ ∧ x.at_ < 65536) :
    Calls Try.prog 35 #[.slice a n cap] w (FreshB id 128 (hdL (M.map PutM.pt)) w) := by
  have HP := Lib.hid h
  have HAT := Lib.hid hat
  have HML := Lib.hid h.mlen
  clear h hat
  have hs0 : (0 : Int) = (sumL (bytesL ((M.map PutM.pt).take 0)) : Nat) := by rw [List.take_zero]; exact sum_none
  have HS0 := Lib.hid hs0
  clear hs0
  have kc := fun (w : World) (C : Array Value) (n c : Nat) => Lib.run_convert_bytes_const (P := Try.prog) w 24 5 C n c Try.underlying24 Try.underlying5
  go_enter Try.func35, Try.ntmps35
  go_wp2
  go_loopw [3, 4, 12] (fun s v i wr => ∃ (k : Nat) (a' : Option Addr) (cap' : Nat), k ≤ n ∧ i = .int .i64 k ∧ s = .int .u32 (sumL (bytesL ((M.map PutM.pt).take k)) : Nat) ∧ v = .slice a' (2 * k) cap' ∧ wr.ownsRow w.heap.size 5 1 (.slice a' (2 * k) cap') (2 * k) (vals (placesL ((M.map PutM.pt).take k))) ∧ Below w.heap.size w wr) (fun _ _ i _ => n - (intOf i).toNat)
  case atStart => exact ⟨0, none, 0, Nat.zero_le _, rfl, by rw [← HS0.out], rfl, World.ownsRow_nil _ _ _ _, Below.refl _ _⟩
  case round =>
    obtain ⟨k, a', cap', hk, rfl, rfl, rfl, hown, hbel⟩ := hrel
    have HOW := Lib.hid hown
    have HBE := Lib.hid hbel
    clear hown hbel
    by_cases hlt : k < n
    · obtain ⟨b, off, rfl, hUb, hcell⟩ := (HP.out.below (HBE.out.mono (Nat.le_refl _))).at (by omega)
      obtain ⟨_, _, hr⟩ := hcell k hlt
      have HR := Lib.hid hr
      have HBY := Lib.hid ((HP.out.below (HBE.out.mono (Nat.le_refl _))).bytes _ (HP.out.mem k hlt))
      have HX := Lib.hid (HAT.out _ (HP.out.mem k hlt))
      have hlk : k < (M.map PutM.pt).length := by rw [List.length_map, HML.out]; exact hlt
      have hby := bytesL_take (M.map PutM.pt) k hlk
      have hpl := placesL_take (M.map PutM.pt) k hlk
      rw [pts_getD M k (by rw [HML.out]; exact hlt)] at hby hpl
      have hki : (k : Int) < (n : Int) := by omega
      clear hcell hr hlk
      generalize M.getD k default = x at *
      obtain ⟨xi, xa, xn, xc, xb⟩ := x
      dsimp only [PutM.pt] at HBY HX hby hpl
      obtain ⟨m, rfl⟩ := Int.eq_ofNat_of_zero_le HX.out.1
      have hm : m < 65536 := by have := HX.out.2; omega
      rw [Int.toNat_natCast] at hpl
      have CM := Lib.hid (fun u (hb : Below wr.heap.size wr u) => more_any (sumL (bytesL ((M.map PutM.pt).take k))) xa xn xc xb u (sumL_lt _) (HBY.out.below hb))
      rw [moreL_sum, ← hby] at CM
      have CN := Lib.hid (fun u => number_ok m 2 u (by omega) (by omega) (by omega))
      have HPL := Lib.hid hpl
      clear HX hby hpl
      go_upto_region 5 with (refine wpList_load_mid rfl 69 _ rfl b (off + k * 2) rfl [.int .i64 (m : Int), .slice xa xn xc] _ HR.out Try.underlying69 rfl sizePut ?_)
      go_wp2_with fail
      refine (CM.out _ ((Below.refl _ _).alloc (Nat.le_refl _) _)).mono ?_
      rintro e w1 ⟨rfl, hb1⟩
      have t1 := (hb1.block wr.heap.size (by simp)).trans (heap_alloc_new wr _)
      have c0 : w1.cell? ⟨wr.heap.size, 0, none⟩ = some (.int .i64 (m : Int)) := by rw [cell_of_row _ _ _ _ _ _ t1]; rfl
      have HB1 := Lib.hid (((Below.refl _ _).alloc (Nat.le_refl _) _).trans (hb1.mono (by simp)) : Below wr.heap.size wr w1)
      clear t1 hb1
      go_wp2_with fail
      refine (CN.out _).mono ?_
      rintro e w2 ⟨a2, cap2, rfl, ho2, hb2⟩
      have HO2 := Lib.hid (BytesAt.owned ho2)
      have HB2 := Lib.hid (HB1.out.trans (hb2.mono HB1.out.size))
      have HOW2 := Lib.hid (owned_below HOW.out HB2.out)
      have HBE2 := Lib.hid (HBE.out.trans (HB2.out.mono HBE.out.size))
      clear ho2 hb2
      go_wp2_with (refine wpList_append_bytes rfl _ _ rfl w.heap.size _ (2 * k) (vals (placesL ((M.map PutM.pt).take k))) rfl HOW2.out a2 2 cap2 (leB 2 m) rfl HO2.out (2 * (k + 1)) (by omega) (by omega) HBE2.out.size ?_; intro a3 cap3 w3 ho3 hg3)
      go_roundw
      case rel =>
        refine ⟨k + 1, a3, cap3, by omega, by go_num, rfl, rfl, ?_, HBE2.out.grown hg3 HBE2.out.size (fun q hq => (HOW2.out.lt q hq).1)⟩
        rw [HPL.out]
        simpa [vals] using ho3
      case measure => simp [intOf]; omega
    · obtain rfl : k = n := by omega
      have hs := sumL_lt (bytesL (M.map PutM.pt))
      have htk : (M.map PutM.pt).take k = M.map PutM.pt := List.take_of_length_le (by rw [List.length_map, HML.out]; omega)
      rw [htk] at HOW
      rw [htk]
      have CN1 := Lib.hid (fun u => number_ok k 2 u (by omega) (by omega) (by omega))
      have CN2 := Lib.hid (fun u => number_ok (sumL (bytesL (M.map PutM.pt))) 4 u (by omega) (by omega) (by simpa using hs))
      have hraw := hdRaw_length (M.map PutM.pt)
      rw [List.length_map, HML.out] at hraw
      have hflat : flatK (markR (leB 2 k) (leB 4 (sumL (bytesL (M.map PutM.pt)))) (placesL (M.map PutM.pt))) 4 = hdRaw (M.map PutM.pt) := by
        simp [flatK, List.range_succ, markR, hdRaw, HML.out]
      have hpad : hdL (M.map PutM.pt) = sealL (hdRaw (M.map PutM.pt)) ++ List.replicate (128 - (10 + 2 * k + 4)) 0 := by
        unfold hdL; rw [hraw, Nat.sub_sub]
      have HF := Lib.hid hflat
      have HPD := Lib.hid hpad
      have HRAW := Lib.hid hraw
      clear htk hraw hflat hpad HAT
      generalize sumL (bytesL (M.map PutM.pt)) = sm at *
      generalize placesL (M.map PutM.pt) = pl at *
      generalize hdRaw (M.map PutM.pt) = raw at *
      generalize hdL (M.map PutM.pt) = hd at *
      go_wp2_with fail
      refine (CN1.out _).mono ?_
      rintro e w1 ⟨a1, cap1, rfl, ho1, hb1⟩
      have BM := Lib.hid (mark4_at wr w1 hb1)
      have BE1 := Lib.hid (((Below.refl _ _).alloc (Nat.le_refl _) _).trans (hb1.mono (by simp)) : Below wr.heap.size wr w1)
      have BO1 := Lib.hid (BytesAt.owned ho1)
      clear ho1 hb1
      go_wp2_with fail
      refine (CN2.out _).mono ?_
      rintro e w2 ⟨a2, cap2, rfl, ho2, hb2⟩
      have BO2 := Lib.hid (BytesAt.owned ho2)
      have BM2 := Lib.hid (BM.out.below hb2)
      have BO1' := Lib.hid (BO1.out.below hb2)
      have BE2 := Lib.hid (BE1.out.trans (hb2.mono BE1.out.size))
      have BP2 := Lib.hid ((BytesAt.owned HOW.out).below BE2.out)
      clear ho2 hb2 BO1 BM
      have CC := Lib.hid (concat_any (some ⟨w2.heap.size, 0, none⟩) 4 4 (markS wr.heap.size (a1, cap1) (a2, cap2) (a', cap') k) (markR (leB 2 k) (leB 4 sm) pl) _ (mark_rows w2 wr.heap.size (a1, cap1) (a2, cap2) (a', cap') k (leB 2 k) (leB 4 sm) pl BM2.out BO1'.out BO2.out BP2.out) (by rw [HF.out, HRAW.out]; omega) (by rw [HF.out, HRAW.out]; omega) (by omega))
      rw [HF.out] at CC
      rw [HRAW.out] at CC
      go_wp2_with fail
      refine (CC.out).mono ?_
      rintro e w3 ⟨a3, cap3, rfl, ho3, hb3⟩
      have BE3 := Lib.hid (BE2.out.trans (((Below.refl _ _).alloc (Nat.le_refl _) _).trans (hb3.mono (by simp)) |>.mono BE2.out.size))
      have CS := Lib.hid (seal_any a3 (10 + 2 * k) cap3 raw w3 (BytesAt.owned ho3) (by omega))
      clear ho3 hb3
      go_wp2_with fail
      refine (CS.out).mono ?_
      rintro e w4 ⟨a4, cap4, rfl, ho4, hb4⟩
      have CP := Lib.hid (pad_ok a4 (10 + 2 * k + 4) cap4 (sealL raw) 128 w4 (by omega) (by omega) (BytesAt.owned ho4))
      rw [← HPD.out] at CP
      have BE4 := Lib.hid (BE3.out.trans (hb4.mono BE3.out.size))
      clear ho4 hb4
      dsimp only [id]
      go_wp2_with fail
      refine (CP.out).mono ?_
      rintro e w5 ⟨a5, cap5, rfl, ho5, hb5⟩
      go_wp2
      go_ret
      refine ⟨a5, cap5, rfl, ?_, HBE.out.trans ((BE4.out.trans (hb5.mono BE4.out.size)).mono HBE.out.size)⟩
      exact owned_mono ho5 (by have := BE4.out.size; have := HBE.out.size; omega)

theorem may_at {M : List PutM} {size : Int} (h : mayB (M.map PutM.pt) size = true) (hs : size ≤ 65536) : M.length ≤ 40 ∧ ∀ x ∈ M, 0 ≤ x.at_ ∧ x.at_ < 65536 := by
  have hm := (may_iff _ _).1 h
  refine ⟨by have := hm.few; simpa using this, fun x hx => ?_⟩
  have := hm.at x.pt (List.mem_map.2 ⟨x, hx, rfl⟩)
  dsimp only [PutM.pt] at this
  omega

/-- Head -/
def HeadTo (L : List Pt) (w : World) (e : Ending) (w' : World) : Prop :=
  ∃ a n cap, e = .returned (.tuple #[.slice a n cap, .int .i64 (if mayB L 2048 then 0 else 1)]) ∧ BytesAt w' a n cap (if mayB L 2048 then hdL L else []) ∧ Below w.heap.size w w' ∧ ∀ x, a = some x → w.heap.size ≤ x.block ∧ x.block < w'.heap.size
theorem headf_any (U : Nat → Prop) (a : Option Addr) (n cap : Nat) (M : List PutM) (w : World) (h : PutsIn w U a n cap M) :
    Calls Try.prog 8 #[.slice a n cap] w (HeadTo (M.map PutM.pt) w) := by
  have CV := Lib.hid (valid_any U a n cap M 2048 w h)
  unfold HeadTo
  cases hm : mayB (M.map PutM.pt) 2048 with
  | false =>
    rw [hm] at CV
    clear hm h
    go_enter Try.func8, Try.ntmps8
    go_wp2_with fail
    refine (CV.out).mono ?_
    rintro e w1 ⟨rfl, hb1⟩
    go_wp2
    go_ret2
    exact ⟨none, 0, 0, rfl, BytesAt.nil _, hb1, fun x hx => by cases hx⟩
  | true =>
    obtain ⟨h1, h2⟩ := may_at hm (by omega)
    have hl := h.mlen
    have CH := Lib.hid (fun u (hb : Below w.heap.size w u) => headof_any U a n cap M u (h.below hb) (by omega) h2)
    rw [hm] at CV
    clear hm h h1 h2 hl
    go_enter Try.func8, Try.ntmps8
    go_wp2_with fail
    refine (CV.out).mono ?_
    rintro e w1 ⟨rfl, hb1⟩
    go_wp2_with fail
    refine (CH.out _ hb1).mono ?_
    rintro e w2 ⟨a2, cap2, rfl, ho2, hb2⟩
    go_wp2
    go_ret2
    exact ⟨a2, 128, cap2, rfl, BytesAt.owned ho2, hb1.trans (hb2.mono hb1.size), fun x hx => by
      subst hx
      have := ho2.lt x.block rfl
      have := hb1.size; omega⟩

end Go.Proofs.Ytinfgfgmijjhjaa
