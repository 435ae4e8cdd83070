/-
  A piece of the proof, laid together by program: JnC JnD JnRun JnE JnG TrD.
-/
import Derived.Test.YtjcmphjjkeigjaaGreatPbB
import Derived.Test.YtjcmphjjkeigjaaGreatPbE
import Derived.Test.YtjcmphjjkeigjaaGreatPbH
import Derived.Test.YtjcmphjjkeigjaaGreatPbI
import Derived.Lib.AppendZerosOnto
import Derived.Lib.Walk
import Derived.Lib.SlBytesConst
import Derived.IntWalk

namespace Go.Proofs.YtjcmphjjkeigjaaGreat
open Go.RowKit
set_option linter.unusedVariables false
set_option linter.unusedSimpArgs false

/-- room for so many octets, in new memory -/
def RoomTo (w : World) (e : Ending) (w' : World) : Prop :=
  ∃ g G, e = .returned (.slice (some ⟨g, 0, none⟩) 0 G) ∧ w'.ownsRow w.heap.size 5 1 (.slice (some ⟨g, 0, none⟩) 0 G) 0 [] ∧ Below w.heap.size w w'

set_option maxHeartbeats 1000000 in
set_option maxRecDepth 100000 in
theorem grow_nil (m : Nat) (w : World) (h1 : 1 ≤ m) (h2 : m ≤ 1073741824) :
    Calls Tryz.prog 174 #[.slice none 0 0, .int .i64 m] w (RoomTo w) := by
  obtain ⟨i0, hi, hz0, hz1, hz2⟩ := info_parts infoU8
  have hold : (Builtin.firstCells i0.size 0 (.slice none 0 0)).run Tryz.prog w.drew = .ok ([] : List Value).toArray w.drew := run_firstCells_none w.drew i0.size 0 0 0
  have hrz : ∀ ty, (Builtin.append_ #[49, 3] ty #[.slice none 0 0, .int .i64 m]).run Tryz.prog w =
      .ok (.slice (some ⟨w.heap.size, 0, none⟩) m (grownCap w m 0 5)) (w.drew.alloc (.cells (#[] ++ Builtin.zeroCells (Value.int .u8 0).cells m ++ Builtin.zeroCells (Value.int .u8 0).cells (grownCap w m 0 5 - m)) 5)) := fun ty => by
    have h := Lib.run_append_grow_zeros w 49 3 ty 5 i0 (.int .u8 0) .i64 .i64 Tryz.underlying49 Tryz.underlying3 hi hz0 none 0 0 [] hold m (by omega) (by omega) (by omega) (by omega) (by rw [hz2]; omega) (by
      rw [Nat.zero_add]; exact growslice_fits (by omega) (by rw [hz2]; omega))
    simpa using h
  have hcap := grownCap_le_maxLen w m 0 5 (by unfold maxLen; omega)
  have hge : m ≤ grownCap w m 0 5 := grownCap_ge w _ _ _
  generalize hG : grownCap w m 0 5 = G at *
  have hsz : (#[] ++ Builtin.zeroCells (Value.int .u8 0).cells m ++ Builtin.zeroCells (Value.int .u8 0).cells (G - m)).size = G := by
    simp [Builtin.zeroCells, Value.cells]; omega
  generalize #[] ++ Builtin.zeroCells (Value.int .u8 0).cells m ++ Builtin.zeroCells (Value.int .u8 0).cells (G - m) = C at *
  have HS := Lib.hid hsz
  have HC := Lib.hid hcap
  have hcm := hcap
  unfold maxLen at hcm
  clear hold hi hz0 hz1 hz2 hG hsz hcap
  go_enter Tryz.func174, Tryz.ntmps174
  go_wp2_with (at_builtin; refine Lib.wpList_append_run _ rfl _ _ _ _ rfl _ _ rfl rfl _ _ (hrz _) ?_)
  go_ret
  refine ⟨w.heap.size, G, rfl, ?_, ((Below.refl _ _).drew).alloc (by simp) _⟩
  exact ⟨rfl, .inr ⟨w.heap.size, G, C, rfl, Nat.le_refl _, heap_alloc_new w.drew _, Nat.zero_le _, HC.out, by rw [HS.out, Nat.mul_one], by simp⟩⟩

def flatK (L : Nat → List UInt8) (k : Nat) : List UInt8 := (List.range k).flatMap L
theorem flatK_succ (L : Nat → List UInt8) (k : Nat) : flatK L (k + 1) = flatK L k ++ L k := by simp [flatK, List.range_succ]
theorem flatK_mono (L : Nat → List UInt8) : ∀ (n k : Nat), k ≤ n → (flatK L k).length ≤ (flatK L n).length := by
  intro n
  induction n with
  | zero => intro k hk; have h0 : k = 0 := by omega
            rw [h0]; exact Nat.le_refl _
  | succ n ih =>
    intro k hk
    by_cases h : k = n + 1
    · subst h; exact Nat.le_refl _
    · have := ih k (by omega); rw [flatK_succ, List.length_append]; omega

set_option maxHeartbeats 1000000 in
set_option maxRecDepth 100000 in
theorem concat_any (A : Option Addr) (n cap : Nat) (R : Nat → Option Addr × Nat × Nat) (L : Nat → List UInt8) (w : World) (h : RowsAt w A n cap R L) (h1 : 1 ≤ (flatK L n).length) (h2 : (flatK L n).length ≤ 1073741824) (hn : n ≤ 1000) :
    Calls Tryz.prog 143 #[.slice A n cap] w (FreshB id (flatK L n).length (flatK L n) w) := by
  have hmono := flatK_mono L n
  have hp : 0 < n := by
    rcases Nat.eq_zero_or_pos n with h0 | h0
    · subst h0; simp [flatK] at h1
    · exact h0
  obtain ⟨b, off, rfl, hcell⟩ := h.at hp
  have HR := Lib.hid h
  have HC := Lib.hid hcell
  have HM := Lib.hid hmono
  clear h hcell hmono
  go_enter Tryz.func143, Tryz.ntmps143
  go_wp2
  go_loop [3, 11] (fun s i => ∃ k : Nat, k ≤ n ∧ i = .int .i64 k ∧ s = .int .i64 (flatK L k).length) (fun _ i => n - (intOf i).toNat)
  case atStart => exact ⟨0, Nat.zero_le _, rfl, rfl⟩
  case round =>
    obtain ⟨k, hk, rfl, rfl⟩ := hrel
    by_cases hlt : k < n
    · have hc := HC.out k hlt
      have hl : (L k).length = (R k).2.1 := ((HR.out.2.2 k hlt).2).1
      have hsu := flatK_succ L k
      have hm1 := HM.out (k + 1) (by omega)
      have hle : (flatK L (k + 1)).length = (flatK L k).length + (R k).2.1 := by rw [hsu, List.length_append, hl]
      have hki : (k : Int) < (n : Int) := by omega
      generalize (flatK L k).length = s at *
      generalize (R k).2.1 = m at *
      have hb : s + m ≤ 1073741824 := by omega
      have HLE := Lib.hid hle
      clear hle hm1 hsu hl
      go_wp2
      go_round
      case rel => exact ⟨k + 1, by omega, by go_num, by rw [HLE.out]; go_num⟩
      case measure => simp [intOf]; omega
    · obtain rfl : k = n := by omega
      have hpos : ¬ (((flatK L k).length : Int) < 0) := by omega
      have CG := Lib.hid (grow_nil (flatK L k).length w h1 h2)
      generalize hF : (flatK L k).length = F at *
      have HF := Lib.hid hF
      clear hF
      go_wp2_with (go_at_call 174; refine (CG.out).mono ?_; rintro e w1 ⟨g, G, rfl, ho, hb⟩)
      have HO := Lib.hid ho
      have HB := Lib.hid hb
      clear ho hb CG
      obtain ⟨ws, hws⟩ : ∃ ws : World, ws = w1 := ⟨_, rfl⟩
      have HW := Lib.hid hws
      clear hws
      go_loopw [6, 27] (fun v i wr => ∃ (j : Nat) (a' : Option Addr) (cap' : Nat), j ≤ k ∧ i = .int .i64 j ∧ v = .slice a' (flatK L j).length cap' ∧ wr.ownsRow w.heap.size 5 1 (.slice a' (flatK L j).length cap') (flatK L j).length (vals (flatK L j)) ∧ Below w.heap.size w wr) (fun _ i _ => k - (intOf i).toNat)
      case atStart => exact ⟨0, _, _, Nat.zero_le _, rfl, rfl, HO.out, HB.out⟩
      case round =>
        obtain ⟨j, a', cap', hj, rfl, rfl, hown, hbel⟩ := hrel
        have HOW := Lib.hid hown
        have HBE := Lib.hid hbel
        clear hown hbel
        by_cases hlt : j < k
        · have hc := ((HR.out.below (HBE.out.mono (Nat.le_refl _))).2.2 j hlt)
          obtain ⟨b', off', he, hcr⟩ := (HR.out.below (HBE.out.mono (Nat.le_refl _))).at hp
          simp only [Option.some.injEq, Addr.mk.injEq, and_true] at he
          obtain ⟨rfl, rfl⟩ := he
          have hcj := hcr j hlt
          have HSRC := Lib.hid hc.2
          have hl := hc.2.1
          have hsu := flatK_succ L j
          have hm1 := HM.out (j + 1) (by omega)
          have hle : (flatK L (j + 1)).length = (flatK L j).length + (R j).2.1 := by rw [hsu, List.length_append, hl]
          have hji : (j : Int) < (k : Int) := by omega
          have HSU := Lib.hid hsu
          have HLE := Lib.hid hle
          have hbd : (flatK L j).length + (R j).2.1 ≤ 1073741824 := by have := HF.out; omega
          have HSZ := Lib.hid HBE.out.size
          clear hc hcr hl hsu hm1 hle
          generalize hRj : R j = r at *
          obtain ⟨ra, rm, rc⟩ := r
          dsimp only at *
          go_wp2_with (refine wpList_append_bytes rfl _ _ rfl w.heap.size _ (flatK L j).length (vals (flatK L j)) rfl HOW.out ra rm rc (L j) rfl HSRC.out ((flatK L j).length + rm) rfl (by omega) HSZ.out ?_; intro a2 cap2 w2 ho2 hg2)
          go_roundw
          case rel =>
            refine ⟨j + 1, a2, cap2, by omega, by go_num, by rw [HLE.out], ?_, HBE.out.grown hg2 HBE.out.size (fun q hq => (HOW.out.lt q hq).1)⟩
            rw [HLE.out, HSU.out]
            simpa [vals] using ho2
          case measure => simp [intOf]; omega
        · obtain rfl : j = k := by omega
          go_wp2
          go_ret
          exact ⟨a', cap', by rw [HF.out]; rfl, by rw [← HF.out]; exact HOW.out, HBE.out⟩

end Go.Proofs.YtjcmphjjkeigjaaGreat

namespace Go.Proofs.YtjcmphjjkeigjaaGreat
open Go.RowKit
set_option linter.unusedVariables false
set_option linter.unusedSimpArgs false

theorem bytesL_take (L : List Pt) (k : Nat) (hk : k < L.length) : bytesL (L.take (k + 1)) = bytesL (L.take k) ++ (L.getD k (0, [])).2 := by
  unfold bytesL
  rw [List.take_succ_eq_append_getElem hk, List.flatMap_append, List.getD, List.getElem?_eq_getElem hk]
  simp
theorem placesL_take (L : List Pt) (k : Nat) (hk : k < L.length) : placesL (L.take (k + 1)) = placesL (L.take k) ++ leB 2 (L.getD k (0, [])).1.toNat := by
  unfold placesL
  rw [List.take_succ_eq_append_getElem hk, List.flatMap_append, List.getD, List.getElem?_eq_getElem hk]
  simp

theorem owned_mono {w : World} {base base' : Nat} {e : TypeId} {size : Nat} {v : Value} {n : Nat} {xs : List Value} (h : w.ownsRow base e size v n xs) (hb : base' ≤ base) : w.ownsRow base' e size v n xs :=
  ⟨h.1, h.2.imp id fun ⟨g, cap, cur, h1, h2, h3⟩ => ⟨g, cap, cur, h1, Nat.le_trans hb h2, h3⟩⟩

/-- the four pieces of a head -/
def markR (x y z : List UInt8) (r : Nat) : List UInt8 := if r = 0 then markL else if r = 1 then x else if r = 2 then y else z
def markS (g : Nat) (x y z : Option Addr × Nat) (k r : Nat) : Option Addr × Nat × Nat := if r = 0 then (some ⟨g, 0, none⟩, 4, 4) else if r = 1 then (x.1, 2, x.2) else if r = 2 then (y.1, 4, y.2) else (z.1, 2 * k, z.2)

theorem mark4_at (w w1 : World) (hb : Below (w.alloc (.cells #[.int .u8 116, .int .u8 110, .int .u8 108, .int .u8 106] 5 (4, 5))).heap.size (w.alloc (.cells #[.int .u8 116, .int .u8 110, .int .u8 108, .int .u8 106] 5 (4, 5))) w1) :
    BytesAt w1 (some ⟨w.heap.size, 0, none⟩) 4 4 markL := by
  refine BytesAt.of_cells rfl (Nat.le_refl _) (by unfold maxLen; omega) fun i hi => ?_
  rw [Nat.zero_add, cell_of_row _ _ i _ _ _ ((hb.block w.heap.size (by simp)).trans (heap_alloc_new w _))]
  match i, hi with
  | 0, _ => rfl
  | 1, _ => rfl
  | 2, _ => rfl
  | 3, _ => rfl

theorem mark_rows (w : World) (g : Nat) (x y z : Option Addr × Nat) (k : Nat) (p q r : List UInt8) (h0 : BytesAt w (some ⟨g, 0, none⟩) 4 4 markL) (h1 : BytesAt w x.1 2 x.2 p) (h2 : BytesAt w y.1 4 y.2 q) (h3 : BytesAt w z.1 (2 * k) z.2 r) :
    RowsAt (w.alloc (.cells #[.slice (some ⟨g, 0, none⟩) 4 4, .slice x.1 2 x.2, .slice y.1 4 y.2, .slice z.1 (2 * k) z.2] 49)) (some ⟨w.heap.size, 0, none⟩) 4 4 (markS g x y z k) (markR p q r) := by
  have hb : Below w.heap.size w (w.alloc (.cells #[.slice (some ⟨g, 0, none⟩) 4 4, .slice x.1 2 x.2, .slice y.1 4 y.2, .slice z.1 (2 * k) z.2] 49)) := (Below.refl _ _).alloc (Nat.le_refl _) _
  refine ⟨Nat.le_refl _, by unfold maxLen; omega, fun i hi => ⟨⟨_, rfl, ?_⟩, ?_⟩⟩
  · rw [Addr.add_mid, Nat.zero_add, cell_of_row _ _ _ _ _ _ (heap_alloc_new w _)]
    match i, hi with
    | 0, _ => rfl
    | 1, _ => rfl
    | 2, _ => rfl
    | 3, _ => rfl
  · match i, hi with
    | 0, _ => exact h0.below hb
    | 1, _ => exact h1.below hb
    | 2, _ => exact h2.below hb
    | 3, _ => exact h3.below hb

theorem sum_none : (0 : Int) = (sumL (bytesL []) : Nat) := by
  have : sumL (bytesL []) = 0 := by unfold sumL; rw [show bytesL [] = [] from rfl, goL_nil, Nat.sub_self]
  rw [this]; rfl

set_option maxHeartbeats 2000000 in
set_option maxRecDepth 100000 in
theorem headof_any (U : Nat → Prop) (a : Option Addr) (n cap : Nat) (M : List PutM) (w : World) (h : PutsIn w U a n cap M) (hn : n ≤ 40) (hat : ∀ x ∈ M, 0 ≤ x.at_ ∧ x.at_ < 65536) :
    Calls Tryz.prog 106 #[.slice a n cap] w (FreshB id 128 (hdL (M.map PutM.pt)) w) := by
  have HP := Lib.hid h
  have HAT := Lib.hid hat
  have HML := Lib.hid h.mlen
  clear h hat
  have hs0 : (0 : Int) = (sumL (bytesL ((M.map PutM.pt).take 0)) : Nat) := by rw [List.take_zero]; exact sum_none
  have HS0 := Lib.hid hs0
  clear hs0
  have kc := fun (w : World) (C : Array Value) (n c : Nat) => Lib.run_convert_bytes_const (P := Tryz.prog) w 49 5 C n c Tryz.underlying49 Tryz.underlying5
  go_enter Tryz.func106, Tryz.ntmps106
  go_wp2
  go_loopw [3, 4, 12] (fun s v i wr => ∃ (k : Nat) (a' : Option Addr) (cap' : Nat), k ≤ n ∧ i = .int .i64 k ∧ s = .int .u32 (sumL (bytesL ((M.map PutM.pt).take k)) : Nat) ∧ v = .slice a' (2 * k) cap' ∧ wr.ownsRow w.heap.size 5 1 (.slice a' (2 * k) cap') (2 * k) (vals (placesL ((M.map PutM.pt).take k))) ∧ Below w.heap.size w wr) (fun _ _ i _ => n - (intOf i).toNat)
  case atStart => exact ⟨0, none, 0, Nat.zero_le _, rfl, by rw [← HS0.out], rfl, World.ownsRow_nil _ _ _ _, Below.refl _ _⟩
  case round =>
    obtain ⟨k, a', cap', hk, rfl, rfl, rfl, hown, hbel⟩ := hrel
    have HOW := Lib.hid hown
    have HBE := Lib.hid hbel
    clear hown hbel
    by_cases hlt : k < n
    · obtain ⟨b, off, rfl, hUb, hcell⟩ := (HP.out.below (HBE.out.mono (Nat.le_refl _))).at (by omega)
      obtain ⟨_, _, hr⟩ := hcell k hlt
      have HR := Lib.hid hr
      have HBY := Lib.hid ((HP.out.below (HBE.out.mono (Nat.le_refl _))).bytes _ (HP.out.mem k hlt))
      have HX := Lib.hid (HAT.out _ (HP.out.mem k hlt))
      have hlk : k < (M.map PutM.pt).length := by rw [List.length_map, HML.out]; exact hlt
      have hby := bytesL_take (M.map PutM.pt) k hlk
      have hpl := placesL_take (M.map PutM.pt) k hlk
      rw [pts_getD M k (by rw [HML.out]; exact hlt)] at hby hpl
      have hki : (k : Int) < (n : Int) := by omega
      clear hcell hr hlk
      generalize M.getD k default = x at *
      obtain ⟨xi, xa, xn, xc, xb⟩ := x
      dsimp only [PutM.pt] at HBY HX hby hpl
      obtain ⟨m, rfl⟩ := Int.eq_ofNat_of_zero_le HX.out.1
      have hm : m < 65536 := by have := HX.out.2; omega
      rw [Int.toNat_natCast] at hpl
      have CM := Lib.hid (fun u (hb : Below wr.heap.size wr u) => more_any (sumL (bytesL ((M.map PutM.pt).take k))) xa xn xc xb u (sumL_lt _) (HBY.out.below hb))
      rw [moreL_sum, ← hby] at CM
      have CN := Lib.hid (fun u => number_ok m 2 u (by omega) (by omega) (by omega))
      have HPL := Lib.hid hpl
      clear HX hby hpl
      go_upto_region 5 with (refine wpList_load_mid rfl 118 _ rfl b (off + k * 2) rfl [.int .i64 (m : Int), .slice xa xn xc] _ HR.out Tryz.underlying118 rfl sizePut ?_)
      go_wp2_with fail
      refine (CM.out _ ((Below.refl _ _).alloc (Nat.le_refl _) _)).mono ?_
      rintro e w1 ⟨rfl, hb1⟩
      have t1 := (hb1.block wr.heap.size (by simp)).trans (heap_alloc_new wr _)
      have c0 : w1.cell? ⟨wr.heap.size, 0, none⟩ = some (.int .i64 (m : Int)) := by rw [cell_of_row _ _ _ _ _ _ t1]; rfl
      have HB1 := Lib.hid (((Below.refl _ _).alloc (Nat.le_refl _) _).trans (hb1.mono (by simp)) : Below wr.heap.size wr w1)
      clear t1 hb1
      go_wp2_with fail
      refine (CN.out _).mono ?_
      rintro e w2 ⟨a2, cap2, rfl, ho2, hb2⟩
      have HO2 := Lib.hid (BytesAt.owned ho2)
      have HB2 := Lib.hid (HB1.out.trans (hb2.mono HB1.out.size))
      have HOW2 := Lib.hid (owned_below HOW.out HB2.out)
      have HBE2 := Lib.hid (HBE.out.trans (HB2.out.mono HBE.out.size))
      clear ho2 hb2
      go_wp2_with (refine wpList_append_bytes rfl _ _ rfl w.heap.size _ (2 * k) (vals (placesL ((M.map PutM.pt).take k))) rfl HOW2.out a2 2 cap2 (leB 2 m) rfl HO2.out (2 * (k + 1)) (by omega) (by omega) HBE2.out.size ?_; intro a3 cap3 w3 ho3 hg3)
      go_roundw
      case rel =>
        refine ⟨k + 1, a3, cap3, by omega, by go_num, rfl, rfl, ?_, HBE2.out.grown hg3 HBE2.out.size (fun q hq => (HOW2.out.lt q hq).1)⟩
        rw [HPL.out]
        simpa [vals] using ho3
      case measure => simp [intOf]; omega
    · obtain rfl : k = n := by omega
      have hs := sumL_lt (bytesL (M.map PutM.pt))
      have htk : (M.map PutM.pt).take k = M.map PutM.pt := List.take_of_length_le (by rw [List.length_map, HML.out]; omega)
      rw [htk] at HOW
      rw [htk]
      have CN1 := Lib.hid (fun u => number_ok k 2 u (by omega) (by omega) (by omega))
      have CN2 := Lib.hid (fun u => number_ok (sumL (bytesL (M.map PutM.pt))) 4 u (by omega) (by omega) (by simpa using hs))
      have hraw := hdRaw_length (M.map PutM.pt)
      rw [List.length_map, HML.out] at hraw
      have hflat : flatK (markR (leB 2 k) (leB 4 (sumL (bytesL (M.map PutM.pt)))) (placesL (M.map PutM.pt))) 4 = hdRaw (M.map PutM.pt) := by
        simp [flatK, List.range_succ, markR, hdRaw, HML.out]
      have hpad : hdL (M.map PutM.pt) = sealL (hdRaw (M.map PutM.pt)) ++ List.replicate (128 - (10 + 2 * k + 4)) 0 := by
        unfold hdL; rw [hraw, Nat.sub_sub]
      have HF := Lib.hid hflat
      have HPD := Lib.hid hpad
      have HRAW := Lib.hid hraw
      clear htk hraw hflat hpad HAT
      generalize sumL (bytesL (M.map PutM.pt)) = sm at *
      generalize placesL (M.map PutM.pt) = pl at *
      generalize hdRaw (M.map PutM.pt) = raw at *
      generalize hdL (M.map PutM.pt) = hd at *
      go_wp2_with fail
      refine (CN1.out _).mono ?_
      rintro e w1 ⟨a1, cap1, rfl, ho1, hb1⟩
      have BM := Lib.hid (mark4_at wr w1 hb1)
      have BE1 := Lib.hid (((Below.refl _ _).alloc (Nat.le_refl _) _).trans (hb1.mono (by simp)) : Below wr.heap.size wr w1)
      have BO1 := Lib.hid (BytesAt.owned ho1)
      clear ho1 hb1
      go_wp2_with fail
      refine (CN2.out _).mono ?_
      rintro e w2 ⟨a2, cap2, rfl, ho2, hb2⟩
      have BO2 := Lib.hid (BytesAt.owned ho2)
      have BM2 := Lib.hid (BM.out.below hb2)
      have BO1' := Lib.hid (BO1.out.below hb2)
      have BE2 := Lib.hid (BE1.out.trans (hb2.mono BE1.out.size))
      have BP2 := Lib.hid ((BytesAt.owned HOW.out).below BE2.out)
      clear ho2 hb2 BO1 BM
      have CC := Lib.hid (concat_any (some ⟨w2.heap.size, 0, none⟩) 4 4 (markS wr.heap.size (a1, cap1) (a2, cap2) (a', cap') k) (markR (leB 2 k) (leB 4 sm) pl) _ (mark_rows w2 wr.heap.size (a1, cap1) (a2, cap2) (a', cap') k (leB 2 k) (leB 4 sm) pl BM2.out BO1'.out BO2.out BP2.out) (by rw [HF.out, HRAW.out]; omega) (by rw [HF.out, HRAW.out]; omega) (by omega))
      rw [HF.out] at CC
      rw [HRAW.out] at CC
      go_wp2_with fail
      refine (CC.out).mono ?_
      rintro e w3 ⟨a3, cap3, rfl, ho3, hb3⟩
      have BE3 := Lib.hid (BE2.out.trans (((Below.refl _ _).alloc (Nat.le_refl _) _).trans (hb3.mono (by simp)) |>.mono BE2.out.size))
      have CS := Lib.hid (seal_any a3 (10 + 2 * k) cap3 raw w3 (BytesAt.owned ho3) (by omega))
      clear ho3 hb3
      go_wp2_with fail
      refine (CS.out).mono ?_
      rintro e w4 ⟨a4, cap4, rfl, ho4, hb4⟩
      have CP := Lib.hid (pad_ok a4 (10 + 2 * k + 4) cap4 (sealL raw) 128 w4 (by omega) (by omega) (BytesAt.owned ho4))
      rw [← HPD.out] at CP
      have BE4 := Lib.hid (BE3.out.trans (hb4.mono BE3.out.size))
      clear ho4 hb4
      dsimp only [id]
      go_wp2_with fail
      refine (CP.out).mono ?_
      rintro e w5 ⟨a5, cap5, rfl, ho5, hb5⟩
      go_wp2
      go_ret
      refine ⟨a5, cap5, rfl, ?_, HBE.out.trans ((BE4.out.trans (hb5.mono BE4.out.size)).mono HBE.out.size)⟩
      exact owned_mono ho5 (by have := BE4.out.size; have := HBE.out.size; omega)

theorem may_at {M : List PutM} {size : Int} (h : mayB (M.map PutM.pt) size = true) (hs : size ≤ 65536) : M.length ≤ 40 ∧ ∀ x ∈ M, 0 ≤ x.at_ ∧ x.at_ < 65536 := by
  have hm := (may_iff _ _).1 h
  refine ⟨by have := hm.few; simpa using this, fun x hx => ?_⟩
  have := hm.at x.pt (List.mem_map.2 ⟨x, hx, rfl⟩)
  dsimp only [PutM.pt] at this
  omega

end Go.Proofs.YtjcmphjjkeigjaaGreat

namespace Go.Proofs.YtjcmphjjkeigjaaGreat
open Go.RowKit
set_option linter.unusedVariables false
set_option linter.unusedSimpArgs false

theorem enterFlush (args : Array Value) (u : World) : (callFunc 28 args).run Tryz.prog u = .ok (.enter 28 args) u := by
  simp [callFunc, Tryz.func28, Tryz.f28, go_sem]
theorem enterWrite (args : Array Value) (u : World) : (callFunc 132 args).run Tryz.prog u = .ok (.enter 132 args) u := by
  simp [callFunc, Tryz.func132, Tryz.f132, go_sem]

def oneC (v : Value) : List Value := [v]

/-- steps in a slice -/
structure StepsIn (w : World) (U : Nat → Prop) (g : Nat) (a : Option Addr) (n cap : Nat) (ts : List Stp) : Prop where
  len : ts.length = n
  lt : ∀ k, U k → k < w.heap.size
  ex : ∃ vs : List Value, CameAt oneC 1 w a n cap vs ∧ (∀ p, a = some p → U p.block) ∧ ∀ k, k < n → StepIs w U g (vs.getD k undef) (ts.getD k .flush)

theorem StepsIn.keep {w w' : World} {U : Nat → Prop} {g : Nat} {a : Option Addr} {n cap : Nat} {ts : List Stp} (h : StepsIn w U g a n cap ts) (hs : w.heap.size ≤ w'.heap.size) (hk : ∀ k, U k → w'.heap[k]? = w.heap[k]?) : StepsIn w' U g a n cap ts := by
  obtain ⟨h1, h2, vs, h3, h4, h5⟩ := h
  exact ⟨h1, fun k hU => Nat.lt_of_lt_of_le (h2 k hU) hs, vs, h3.keep (by omega) fun p hp _ _ => hk _ (h4 p hp), h4, fun k hkn => (h5 k hkn).keep hs hk⟩
theorem StepsIn.at {w : World} {U : Nat → Prop} {g : Nat} {a : Option Addr} {n cap : Nat} {ts : List Stp} (h : StepsIn w U g a n cap ts) (hn : 0 < n) :
    ∃ b off, a = some ⟨b, off, none⟩ ∧ ∀ k, k < n → ∃ v, w.cell? ⟨b, off + k, none⟩ = some v ∧ StepIs w U g v (ts.getD k .flush) := by
  obtain ⟨h1, h2, vs, h3, h4, h5⟩ := h
  obtain ⟨b, off, rfl, hb, hc⟩ := h3.at hn (by omega)
  refine ⟨b, off, rfl, fun k hk => ⟨vs.getD k undef, ?_, h5 k hk⟩⟩
  have hx : vs[k]? = some (vs.getD k undef) := by rw [List.getD, List.getElem?_eq_getElem (by rw [h3.1]; exact hk)]; rfl
  have := hc k 0 _ hx (by omega)
  simpa [oneC] using this

theorem stp_drop (ts : List Stp) (k : Nat) (hk : k < ts.length) : ts.drop k = ts.getD k .flush :: ts.drop (k + 1) := by
  rw [List.drop_eq_getElem_cons hk]
  congr 1
  rw [List.getD, List.getElem?_eq_getElem hk]; rfl

set_option maxHeartbeats 1000000 in
set_option maxRecDepth 100000 in
theorem run_any (g : Nat) (D : Dk) (S U : Nat → Prop) (a : Option Addr) (n cap : Nat) (ts : List Stp) (w : World) (h : DiskAt w S g D) (hU : ∀ k, U k → ¬ S k) (hp : StepsIn w U g a n cap ts) (hn : n ≤ 1000) (hf : D.waits.length + costs ts ≤ 1073741824) :
    Calls Tryz.prog 89 #[.slice a n cap] w (DiskTo (.int .i64 (plays ts D).1) S g (plays ts D).2 w) := by
  have HP := Lib.hid hp
  have HU := Lib.hid hU
  have HW := Lib.hid h
  have HL := Lib.hid hp.len
  have enF := enterFlush
  have enW := enterWrite
  clear hp hU h
  go_enter Tryz.func89, Tryz.ntmps89
  go_wp2
  go_loopw [8] (fun i wr => ∃ (k : Nat) (D' : Dk) (S' : Nat → Prop), k ≤ n ∧ i = .int .i64 k ∧ DiskAt wr S' g D' ∧ Only S w wr ∧ (∀ j, S' j → S j ∨ w.heap.size ≤ j) ∧ plays ts D = plays (ts.drop k) D' ∧ D'.waits.length + costs (ts.drop k) ≤ 1073741824) (fun i _ => n - (intOf i).toNat)
  case atStart => exact ⟨0, D, S, Nat.zero_le _, rfl, HW.out, Only.refl _ _, fun j hj => .inl hj, rfl, hf⟩
  case round =>
    obtain ⟨k, D', S', hk, rfl, hd', ho, hs, he, hw'⟩ := hrel
    have HD' := Lib.hid hd'
    have HO := Lib.hid ho
    have HS := Lib.hid hs
    have HPr := Lib.hid (HP.out.keep ho.size fun k hk => ho.block k (HP.out.lt k hk) (HU.out k hk))
    have HUS := Lib.hid (fun j hj hS => (hs j hS).elim (fun h => HU.out j hj h) (fun h => by have := HP.out.lt j hj; omega) : ∀ j, U j → ¬ S' j)
    by_cases hlt : k < n
    · obtain ⟨b, off, rfl, hcell⟩ := HPr.out.at (by omega)
      obtain ⟨v, cv, hst⟩ := hcell k hlt
      have hdr := stp_drop ts k (by rw [HL.out]; exact hlt)
      rw [hdr] at he hw'
      rw [costs_cons] at hw'
      generalize ts.getD k .flush = s at *
      have hki : (k : Int) < (n : Int) := by omega
      have hpl := play_waits s D'
      have CW := Lib.hid (show ∃ F fs cs, v = .func (.func F) fs cs ∧ (∀ args u, (callFunc F args).run Tryz.prog u = .ok (.enter F args) u) ∧ Calls Tryz.prog F (fs ++ #[] ++ cs) wr (DiskTo (.int .i64 (s.play D').1) S' g (s.play D').2 wr) by
        cases s with
        | flush =>
          obtain rfl := hst
          exact ⟨_, _, _, rfl, enF, by simpa [Stp.play] using flush_all g D' S' wr HD'.out⟩
        | write L =>
          obtain ⟨bl, bd, a1, n1, c1, M, rfl, h2, h3, h4, h5, h6, rfl⟩ := hst
          exact ⟨_, _, _, rfl, enW, by simpa [Stp.play] using wr1_any g D' S' U bl bd a1 n1 c1 M wr HD'.out HUS.out h2 h3 h4 h5 h6 (by simp only [Stp.cost, List.length_map, h6.mlen] at hw'; omega)⟩)
      have he2 : ∀ r : Int × Dk, s.play D' = r → plays ts D = if r.1 = 0 then plays (ts.drop (k + 1)) r.2 else r := fun r hr => by rw [he]; simp only [plays, hr]
      obtain ⟨F, fs, cs, hv, hE, CC⟩ := CW.out
      subst hv
      have CC := Lib.hid CC
      clear hd' ho hs he hcell hst hdr CW enF enW
      generalize s.play D' = r at *
      obtain ⟨r1, r2⟩ := r
      have he2 := he2 _ rfl
      dsimp only at he2 hpl CC
      have HE := Lib.hid he2
      clear he2
      by_cases h0 : r1 = 0
      · subst h0
        have HE2 := Lib.hid (by simpa using HE.out : plays ts D = plays (ts.drop (k + 1)) r2)
        go_wp2_with fail
        refine (CC.out).mono ?_
        rintro e w2 ⟨rfl, S2, hd2, ho2, hs2⟩
        have HD2 := Lib.hid hd2
        have HO2 := Lib.hid (HO.out.trans ho2 (fun i hi h => (HS.out i h).resolve_right (by omega)))
        have HS2 := Lib.hid (fun j hj => (hs2 j hj).elim (fun h => HS.out j h) (fun h => Or.inr (by have := HO.out.size; omega)) : ∀ j, S2 j → S j ∨ w.heap.size ≤ j)
        clear hd2 ho2 hs2
        go_wp2
        go_roundw
        case rel => exact ⟨k + 1, r2, S2, by omega, by go_num, HD2.out, HO2.out, HS2.out, HE2.out, by omega⟩
        case measure => simp [intOf]; omega
      · have HE2 := Lib.hid (by simpa [h0] using HE.out : plays ts D = (r1, r2))
        have hb0 : (r1 == 0) = false := by simpa using h0
        have hb1 : (r1 != 0) = true := by simpa using h0
        clear h0
        go_wp2_with fail
        refine (CC.out).mono ?_
        rintro e w2 ⟨rfl, S2, hd2, ho2, hs2⟩
        have HD2 := Lib.hid hd2
        have HO2 := Lib.hid (HO.out.trans ho2 (fun i hi h => (HS.out i h).resolve_right (by omega)))
        have HS2 := Lib.hid (fun j hj => (hs2 j hj).elim (fun h => HS.out j h) (fun h => Or.inr (by have := HO.out.size; omega)) : ∀ j, S2 j → S j ∨ w.heap.size ≤ j)
        clear hd2 ho2 hs2
        go_wp2
        go_ret
        rw [HE2.out]
        exact ⟨rfl, S2, HD2.out, HO2.out, HS2.out⟩
    · obtain rfl : k = n := by omega
      have he := he
      rw [List.drop_of_length_le (by rw [HL.out]; omega)] at he
      have HE2 := Lib.hid he
      clear he hd' ho hs hw'
      go_wp2
      go_ret
      rw [HE2.out]
      exact ⟨rfl, S', HD'.out, HO.out, HS.out⟩

end Go.Proofs.YtjcmphjjkeigjaaGreat

namespace Go.Proofs.YtjcmphjjkeigjaaGreat
open Go.RowKit
set_option linter.unusedVariables false
set_option linter.unusedSimpArgs false

def copyM (x : PutM × Nat) : PutM := ⟨1 + (x.2 : Int), x.1.a, x.1.n, x.1.cap, x.1.b⟩
def copiesM (M : List PutM) : List PutM := M.zipIdx.map copyM
theorem copiesM_length (M : List PutM) : (copiesM M).length = M.length := by simp [copiesM]
theorem copiesM_pt (M : List PutM) : (copiesM M).map PutM.pt = copiesL (M.map PutM.pt) := by
  simp [copiesM, copiesL, List.zipIdx_map, copyM, PutM.pt, Function.comp_def]
theorem copiesM_at (M : List PutM) (k : Nat) (hk : k < M.length) : (copiesM M)[k]? = some (copyM (M.getD k default, k)) := by
  simp [copiesM, List.getElem?_zipIdx, List.getElem?_eq_getElem hk]

/-- puts, in a slice of new memory; their octets lie in U -/
def CopiesTo (U : Nat → Prop) (L : List Pt) (w : World) (e : Ending) (w' : World) : Prop :=
  ∃ (U' : Nat → Prop) (a : Option Addr) (n cap : Nat) (M : List PutM), e = .returned (.slice a n cap) ∧ PutsIn w' U' a n cap M ∧ M.map PutM.pt = L ∧ Below w.heap.size w w' ∧ ∀ k, U' k → U k ∨ w.heap.size ≤ k

set_option maxHeartbeats 1000000 in
set_option maxRecDepth 100000 in
theorem copies_any (U : Nat → Prop) (a : Option Addr) (n cap : Nat) (M : List PutM) (w : World) (h : PutsIn w U a n cap M) (hn : n ≤ 40) :
    Calls Tryz.prog 104 #[.slice a n cap] w (CopiesTo U (copiesL (M.map PutM.pt)) w) := by
  have HP := Lib.hid h
  have HML := Lib.hid h.mlen
  have HCL := Lib.hid ((copiesM_length M).trans h.mlen)
  obtain ⟨i0, hi, hz0, hz1, hz2⟩ := info_parts infoPut
  have hb1 : Hid (i0.bytes * n ≤ 281474976710656) := by unfold Hid; rw [hz2]; omega
  have hb2 : Hid (n ≤ maxLen) := by unfold Hid maxLen; omega
  clear h
  go_enter Tryz.func104, Tryz.ntmps104
  go_wp2_with (at_make; refine wpList_make_full _ rfl _ _ 104 rfl 0 118 i0 (.agg #[.int .i64 0, .slice none 0 0]) 2 Tryz.underlying104 hi hz0 hz1 .i64 .i64 _ _ n rfl rfl rfl rfl hb1.out hb2.out (Nat.zero_le _) ?_; intro w1 hown hgrow)
  have hr0 : Recs putC w1 118 2 (.slice (some ⟨w.heap.size, 0, none⟩) n n) (List.replicate n ⟨0, none, 0, 0, []⟩) := recs_made _ #[.int .i64 0, .slice none 0 0] rfl (putC_one _) (by simp) hown
  have hbel : Below w.heap.size w w1 := (Below.refl _ _).grown hgrow (Nat.le_refl _) (fun k hk => by cases hk)
  have HR0 := Lib.hid hr0
  have HB0 := Lib.hid hbel
  clear hown hgrow hr0 hbel hi hz0 hz1 hz2
  go_wp2
  go_loopw [11] (fun i wr => ∃ k : Nat, k ≤ n ∧ i = .int .i64 k ∧ Recs putC wr 118 2 (.slice (some ⟨w.heap.size, 0, none⟩) n n) ((copiesM M).take k ++ List.replicate (n - k) ⟨0, none, 0, 0, []⟩) ∧ Below w.heap.size w wr) (fun i _ => n - (intOf i).toNat)
  case atStart => exact ⟨0, Nat.zero_le _, rfl, HR0.out, HB0.out⟩
  case round =>
    obtain ⟨k, hk, rfl, hr, hb⟩ := hrel
    have HR := Lib.hid hr
    have HB := Lib.hid hb
    clear hr hb
    by_cases hlt : k < n
    · obtain ⟨b, off, rfl, hUb, hcell⟩ := (HP.out.below HB.out).at (by omega)
      obtain ⟨_, _, hrg⟩ := hcell k hlt
      have HRG := Lib.hid hrg
      have HX := Lib.hid (copiesM_at M k (by rw [HML.out]; exact hlt))
      have hki : (k : Int) < (n : Int) := by omega
      have hln : ((copiesM M).take k ++ List.replicate (n - k) (⟨0, none, 0, 0, []⟩ : PutM)).length = n := by rw [List.length_append, List.length_take, List.length_replicate, HCL.out]; omega
      have HLN := Lib.hid hln
      clear hcell hrg hln
      generalize M.getD k default = x at *
      obtain ⟨xi, xa, xn, xc, xb⟩ := x
      dsimp only [copyM] at HX
      have hra : Recs putC (wr.alloc (.cells #[.int .i64 xi, .slice xa xn xc] 118)) 118 2 (.slice (some ⟨w.heap.size, 0, none⟩) n n) ((copiesM M).take k ++ List.replicate (n - k) ⟨0, none, 0, 0, []⟩) := HR.out.below ((Below.refl _ _).alloc (Nat.le_refl _) _)
      have HT := Lib.hid (hra.there k (by rw [HLN.out]; exact hlt))
      have HRA := Lib.hid hra
      clear hra
      go_wp2_with (first
        | (refine wpList_load_mid rfl 118 _ rfl b (off + k * 2) rfl [.int .i64 xi, .slice xa xn xc] _ HRG.out Tryz.underlying118 rfl sizePut ?_)
        | (refine wpList_store_mid rfl 118 _ _ rfl w.heap.size (k * 2) #[.int .i64 (1 + (k : Int)), .slice xa xn xc] rfl rfl (by simpa using HT.out) sizePut (by simp [Value.oneCell']) ?_))
      go_roundw
      case rel =>
        have hput := HRA.out.put k (by rw [HLN.out]; exact hlt) ⟨1 + (k : Int), xa, xn, xc, xb⟩ rfl (putC_one _)
        rw [fill_next (copiesM M) ⟨0, none, 0, 0, []⟩ _ n k HCL.out hlt HX.out] at hput
        exact ⟨k + 1, by omega, by go_num, hput.1, (HB.out.alloc HB.out.size _).grown hput.2 (by have := HB.out.size; simp; omega) (fun q hq => by simp at hq; omega)⟩
      case measure => simp [intOf]; omega
    · obtain rfl : k = n := by omega
      go_wp2
      go_ret
      have hr := HR.out
      rw [Nat.sub_self, List.replicate_zero, List.append_nil, List.take_of_length_le (by rw [HCL.out]; omega)] at hr
      have hpw := HP.out.below HB.out
      refine ⟨fun j => U j ∨ j = w.heap.size, _, _, _, copiesM M, rfl, ⟨came_of_recs hr, ?_, fun p hp => by cases hp; exact .inr rfl, ?_, ?_⟩, copiesM_pt M, HB.out, fun j hj => hj.imp_right fun h => by omega⟩
      · rintro j (hj | rfl)
        · exact hpw.lt j hj
        · exact hr.lt _ rfl
      · intro y hy
        obtain ⟨z, hz, rfl⟩ := List.mem_map.1 hy
        exact hpw.bytes z.1 (List.fst_mem_of_mem_zipIdx hz)
      · intro y hy p hp
        obtain ⟨z, hz, rfl⟩ := List.mem_map.1 hy
        exact .inl (hpw.inB z.1 (List.fst_mem_of_mem_zipIdx hz) p hp)

open Go.RowKit
/-- what was there, and what is new since w -/
def NU (U : Nat → Prop) (w wi : World) (k : Nat) : Prop := U k ∨ (w.heap.size ≤ k ∧ k < wi.heap.size)

section
variable {U : Nat → Prop} {w wi wj : World} {g : Nat}
theorem NU.lt (hU : ∀ k, U k → k < w.heap.size) (hb : Below w.heap.size w wi) : ∀ k, NU U w wi k → k < wi.heap.size := fun k hk => hk.elim (fun h => Nat.lt_of_lt_of_le (hU k h) hb.size) (fun h => h.2)
theorem NU.more (hs : wi.heap.size ≤ wj.heap.size) : ∀ k, NU U w wi k → NU U w wj k := fun k hk => hk.imp_right fun h => ⟨h.1, Nat.lt_of_lt_of_le h.2 hs⟩
theorem step_carry {v : Value} {s : Stp} (h : StepIs wi (NU U w wi) g v s) (hU : ∀ k, U k → k < w.heap.size) (hb : Below w.heap.size w wi) (hj : Below wi.heap.size wi wj) : StepIs wj (NU U w wj) g v s :=
  (h.keep hj.size fun k hk => hj.block k (NU.lt hU hb k hk)).more (NU.more hj.size) (NU.lt hU (hb.trans (hj.mono hb.size)))
theorem puts_carry {a : Option Addr} {n cap : Nat} {M : List PutM} (h : PutsIn wi (NU U w wi) a n cap M) (hU : ∀ k, U k → k < w.heap.size) (hb : Below w.heap.size w wi) (hj : Below wi.heap.size wi wj) : PutsIn wj (NU U w wj) a n cap M :=
  (h.below hj).more (NU.more hj.size) (NU.lt hU (hb.trans (hj.mono hb.size)))
/-- a step that writes, made -/
theorem step_made {a : Option Addr} {n cap bl bd : Nat} {M : List PutM} (h : PutsIn wi (NU U w wi) a n cap M) (hU : ∀ k, U k → k < w.heap.size) (hb : Below w.heap.size w wi)
    (h1 : wj.heap[bl]? = some (.cells #[.slice a n cap] 104 (0, 0))) (h2 : wj.heap[bd]? = some (.cells #[.pointer (some ⟨g, 0, none⟩)] 23 (0, 0))) (hj : Below wi.heap.size wi wj)
    (h3 : wi.heap.size ≤ bl) (h4 : bl < wj.heap.size) (h5 : wi.heap.size ≤ bd) (h6 : bd < wj.heap.size) :
    StepIs wj (NU U w wj) g (.func (.func 132) #[] #[.pointer (some ⟨bl, 0, none⟩), .pointer (some ⟨bd, 0, none⟩)]) (.write (M.map PutM.pt)) :=
  ⟨bl, bd, a, n, cap, M, rfl, .inr ⟨Nat.le_trans hb.size h3, h4⟩, .inr ⟨Nat.le_trans hb.size h5, h6⟩, h1, h2, puts_carry h hU hb hj, rfl⟩
end

/-- one put in a slice of its own -/
theorem puts_one {w : World} {U : Nat → Prop} {B : Nat} {i : Int} {a : Option Addr} {n cap : Nat} {l : List UInt8} (h : w.heap[B]? = some (.cells (putV i a n cap) 118 (0, 0))) (hb : BytesAt w a n cap l) (hU : ∀ k, U k → k < w.heap.size) (hB : U B) (ha : ∀ p, a = some p → U p.block) :
    PutsIn w U (some ⟨B, 0, none⟩) 1 1 [⟨i, a, n, cap, l⟩] := by
  refine ⟨⟨rfl, Nat.le_refl _, by unfold maxLen; omega, fun x hx => rfl, .inr ⟨_, rfl, fun k j x hk hj => ?_⟩⟩, hU, fun p hp => by cases hp; exact hB, fun x hx => ?_, fun x hx p hp => ?_⟩
  · have hk0 : k = 0 := by have := (List.getElem?_eq_some_iff.1 hk).1; simp at this; exact this
    subst hk0
    simp only [List.getElem?_cons_zero, Option.some.injEq] at hk
    subst hk
    rw [Addr.add_mid, Nat.zero_add, Nat.zero_mul, Nat.zero_add, cell_of_row _ _ _ _ _ _ h]
    match j, hj with
    | 0, _ => rfl
    | 1, _ => rfl
  · simp only [List.mem_singleton] at hx; subst hx; exact hb
  · simp only [List.mem_singleton] at hx; subst hx; exact ha p hp

/-- steps side by side in a block -/
theorem steps_mk {w : World} {U : Nat → Prop} {g B : Nat} {vs : List Value} {ts : List Stp} (h : w.heap[B]? = some (.cells vs.toArray 156 (0, 0))) (hU : ∀ k, U k → k < w.heap.size) (hB : U B) (hl : vs.length ≤ 1000) (hts : ts.length = vs.length)
    (hst : ∀ k, k < vs.length → StepIs w U g (vs.getD k undef) (ts.getD k .flush)) : StepsIn w U g (some ⟨B, 0, none⟩) vs.length vs.length ts := by
  refine ⟨hts, hU, vs, ⟨rfl, Nat.le_refl _, by unfold maxLen; omega, fun x hx => rfl, .inr ⟨_, rfl, fun k j x hk hj => ?_⟩⟩, fun p hp => by cases hp; exact hB, hst⟩
  obtain rfl : j = 0 := by omega
  rw [Addr.add_mid, Nat.zero_add, Nat.mul_one, Nat.add_zero, cell_of_row _ _ _ _ _ _ h, ← Array.getElem?_toList, List.toList_toArray, hk]
  rfl

theorem built_put (i : Int) (a : Option Addr) (n cap : Nat) : ∀ w : World, (Instr.buildSlice 104 1 #[(0, .agg (putV i a n cap))]).run Tryz.prog w = .ok (.slice (some ⟨w.heap.size, 0, none⟩) 1 1) (w.alloc (.cells (putV i a n cap) 118)) := fun w => by
  obtain ⟨i0, hi, hz0, hz1, hz2⟩ := info_parts infoPut
  exact run_buildSlice_one w _ _ _ i0 _ 2 Tryz.underlying104 hi hz0 hz1 rfl (by omega) (by omega)

theorem infoStep : (Tryz.prog.info? 156).map (fun i => (i.zero, i.size, i.bytes)) = some (some .nilFunc, 1, 8) := by kernel_rfl
theorem steps_side (vs : List Value) (h : ∀ v ∈ vs, v.cells = #[v]) : ∀ o, SideBy (fun i => some (i * 1, 1)) o (vs.zipIdx o |>.map fun x => (x.2, x.1)) := by
  induction vs with
  | nil => intro o; trivial
  | cons v vs ih =>
    intro o
    have hv : v.cells.size = 1 := by rw [h v (by simp)]; rfl
    refine ⟨show some (o * 1, 1) = some (o, v.cells.size) by rw [hv, Nat.mul_one], ?_⟩
    rw [hv]
    exact ih (fun u hu => h u (by simp [hu])) (o + 1)
theorem steps_flat (vs : List Value) (h : ∀ v ∈ vs, v.cells = #[v]) : ∀ o, ((vs.zipIdx o).map fun x => (x.2, x.1)).flatMap (fun x => x.2.cells.toList) = vs := by
  induction vs with
  | nil => intro o; rfl
  | cons v vs ih =>
    intro o
    have := ih (fun u hu => h u (by simp [hu])) (o + 1)
    simp only [List.zipIdx_cons, List.map_cons, List.flatMap_cons, h v (by simp), this]
    rfl
theorem built_steps (vs : List Value) (h : ∀ v ∈ vs, v.cells = #[v]) (h1 : 1 ≤ vs.length) (h2 : vs.length ≤ 1000) (ps : Array (Nat × Value)) (hps : ps.toList = (vs.zipIdx 0).map fun x => (x.2, x.1)) (n : Nat) (hn : n = vs.length) :
    ∀ w : World, (Instr.buildSlice 195 n ps).run Tryz.prog w = .ok (.slice (some ⟨w.heap.size, 0, none⟩) n n) (w.alloc (.cells vs.toArray 156)) := fun w => by
  subst hn
  obtain ⟨i0, hi, hz0, hz1, hz2⟩ := info_parts infoStep
  refine run_buildSlice w _ _ _ ps _ i0 _ Tryz.underlying195 hi hz0 (by rw [hz1]; omega) (by rw [hz1]; omega) ?_
  rw [hz1, hps]
  have := fill_whole (fun i => some (i * 1, 1)) ((Array.range (vs.length * 1)).map fun x => (Value.nilFunc).cells[x % (Value.nilFunc).cells.size]!) ((vs.zipIdx 0).map fun x => (x.2, x.1)) (steps_side vs h 0) (by rw [steps_flat vs h 0]; simp)
  rw [steps_flat vs h 0] at this
  exact this

def flushV (g : Nat) : Value := .func (.func 28) #[.pointer (some ⟨g, 0, none⟩)] #[]
def writeV (bl bd : Nat) : Value := .func (.func 132) #[] #[.pointer (some ⟨bl, 0, none⟩), .pointer (some ⟨bd, 0, none⟩)]
theorem flushV_cells (g : Nat) : (flushV g).cells = #[flushV g] := rfl
theorem writeV_cells (bl bd : Nat) : (writeV bl bd).cells = #[writeV bl bd] := rfl

set_option maxHeartbeats 1000000 in
set_option maxRecDepth 100000 in
theorem format_any (g : Nat) (D : Dk) (S : Nat → Prop) (w : World) (h : DiskAt w S g D) (hf : D.waits.length ≤ 1073741000) :
    Calls Tryz.prog 42 #[.pointer (some ⟨g, 0, none⟩)] w (DiskTo (.int .i64 (formatOf D).1) S g (formatOf D).2 w) := by
  unfold formatOf
  by_cases hs : 41 < D.secs.length
  · rw [if_pos hs]
    have CH := Lib.hid (home_yes g D S w h hs)
    have HD := Lib.hid h
    clear h hs
    go_enter Tryz.func42, Tryz.ntmps42
    go_wp2_with fail
    refine (CH.out).mono ?_
    rintro e w1 ⟨rfl, rfl⟩
    go_wp2_with fail
    refine (empty_any _).mono ?_
    rintro e w2 ⟨b, rfl, hby, hb2, hlo, hhi⟩
    go_wp2_with (refine wpList_buildSliceV rfl 104 1 _ rfl #[(0, .agg (putV 0 (some ⟨b, 0, none⟩) 128 128))] (by simp [go_sem]) _ _ (built_put 0 _ _ _ _) ?_)
    have hbw2 : Below w.heap.size w (w2.alloc (.cells (putV 0 (some ⟨b, 0, none⟩) 128 128) 118)) := hb2.alloc hb2.size _
    have hp := puts_one (U := NU (fun _ => False) w (w2.alloc (.cells (putV 0 (some ⟨b, 0, none⟩) 128 128) 118))) (heap_alloc_new w2 (.cells (putV 0 (some ⟨b, 0, none⟩) 128 128) 118)) (hby.below ((Below.refl _ _).alloc (Nat.le_refl _) _)) (NU.lt (by simp) hbw2) (.inr ⟨hb2.size, by simp⟩) (fun p hp => by cases hp; exact .inr ⟨hlo, by simp; omega⟩)
    have HP := Lib.hid hp
    have HBW := Lib.hid hbw2
    clear hp hbw2 hby hlo hhi hb2
    refine (write_step g _ 1 1 _).mono ?_
    rintro e w4 ⟨bl, bd, rfl, k1, k2, hb4, k3, k4, k5, k6⟩
    have hs1 := step_made HP.out (by simp) HBW.out k1 k2 hb4 k3 k4 k5 k6
    have hb4' : Below w.heap.size w w4 := HBW.out.trans (hb4.mono HBW.out.size)
    have HS1 := Lib.hid hs1
    have HB4 := Lib.hid hb4'
    clear hs1 k1 k2 hb4 k3 k4 k5 k6 hb4' HP HBW
    go_wp2_with (refine wpList_buildSliceV rfl 195 2 _ rfl #[(0, writeV bl bd), (1, flushV g)] (by simp [go_sem, writeV, flushV]) _ _ (built_steps [writeV bl bd, flushV g] (by simp [flushV_cells, writeV_cells]) (by simp) (by simp) _ rfl 2 rfl _) ?_)
    have hb5 : Below w4.heap.size w4 (w4.alloc (.cells #[writeV bl bd, flushV g] 156)) := (Below.refl _ _).alloc (Nat.le_refl _) _
    have hb5' : Below w.heap.size w (w4.alloc (.cells #[writeV bl bd, flushV g] 156)) := HB4.out.alloc HB4.out.size _
    have hs2 := step_carry HS1.out (by simp) HB4.out hb5
    have CR := Lib.hid (run_any g D S (NU (fun _ => False) w (w4.alloc (.cells #[writeV bl bd, flushV g] 156))) (some ⟨w4.heap.size, 0, none⟩) 2 2 formatR _ (HD.out.below hb5')
      (fun k hk hS => hk.elim id fun h => by have := HD.out.lt k hS; omega)
      (steps_mk (vs := [writeV bl bd, flushV g]) (heap_alloc_new w4 _) (NU.lt (by simp) hb5') (.inr ⟨HB4.out.size, by simp⟩) (by simp) rfl (fun k hk => by
        match k, hk with
        | 0, _ => exact hs2
        | 1, _ => exact rfl)) (by omega) (by rw [formatR_costs]; omega))
    have HB5 := Lib.hid hb5'
    clear hb5 hb5' hs2
    refine (CR.out).mono ?_
    rintro e w6 ⟨rfl, S6, hd6, ho6, hs6⟩
    go_wp2
    go_ret
    exact ⟨rfl, S6, hd6, (Only.of_below HB5.out).trans ho6 (fun _ _ h => h), fun k hk => (hs6 k hk).imp_right fun h => Nat.le_trans HB5.out.size h⟩
  · rw [if_neg hs]
    have CH := Lib.hid (home_no g D S w h hs)
    have HD := Lib.hid h
    clear h hs
    go_enter Tryz.func42, Tryz.ntmps42
    go_wp2_with fail
    refine (CH.out).mono ?_
    rintro e w1 ⟨rfl, rfl⟩
    go_wp2
    go_ret
    exact diskTo_same _ HD.out

set_option maxHeartbeats 4000000 in
set_option maxRecDepth 100000 in
theorem commit_any (g : Nat) (D : Dk) (S U : Nat → Prop) (a : Option Addr) (n cap : Nat) (M : List PutM) (w : World) (h : DiskAt w S g D) (hU : ∀ k, U k → ¬ S k) (hp : PutsIn w U a n cap M) (hf : D.waits.length ≤ 1073741000) :
    Calls Tryz.prog 50 #[.pointer (some ⟨g, 0, none⟩), .slice a n cap] w (DiskTo (.int .i64 (commitOf D (M.map PutM.pt)).1) S g (commitOf D (M.map PutM.pt)).2 w) := by
  have CS := Lib.hid (size_any g D S w h)
  have CV := Lib.hid (valid_any U a n cap M D.secs.length w hp)
  unfold commitOf
  cases hm : mayB (M.map PutM.pt) D.secs.length with
  | false =>
    rw [hm] at CV
    have HD := Lib.hid h
    clear hm h hp hU
    go_enter Tryz.func50, Tryz.ntmps50
    go_wp2_with fail
    refine (CS.out).mono ?_
    rintro e w1 ⟨rfl, rfl⟩
    go_wp2_with fail
    refine (CV.out).mono ?_
    rintro e w1 ⟨rfl, hb1⟩
    go_wp2
    go_ret
    exact ⟨rfl, S, HD.out.below hb1, Only.of_below hb1, fun k hk => .inl hk⟩
  | true =>
    obtain ⟨hfew, hat⟩ := may_at hm (by have := h.ok.many; omega)
    have hn := hp.mlen
    have hUlt := hp.lt
    have HAT := Lib.hid hat
    have HD := Lib.hid h
    have HU := Lib.hid hU
    have HP := Lib.hid hp
    have HUL := Lib.hid hUlt
    have HN := Lib.hid (show n ≤ 40 by omega)
    have HHL := Lib.hid (hdL_length (M.map PutM.pt) (by rw [List.length_map]; exact hfew))
    have HCO := Lib.hid (commitR_costs (M.map PutM.pt) (by rw [List.length_map]; exact hfew))
    rw [hm] at CV
    simp only [if_true]
    clear hm hat h hU hp hUlt hfew hn
    go_enter Tryz.func50, Tryz.ntmps50
    go_wp2_with fail
    refine (CS.out).mono ?_
    rintro e w1 ⟨rfl, rfl⟩
    go_wp2_with fail
    refine (CV.out).mono ?_
    rintro e w1 ⟨rfl, hb1⟩
    have B1 := Lib.hid hb1
    clear hb1 CS CV
    -- the copies
    go_wp2_with fail
    refine (copies_any U a n cap M w1 (HP.out.below B1.out) HN.out).mono ?_
    rintro e w2 ⟨U2, a2, n2, c2, M2, rfl, hp2, hm2, hb2, hU2⟩
    have B2 := Lib.hid (B1.out.trans (hb2.mono B1.out.size))
    have P2 := Lib.hid (show PutsIn w2 (NU U w w2) a2 n2 c2 M2 from hp2.more (fun k hk => (hU2 k hk).imp_right fun h => ⟨Nat.le_trans B1.out.size h, hp2.lt k hk⟩) (NU.lt HUL.out B2.out))
    clear hp2 hb2 hU2
    go_wp2_with fail
    refine (write_step g a2 n2 c2 w2).mono ?_
    rintro e w3 ⟨bl1, bd1, rfl, k1, k2, hb3, k3, k4, k5, k6⟩
    have S3 := Lib.hid (step_made P2.out HUL.out B2.out k1 k2 hb3 k3 k4 k5 k6)
    rw [hm2] at S3
    have B3 := Lib.hid (B2.out.trans (hb3.mono B2.out.size))
    clear k1 k2 hb3 k3 k4 k5 k6 hm2 P2
    -- the head
    go_wp2_with fail
    refine (headof_any U a n cap M w3 (HP.out.below B3.out) HN.out HAT.out).mono ?_
    rintro e w4 ⟨a4, c4, rfl, ho4, hb4⟩
    have B4 := Lib.hid (B3.out.trans (hb4.mono B3.out.size))
    have S4 := Lib.hid (step_carry S3.out HUL.out B3.out hb4)
    have Y4 := Lib.hid (BytesAt.owned ho4)
    have A4 := Lib.hid (show ∀ p, a4 = some p → w.heap.size ≤ p.block ∧ p.block < w4.heap.size from fun p hp => by
      subst hp
      have h1 := ho4.lt p.block rfl
      exact ⟨Nat.le_trans B3.out.size h1.1, h1.2⟩)
    clear ho4 hb4 S3
    dsimp only [id]
    go_wp2_with fail
    refine (head_any a4 128 c4 w4).mono ?_
    rintro e w5 ⟨rfl, hb5⟩
    have B5 := Lib.hid (B4.out.trans (hb5.mono B4.out.size))
    have S5 := Lib.hid (step_carry S4.out HUL.out B4.out hb5)
    have Y5 := Lib.hid (Y4.out.below hb5)
    have A5 := Lib.hid (show ∀ p, a4 = some p → w.heap.size ≤ p.block ∧ p.block < w5.heap.size from fun p hp => ⟨(A4.out p hp).1, Nat.lt_of_lt_of_le (A4.out p hp).2 hb5.size⟩)
    clear hb5 S4 Y4 A4
    go_wp2_with (refine wpList_buildSliceV rfl 104 1 _ rfl #[(0, .agg (putV 0 a4 128 c4))] (by simp [go_sem]) _ _ (built_put 0 _ _ _ _) ?_)
    have hb6 : Below w5.heap.size w5 (w5.alloc (.cells (putV 0 a4 128 c4) 118)) := (Below.refl _ _).alloc (Nat.le_refl _) _
    have hbw6 : Below w.heap.size w (w5.alloc (.cells (putV 0 a4 128 c4) 118)) := B5.out.alloc B5.out.size _
    have hp6 := puts_one (U := NU U w (w5.alloc (.cells (putV 0 a4 128 c4) 118))) (heap_alloc_new w5 (.cells (putV 0 a4 128 c4) 118)) (Y5.out.below hb6) (NU.lt HUL.out hbw6) (.inr ⟨B5.out.size, by simp⟩) (fun p hp => .inr ⟨(A5.out p hp).1, by have := (A5.out p hp).2; simp; omega⟩)
    have P6 := Lib.hid hp6
    have S6 := Lib.hid (step_carry S5.out HUL.out B5.out hb6)
    have B6 := Lib.hid hbw6
    clear hb6 hbw6 hp6 S5 Y5 A5
    generalize w5.alloc (.cells (putV 0 a4 128 c4) 118) = w6 at *
    refine (write_step g _ 1 1 w6).mono ?_
    rintro e w7 ⟨bl2, bd2, rfl, k1, k2, hb7, k3, k4, k5, k6⟩
    have T7 := Lib.hid (step_made P6.out HUL.out B6.out k1 k2 hb7 k3 k4 k5 k6)
    have S7 := Lib.hid (step_carry S6.out HUL.out B6.out hb7)
    have B7 := Lib.hid (B6.out.trans (hb7.mono B6.out.size))
    clear k1 k2 hb7 k3 k4 k5 k6 S6 P6
    -- home
    go_wp2_with fail
    refine (write_step g a n cap w7).mono ?_
    rintro e w8 ⟨bl3, bd3, rfl, k1, k2, hb8, k3, k4, k5, k6⟩
    have R8 := Lib.hid (step_made ((HP.out.below B7.out).more (fun k hk => .inl hk) (NU.lt HUL.out B7.out)) HUL.out B7.out k1 k2 hb8 k3 k4 k5 k6)
    have T8 := Lib.hid (step_carry T7.out HUL.out B7.out hb8)
    have S8 := Lib.hid (step_carry S7.out HUL.out B7.out hb8)
    have B8 := Lib.hid (B7.out.trans (hb8.mono B7.out.size))
    clear k1 k2 hb8 k3 k4 k5 k6 S7 T7
    -- the empty head
    go_wp2_with fail
    refine (empty_any w8).mono ?_
    rintro e w9 ⟨b9, rfl, hy9, hb9, hlo, hhi⟩
    have B9 := Lib.hid (B8.out.trans (hb9.mono B8.out.size))
    have Y9 := Lib.hid hy9
    have A9 := Lib.hid (show w.heap.size ≤ b9 ∧ b9 < w9.heap.size from ⟨Nat.le_trans B8.out.size hlo, hhi⟩)
    have R9 := Lib.hid (step_carry R8.out HUL.out B8.out hb9)
    have T9 := Lib.hid (step_carry T8.out HUL.out B8.out hb9)
    have S9 := Lib.hid (step_carry S8.out HUL.out B8.out hb9)
    clear hy9 hb9 hlo hhi R8 T8 S8
    go_wp2_with (refine wpList_buildSliceV rfl 104 1 _ rfl #[(0, .agg (putV 0 (some ⟨b9, 0, none⟩) 128 128))] (by simp [go_sem]) _ _ (built_put 0 _ _ _ _) ?_)
    have hb10 : Below w9.heap.size w9 (w9.alloc (.cells (putV 0 (some ⟨b9, 0, none⟩) 128 128) 118)) := (Below.refl _ _).alloc (Nat.le_refl _) _
    have hbw10 : Below w.heap.size w (w9.alloc (.cells (putV 0 (some ⟨b9, 0, none⟩) 128 128) 118)) := B9.out.alloc B9.out.size _
    have hp10 := puts_one (U := NU U w (w9.alloc (.cells (putV 0 (some ⟨b9, 0, none⟩) 128 128) 118))) (heap_alloc_new w9 (.cells (putV 0 (some ⟨b9, 0, none⟩) 128 128) 118)) (Y9.out.below hb10) (NU.lt HUL.out hbw10) (.inr ⟨B9.out.size, by simp⟩) (fun p hp => by cases hp; exact .inr ⟨A9.out.1, by have := A9.out.2; simp; omega⟩)
    have P10 := Lib.hid hp10
    have R10 := Lib.hid (step_carry R9.out HUL.out B9.out hb10)
    have T10 := Lib.hid (step_carry T9.out HUL.out B9.out hb10)
    have S10 := Lib.hid (step_carry S9.out HUL.out B9.out hb10)
    have B10 := Lib.hid hbw10
    clear hb10 hbw10 hp10 R9 T9 S9 Y9 A9
    generalize w9.alloc (.cells (putV 0 (some ⟨b9, 0, none⟩) 128 128) 118) = w10 at *
    refine (write_step g _ 1 1 w10).mono ?_
    rintro e w11 ⟨bl4, bd4, rfl, k1, k2, hb11, k3, k4, k5, k6⟩
    have V11 := Lib.hid (step_made P10.out HUL.out B10.out k1 k2 hb11 k3 k4 k5 k6)
    have R11 := Lib.hid (step_carry R10.out HUL.out B10.out hb11)
    have T11 := Lib.hid (step_carry T10.out HUL.out B10.out hb11)
    have S11 := Lib.hid (step_carry S10.out HUL.out B10.out hb11)
    have B11 := Lib.hid (B10.out.trans (hb11.mono B10.out.size))
    clear k1 k2 hb11 k3 k4 k5 k6 R10 T10 S10 P10
    -- the list
    go_wp2_with (refine wpList_buildSliceV rfl 195 8 _ rfl #[(0, writeV bl1 bd1), (1, flushV g), (2, writeV bl2 bd2), (3, flushV g), (4, writeV bl3 bd3), (5, flushV g), (6, writeV bl4 bd4), (7, flushV g)] (by simp [go_sem, writeV, flushV]) _ _ (built_steps [writeV bl1 bd1, flushV g, writeV bl2 bd2, flushV g, writeV bl3 bd3, flushV g, writeV bl4 bd4, flushV g] (by simp [flushV_cells, writeV_cells]) (by simp) (by simp) _ rfl 8 rfl _) ?_)
    have hb12 : Below w11.heap.size w11 (w11.alloc (.cells #[writeV bl1 bd1, flushV g, writeV bl2 bd2, flushV g, writeV bl3 bd3, flushV g, writeV bl4 bd4, flushV g] 156)) := (Below.refl _ _).alloc (Nat.le_refl _) _
    have hbw12 : Below w.heap.size w (w11.alloc (.cells #[writeV bl1 bd1, flushV g, writeV bl2 bd2, flushV g, writeV bl3 bd3, flushV g, writeV bl4 bd4, flushV g] 156)) := B11.out.alloc B11.out.size _
    have hV := step_carry V11.out HUL.out B11.out hb12
    have hR := step_carry R11.out HUL.out B11.out hb12
    have hT := step_carry T11.out HUL.out B11.out hb12
    have hS := step_carry S11.out HUL.out B11.out hb12
    have CR := Lib.hid (run_any g D S (NU U w (w11.alloc (.cells #[writeV bl1 bd1, flushV g, writeV bl2 bd2, flushV g, writeV bl3 bd3, flushV g, writeV bl4 bd4, flushV g] 156))) (some ⟨w11.heap.size, 0, none⟩) 8 8 (commitR (M.map PutM.pt)) _ (HD.out.below hbw12)
      (fun k hk hS => hk.elim (fun h => HU.out k h hS) fun h => by have := HD.out.lt k hS; omega)
      (steps_mk (vs := [writeV bl1 bd1, flushV g, writeV bl2 bd2, flushV g, writeV bl3 bd3, flushV g, writeV bl4 bd4, flushV g]) (heap_alloc_new w11 _) (NU.lt HUL.out hbw12) (.inr ⟨B11.out.size, by simp⟩) (by simp) rfl (fun k hk => by
        match k, hk with
        | 0, _ => exact hS
        | 1, _ => exact rfl
        | 2, _ => exact hT
        | 3, _ => exact rfl
        | 4, _ => exact hR
        | 5, _ => exact rfl
        | 6, _ => exact hV
        | 7, _ => exact rfl)) (by omega) (by have := HCO.out; omega))
    have B12 := Lib.hid hbw12
    clear hb12 hbw12 hV hR hT hS
    refine (CR.out).mono ?_
    rintro e w13 ⟨rfl, S13, hd13, ho13, hs13⟩
    go_wp2
    go_ret
    exact ⟨rfl, S13, hd13, (Only.of_below B12.out).trans ho13 (fun _ _ h => h), fun k hk => (hs13 k hk).imp_right fun h => Nat.le_trans B12.out.size h⟩

end Go.Proofs.YtjcmphjjkeigjaaGreat

namespace Go.Proofs.YtjcmphjjkeigjaaGreat
open Go.RowKit
set_option linter.unusedVariables false
set_option linter.unusedSimpArgs false

def slC (x : Option Addr × Nat × Nat) : List Value := [.slice x.1 x.2.1 x.2.2]
theorem slC_one (x : Option Addr × Nat × Nat) : ∀ u ∈ slC x, u.oneCell' = true := by
  intro u hu
  simp only [slC, List.mem_cons, List.not_mem_nil, or_false] at hu
  subst hu; rfl
theorem infoSl : (Tryz.prog.info? 49).map (fun i => (i.zero, i.size, i.bytes)) = some (some (.slice none 0 0), 1, 24) := by kernel_rfl

/-- sectors in rows of memory that is new since w -/
structure RowsIn (w wr : World) (b : Nat) (R : List (Option Addr × Nat × Nat)) (L : List (List UInt8)) (n : Nat) : Prop where
  len : L.length = R.length
  recs : Recs slC wr 49 1 (.slice (some ⟨b, 0, none⟩) n n) (R ++ List.replicate (n - R.length) (none, 0, 0))
  bytes : ∀ k, k < R.length → BytesAt wr (R.getD k (none, 0, 0)).1 (R.getD k (none, 0, 0)).2.1 (R.getD k (none, 0, 0)).2.2 (L.getD k [])
  new : ∀ k, k < R.length → ∀ p, (R.getD k (none, 0, 0)).1 = some p → w.heap.size ≤ p.block ∧ p.block < wr.heap.size ∧ p.block ≠ b
  newB : w.heap.size ≤ b ∧ b < wr.heap.size
  below : Below w.heap.size w wr

theorem RowsIn.next {w wr w1 : World} {b n : Nat} {R : List (Option Addr × Nat × Nat)} {L : List (List UInt8)} (h : RowsIn w wr b R L n) (hlt : R.length < n) {a : Option Addr} {m c : Nat} {l : List UInt8} (hb : Below wr.heap.size wr w1) (hl : BytesAt w1 a m c l) (ha : ∀ p, a = some p → wr.heap.size ≤ p.block ∧ p.block < w1.heap.size) :
    RowsIn w (w1.setCell ⟨b, R.length, none⟩ (.slice a m c)) b (R ++ [(a, m, c)]) (L ++ [l]) n := by
  have h1 := h.recs.below hb
  have h2 := h1.stored R.length 0 (by simp; omega) (by omega) (a, m, c) (.slice a m c) rfl rfl
  have hsz : (w1.setCell ⟨b, R.length, none⟩ (.slice a m c)).heap.size = w1.heap.size := by simp [World.setCell]
  have hg := setCell_grown w1 b R.length (.slice a m c)
  have hbl := h.newB
  have hbs := hb.size
  refine ⟨by simp [h.len], ?_, fun k hk => ?_, fun k hk p hp => ?_, ⟨hbl.1, by rw [hsz]; omega⟩, ?_⟩
  · rw [Nat.mul_one, Nat.add_zero] at h2
    have e : (R ++ List.replicate (n - R.length) (none, 0, 0)).set R.length (a, m, c) = (R ++ [(a, m, c)]) ++ List.replicate (n - (R ++ [(a, m, c)]).length) (none, 0, 0) := by
      rw [List.set_append, if_neg (by omega), Nat.sub_self, show n - R.length = (n - (R ++ [(a, m, c)]).length) + 1 by simp; omega, List.replicate_succ, List.set_cons_zero]
      simp
    rw [e] at h2
    exact h2
  · rw [List.length_append, List.length_singleton] at hk
    by_cases hkl : k < R.length
    · have e1 : (R ++ [(a, m, c)]).getD k (none, 0, 0) = R.getD k (none, 0, 0) := by rw [List.getD, List.getElem?_append_left hkl]; rfl
      have e2 : (L ++ [l]).getD k [] = L.getD k [] := by rw [List.getD, List.getElem?_append_left (by rw [h.len]; exact hkl)]; rfl
      rw [e1, e2]
      exact ((h.bytes k hkl).below hb).grown hg (fun x hx => by have := (h.new k hkl x hx).2.2; simpa using this)
    · obtain rfl : k = R.length := by omega
      have e1 : (R ++ [(a, m, c)]).getD R.length (none, 0, 0) = (a, m, c) := by simp [List.getD]
      have e2 : (L ++ [l]).getD R.length [] = l := by rw [← h.len]; simp [List.getD]
      rw [e1, e2]
      exact hl.grown hg (fun x hx => by have := (ha x hx).1; simp; omega)
  · rw [List.length_append, List.length_singleton] at hk
    rw [hsz]
    by_cases hkl : k < R.length
    · have e1 : (R ++ [(a, m, c)]).getD k (none, 0, 0) = R.getD k (none, 0, 0) := by rw [List.getD, List.getElem?_append_left hkl]; rfl
      rw [e1] at hp
      have := h.new k hkl p hp
      exact ⟨this.1, by omega, this.2.2⟩
    · obtain rfl : k = R.length := by omega
      have e1 : (R ++ [(a, m, c)]).getD R.length (none, 0, 0) = (a, m, c) := by simp [List.getD]
      rw [e1] at hp
      have := ha p hp
      have := h.below.size
      exact ⟨by omega, by omega, by omega⟩
  · exact (h.below.trans (hb.mono h.below.size)).setCell hbl.1 _

def RowsTo (D : Dk) (w : World) (e : Ending) (w' : World) : Prop :=
  ∃ b R, e = .returned (.tuple #[.slice (some ⟨b, 0, none⟩) 41 41, .int .i64 0]) ∧ R.length = 41 ∧ RowsIn w w' b R (rowsL D) 41

theorem rowsL_take (D : Dk) (k : Nat) (hk : k < 41) : (rowsL D).take (k + 1) = (rowsL D).take k ++ [D.content k] := by
  rw [List.take_succ_eq_append_getElem (by simp [rowsL]; exact hk)]
  simp [rowsL]

set_option maxHeartbeats 1000000 in
set_option maxRecDepth 100000 in
theorem rows_yes (g : Nat) (D : Dk) (S : Nat → Prop) (w : World) (h : DiskAt w S g D) (hs : 41 < D.secs.length) (hp : D.power = true) :
    Calls Tryz.prog 117 #[.pointer (some ⟨g, 0, none⟩)] w (RowsTo D w) := by
  obtain ⟨i0, hi, hz0, hz1, hz2⟩ := info_parts infoSl
  have hmk : ∀ u, (Instr.makeSlice 190 (.int .i64 41) (.int .i64 41)).run Tryz.prog u = .ok (.slice (some ⟨u.heap.size, 0, none⟩) 41 41) (u.alloc (.cells (madeCells #[.slice none 0 0] 41) 49)) := fun u => by
    have := run_make u 190 49 i0 _ Tryz.underlying190 hi hz0 .i64 .i64 41 41 (by omega) (by omega) (by rw [hz2]; omega) (by omega)
    rw [hz1] at this
    simpa [Value.cells] using this
  have hr0 : RowsIn w (w.alloc (.cells (madeCells #[.slice none 0 0] 41) 49)) w.heap.size [] [] 41 := by
    refine ⟨rfl, ?_, fun k hk => by simp at hk, fun k hk => by simp at hk, ⟨Nat.le_refl _, by simp⟩, (Below.refl _ _).alloc (Nat.le_refl _) _⟩
    have := World.ownsRow_lit (base := 0) (e := 49) (size := 1) w (madeCells #[.slice none 0 0] 41) 41 (Nat.zero_le _) (by unfold maxLen; omega) (by rw [size_madeCells])
    exact recs_made (none, 0, 0) #[.slice none 0 0] rfl (slC_one _) (by simp) this
  have HR0 := Lib.hid hr0
  have HD := Lib.hid h
  clear hi hz0 hz1 hz2 hr0 h
  generalize madeCells #[.slice none 0 0] 41 = C at *
  go_enter Tryz.func117, Tryz.ntmps117
  go_wp2
  go_loopw [11] (fun i wr => ∃ (k : Nat) (R : List (Option Addr × Nat × Nat)), k ≤ 41 ∧ i = .int .i64 k ∧ R.length = k ∧ RowsIn w wr w.heap.size R ((rowsL D).take k) 41) (fun i _ => 41 - (intOf i).toNat)
  case atStart => exact ⟨0, [], by omega, rfl, rfl, HR0.out⟩
  case round =>
    obtain ⟨k, R, hk, rfl, hRl, hr⟩ := hrel
    have HR := Lib.hid hr
    have HRL := Lib.hid hRl
    clear hr hRl
    by_cases hlt : k < 41
    · have CR := Lib.hid (read_yes g k D S wr (HD.out.below HR.out.below) (by omega) hp)
      have HTK := Lib.hid (rowsL_take D k hlt)
      have hki : (k : Int) < 41 := by omega
      go_wp2_with fail
      refine (CR.out).mono ?_
      rintro e w1 ⟨a, cap, rfl, hl, hb, ha⟩
      have hbl := HR.out.newB
      have hcell : w1.cell? ⟨w.heap.size, k, none⟩ = some (.slice none 0 0) := by
        have := (HR.out.recs.below hb).cellAt k 0 (none, 0, 0) (by rw [List.getElem?_append_right (by rw [HRL.out]; omega), HRL.out, Nat.sub_self, List.getElem?_replicate, if_pos (by omega)]) (by omega)
        simpa [slC] using this
      have hfz := (HR.out.recs.below hb).frozenAt k
      have HN := Lib.hid (HR.out.next (by rw [HRL.out]; exact hlt) hb hl ha)
      rw [HRL.out, ← HTK.out] at HN
      clear hl hb ha hbl CR
      go_wp2
      go_roundw
      case rel => exact ⟨k + 1, R ++ [(a, 128, cap)], by omega, by go_num, by simp [HRL.out], HN.out⟩
      case measure => simp [intOf]; omega
    · obtain rfl : k = 41 := by omega
      have hrr := HR.out
      rw [List.take_of_length_le (by simp [rowsL])] at hrr
      have HR2 := Lib.hid hrr
      clear hrr
      go_wp2
      go_ret2
      exact ⟨w.heap.size, R, rfl, HRL.out, HR2.out⟩

set_option maxHeartbeats 1000000 in
set_option maxRecDepth 100000 in
theorem rows_off (g : Nat) (D : Dk) (S : Nat → Prop) (w : World) (h : DiskAt w S g D) (hs : 41 < D.secs.length) (hp : D.power = false) :
    Calls Tryz.prog 117 #[.pointer (some ⟨g, 0, none⟩)] w fun e w' => e = .returned (.tuple #[.slice none 0 0, .int .i64 10]) ∧ Below w.heap.size w w' := by
  obtain ⟨i0, hi, hz0, hz1, hz2⟩ := info_parts infoSl
  have hmk : ∀ u, (Instr.makeSlice 190 (.int .i64 41) (.int .i64 41)).run Tryz.prog u = .ok (.slice (some ⟨u.heap.size, 0, none⟩) 41 41) (u.alloc (.cells (madeCells #[.slice none 0 0] 41) 49)) := fun u => by
    have := run_make u 190 49 i0 _ Tryz.underlying190 hi hz0 .i64 .i64 41 41 (by omega) (by omega) (by rw [hz2]; omega) (by omega)
    rw [hz1] at this
    simpa [Value.cells] using this
  have HD := Lib.hid h
  clear hi hz0 hz1 hz2 h
  generalize madeCells #[.slice none 0 0] 41 = C at *
  have CR := Lib.hid (fun u (hb : Below w.heap.size w u) => read_off g 0 D S u (HD.out.below hb) (by omega) hp)
  go_enter Tryz.func117, Tryz.ntmps117
  go_wp2
  go_loopw [11] (fun i wr => i = .int .i64 ((0 : Nat) : Int) ∧ Below w.heap.size w wr) (fun _ _ => 0)
  case atStart => exact ⟨rfl, (Below.refl _ _).alloc (Nat.le_refl _) _⟩
  case round =>
    obtain ⟨rfl, hb⟩ := hrel
    have HB := Lib.hid hb
    clear hb
    go_wp2_with fail
    refine (CR.out _ HB.out).mono ?_
    rintro e w1 ⟨rfl, rfl⟩
    go_wp2
    go_ret2
    exact ⟨rfl, HB.out⟩

open Go.RowKit
def namedM (R : List (Option Addr × Nat × Nat)) (L : List (List UInt8)) (c : Nat) : List PutM :=
  (List.range c).map fun k => ⟨(le (((L.getD 0 []).drop (10 + 2 * k)).take 2) : Nat), (R.getD (1 + k) (none, 0, 0)).1, (R.getD (1 + k) (none, 0, 0)).2.1, (R.getD (1 + k) (none, 0, 0)).2.2, L.getD (1 + k) []⟩
theorem namedM_length (R : List (Option Addr × Nat × Nat)) (L : List (List UInt8)) (c : Nat) : (namedM R L c).length = c := by simp [namedM]
theorem namedM_at (R : List (Option Addr × Nat × Nat)) (L : List (List UInt8)) (c k : Nat) (hk : k < c) : (namedM R L c)[k]? = some ⟨(le (((L.getD 0 []).drop (10 + 2 * k)).take 2) : Nat), (R.getD (1 + k) (none, 0, 0)).1, (R.getD (1 + k) (none, 0, 0)).2.1, (R.getD (1 + k) (none, 0, 0)).2.2, L.getD (1 + k) []⟩ := by
  simp [namedM, hk]
theorem namedM_pt (R : List (Option Addr × Nat × Nat)) (L : List (List UInt8)) (h : ¬ 40 < le (((L.getD 0 []).drop 4).take 2)) : (namedM R L (le (((L.getD 0 []).drop 4).take 2))).map PutM.pt = namedL L := by
  unfold namedL namedM
  rw [if_neg h, List.map_map]
  rfl

theorem RowsIn.cell {w wr : World} {b n : Nat} {R : List (Option Addr × Nat × Nat)} {L : List (List UInt8)} (h : RowsIn w wr b R L n) (hn : R.length = n) (k : Nat) (hk : k < n) :
    wr.cell? ⟨b, k, none⟩ = some (.slice (R.getD k (none, 0, 0)).1 (R.getD k (none, 0, 0)).2.1 (R.getD k (none, 0, 0)).2.2) := by
  have hx : (R ++ List.replicate (n - R.length) (none, 0, 0))[k]? = some (R.getD k (none, 0, 0)) := by
    rw [List.getElem?_append_left (by omega), List.getD, List.getElem?_eq_getElem (by omega)]; rfl
  have := h.recs.cellAt k 0 _ hx (by omega)
  simpa [slC] using this
theorem RowsIn.carry {w wr w1 : World} {b n : Nat} {R : List (Option Addr × Nat × Nat)} {L : List (List UInt8)} (h : RowsIn w wr b R L n) (hb : Below wr.heap.size wr w1) : RowsIn w w1 b R L n :=
  ⟨h.len, h.recs.below hb, fun k hk => (h.bytes k hk).below hb, fun k hk p hp => by
    have := h.new k hk p hp
    have := hb.size
    exact ⟨by omega, by omega, by omega⟩, ⟨h.newB.1, Nat.lt_of_lt_of_le h.newB.2 hb.size⟩, h.below.trans (hb.mono h.below.size)⟩

theorem rraw_ok (l : List UInt8) (at_ m : Nat) (h : at_ + m ≤ l.length) : rRaw l at_ 0 m = ((l.drop at_).take m, at_ + m, 0) := by
  simp only [rRaw]; rw [if_neg (by simp), if_neg (by omega), if_neg (by omega), Int.toNat_natCast]
theorem rnum_fine (l : List UInt8) (at_ m : Nat) (h1 : 1 ≤ m) (h2 : m ≤ 8) (h : at_ + m ≤ l.length) : rNum l at_ 0 m = (le ((l.drop at_).take m), at_ + m, 0) := by
  simp only [rNum]; rw [if_neg (by simp), if_neg (by omega), if_neg (by omega), Int.toNat_natCast]

set_option maxHeartbeats 2000000 in
set_option maxRecDepth 100000 in
theorem named_any (b : Nat) (R : List (Option Addr × Nat × Nat)) (L : List (List UInt8)) (w0 w : World) (h : RowsIn w0 w b R L 41) (hR : R.length = 41) (hL : (L.getD 0 []).length = 128) :
    Calls Tryz.prog 158 #[.slice (some ⟨b, 0, none⟩) 41 41] w (CopiesTo (fun k => w0.heap.size ≤ k) (namedL L) w) := by
  have c0 := h.cell hR 0 (by omega)
  have HY := Lib.hid (h.bytes 0 (by omega))
  have hm : (R.getD 0 (none, 0, 0)).2.1 = 128 := by rw [← HY.out.1]; exact hL
  have CRD := Lib.hid (read_any _ _ _ _ w HY.out (by rw [hm]; omega))
  rw [hm] at c0 CRD
  have q1 := rraw_ok (L.getD 0 []) 0 4 (by omega)
  have q2 := rnum_fine (L.getD 0 []) 4 2 (by omega) (by omega) (by omega)
  have q3 := rraw_ok (L.getD 0 []) 6 4 (by omega)
  have hc2 := le2_lt (L.getD 0 []) 4
  have hpt := namedM_pt R L
  have HH := Lib.hid h
  have HRL := Lib.hid hR
  have HL0 := Lib.hid hL
  have Q1 := Lib.hid q1
  have Q2 := Lib.hid q2
  have Q3 := Lib.hid q3
  have HPT := Lib.hid hpt
  have hnil : 40 < le (((L.getD 0 []).drop 4).take 2) → namedL L = [] := fun h => by unfold namedL; rw [if_pos h]
  have HNIL := Lib.hid hnil
  clear h hR hL hm HY q1 q2 q3 hpt hnil
  generalize le (((L.getD 0 []).drop 4).take 2) = c at *
  go_enter Tryz.func158, Tryz.ntmps158
  go_wp2_with fail
  refine (CRD.out).mono ?_
  rintro e w1 ⟨g, sl, rfl, hg, hrd, hsl, hb1⟩
  have C1 := Lib.hid (rdraw_any w1 g sl 128 (L.getD 0 []) 0 0 4 hrd (by omega) (by omega))
  have Q1' := Q1.out
  simp only [Nat.zero_add] at Q1'
  rw [show ((4 : Nat) : Int) = 4 from rfl] at Q1'
  rw [Q1'] at C1
  dsimp only at C1
  have B1 := Lib.hid hb1
  have HG := Lib.hid hg
  have HSL := Lib.hid hsl
  clear Q1' Q1 hrd hsl hb1 hg CRD
  go_wp2_with fail
  refine (C1.out).mono ?_
  rintro e w2 ⟨a2, cap2, rfl, _, hrd2, hg2, _⟩
  have B2 := Lib.hid (B1.out.grown hg2 B1.out.size (fun k hk => by cases hk; exact HG.out))
  have C2 := Lib.hid (rdnum_any w2 g sl 128 (L.getD 0 []) 4 0 2 hrd2 (by omega))
  have Q2' := Q2.out
  rw [show ((2 : Nat) : Int) = 2 from rfl] at Q2'
  rw [Q2'] at C2
  dsimp only at C2
  clear Q2' Q2 hrd2 hg2 C1 B1
  go_wp2_with fail
  refine (C2.out).mono ?_
  rintro e w3 ⟨rfl, hrd3, hg3⟩
  have B3 := Lib.hid (B2.out.grown hg3 B2.out.size (fun k hk => by cases hk; exact HG.out))
  have C3 := Lib.hid (rdraw_any w3 g sl 128 (L.getD 0 []) 6 0 4 hrd3 (by omega) (by omega))
  have Q3' := Q3.out
  rw [show ((4 : Nat) : Int) = 4 from rfl] at Q3'
  rw [Q3'] at C3
  dsimp only at C3
  clear Q3' Q3 hrd3 hg3 C2 B2
  go_wp2_with fail
  refine (C3.out).mono ?_
  rintro e w4 ⟨a4, cap4, rfl, _, hrd4, hg4, _⟩
  have B4 := Lib.hid (B3.out.grown hg4 B3.out.size (fun k hk => by cases hk; exact HG.out))
  have D4 := Lib.hid hrd4
  clear hrd4 hg4 C3 B3
  by_cases hbig : 40 < c
  · have HN := Lib.hid (HNIL.out hbig)
    have hbI : (40 : Int) < (c : Int) := by omega
    go_wp2
    go_ret
    exact ⟨fun _ => False, none, 0, 0, [], rfl, PutsIn.nil _ _ (by simp), HN.out.symm, B4.out, by simp⟩
  · have HPT := Lib.hid (HPT.out hbig)
    have hbI : (c : Int) ≤ 40 := by omega
    obtain ⟨i0, hi, hz0, hz1, hz2⟩ := info_parts infoPut
    have hb1 : Hid (i0.bytes * c ≤ 281474976710656) := by unfold Hid; rw [hz2]; omega
    have hb2 : Hid (c ≤ maxLen) := by unfold Hid maxLen; omega
    clear HNIL
    go_wp2_with (at_make; refine wpList_make_full _ rfl _ _ 104 rfl 0 118 i0 (.agg #[.int .i64 0, .slice none 0 0]) 2 Tryz.underlying104 hi hz0 hz1 .u64 .u64 _ _ c rfl rfl rfl rfl hb1.out hb2.out (Nat.zero_le _) ?_; intro w5 hown hgrow)
    have hr0 : Recs putC w5 118 2 (.slice (some ⟨w4.heap.size, 0, none⟩) c c) (List.replicate c ⟨0, none, 0, 0, []⟩) := recs_made _ #[.int .i64 0, .slice none 0 0] rfl (putC_one _) (by simp) hown
    have hbel : Below w4.heap.size w4 w5 := (Below.refl _ _).grown hgrow (Nat.le_refl _) (fun k hk => by cases hk)
    have HR0 := Lib.hid hr0
    have B5 := Lib.hid (B4.out.trans (hbel.mono B4.out.size))
    have D5 := Lib.hid (D4.out.below hbel)
    have HGB := Lib.hid (show g < w4.heap.size ∧ w.heap.size ≤ w4.heap.size from ⟨D4.out.lt, B4.out.size⟩)
    clear hown hgrow hr0 hbel hi hz0 hz1 hz2 B4 D4
    generalize w4.heap.size = B at *
    go_wp2
    go_loopw [23] (fun i wr => ∃ k : Nat, k ≤ c ∧ i = .int .i64 k ∧ Recs putC wr 118 2 (.slice (some ⟨B, 0, none⟩) c c) ((namedM R L c).take k ++ List.replicate (c - k) ⟨0, none, 0, 0, []⟩) ∧ Rd wr g sl 128 (L.getD 0 []) (10 + 2 * k) 0 ∧ Below w.heap.size w wr) (fun i _ => c - (intOf i).toNat)
    case atStart => exact ⟨0, Nat.zero_le _, rfl, HR0.out, D5.out, B5.out⟩
    case round =>
      obtain ⟨k, hk, rfl, hr, hd, hb⟩ := hrel
      have HR := Lib.hid hr
      have HD := Lib.hid hd
      have HB := Lib.hid hb
      clear hr hd hb
      by_cases hlt : k < c
      · have HX := Lib.hid (namedM_at R L c k hlt)
        have HCS := Lib.hid (fun u (hb : Below w.heap.size w u) => (HH.out.carry hb).cell HRL.out (1 + k) (by omega))
        have hcs := HCS.out _ HB.out
        have hln : ((namedM R L c).take k ++ List.replicate (c - k) (⟨0, none, 0, 0, []⟩ : PutM)).length = c := by rw [List.length_append, List.length_take, List.length_replicate, namedM_length]; omega
        have HLN := Lib.hid hln
        have q := rnum_fine (L.getD 0 []) (10 + 2 * k) 2 (by omega) (by omega) (by rw [HL0.out]; omega)
        rw [show ((2 : Nat) : Int) = 2 from rfl] at q
        have CN := Lib.hid (rdnum_any wr.drew g sl 128 (L.getD 0 []) (10 + 2 * k) 0 2 (HD.out.drewN 1) (by omega))
        rw [q] at CN
        dsimp only at CN
        have hv := le2_lt (L.getD 0 []) (10 + 2 * k)
        have hki : (k : Int) < (c : Int) := by omega
        clear hln q
        generalize R.getD (1 + k) (none, 0, 0) = r at *
        obtain ⟨ra, rm, rc⟩ := r
        dsimp only at hcs HX HCS
        generalize le (((L.getD 0 []).drop (10 + 2 * k)).take 2) = v at *
        have hw1 : IntKind.i64.wrap (1 + (k : Int)) = 1 + (k : Int) := IntWalk.i64_in _ (by omega)
        have hw2 : 0 ≤ 1 + (k : Int) := by omega
        have hw3 : 1 + (k : Int) < 41 := by omega
        have hw4 : (1 + (k : Int)).toNat = 1 + k := by omega
        go_wp2_with fail
        refine region_head 11 [0, 1, 2, 5, 6, 7, 8, 9, 3, 4, 10] [3] (fun u => u.cell? ⟨b, 1 + k, none⟩ = some (.slice ra rm rc)) (by kernel_rfl) (by kernel_rfl) hcs ?_
        simp only [pickO, List.append_eq, List.cons_append, List.nil_append, List.filterMap_cons, List.filterMap_nil, List.getElem?_cons_zero, List.getElem?_cons_succ, Option.map_some, List.drop_succ_cons, List.drop_zero]
        iterate 8
          refine seqH_readG _ rfl (by rfl) (by rintro u hu1; go_simp; with_reducible rfl) ?_
          try simp only [Act.put, List.setIfInBounds_toArray, List.set_cons_zero, List.set_cons_succ]
        refine seqH_moveG rfl (by rfl) (fun K hK => ?_)
        go_simp
        refine (CN.out).mono ?_
        rintro e w6 ⟨rfl, hrd6, hg6⟩
        have HB6 := Lib.hid ((below_drewN HB.out 1).grown hg6 HB.out.size (fun q hq => by cases hq; exact HG.out) : Below w.heap.size w w6)
        have hgB : some B ≠ some g := fun e => by have := HGB.out.1; simp at e; omega
        have hsz6 : wr.heap.size ≤ w6.heap.size := by simpa using hg6.size
        have HR6 := Lib.hid (HR.out.keep (w' := w6) (fun q hq => by simp [Value.ownBlock] at hq; subst hq; exact hg6.block _ (HR.out.lt _ rfl) hgB))
        have HD6 := Lib.hid hrd6
        have hcs6 := HCS.out _ HB6.out
        have HT6 := Lib.hid (HR6.out.there k (by rw [HLN.out]; exact hlt))
        refine hK _ _ hcs6 ?_
        clear hK K hrd6 hg6 CN hcs hcs6
        try simp only [Act.put, List.setIfInBounds_toArray, List.set_cons_zero, List.set_cons_succ]
        refine seqH_readG (.int .i64 (v : Int)) rfl (by rfl) (by rintro u hu1; have hvw : IntKind.i64.wrap (v : Int) = (v : Int) := IntWalk.i64_in _ (by omega); go_simp) ?_
        try simp only [Act.put, List.setIfInBounds_toArray, List.set_cons_zero, List.set_cons_succ]
        refine seqH_readG (.agg #[.int .i64 (v : Int), .slice ra rm rc]) rfl (by rfl) (by rintro u hu1; go_simp) ?_
        try simp only [Act.put, List.setIfInBounds_toArray, List.set_cons_zero, List.set_cons_succ]
        refine seqH_nil ?_
        clear hw1 hw2 hw3 hw4
        go_wp2_with (refine wpList_store_mid rfl 118 _ _ rfl B (k * 2) #[.int .i64 (v : Int), .slice ra rm rc] rfl rfl (by simpa using HT6.out) sizePut (by simp [Value.oneCell']) ?_)
        go_roundw
        case rel =>
          have hput := HR6.out.put k (by rw [HLN.out]; exact hlt) ⟨(v : Int), ra, rm, rc, L.getD (1 + k) []⟩ rfl (putC_one _)
          rw [fill_next (namedM R L c) ⟨0, none, 0, 0, []⟩ _ c k (namedM_length R L c) hlt HX.out] at hput
          refine ⟨k + 1, by omega, by go_num, hput.1, ?_, HB6.out.grown hput.2 HB6.out.size (fun q hq => by simp at hq; have := HGB.out.2; omega)⟩
          exact (HD6.out.other hput.2 (by have := HGB.out.1; omega) (fun x hx => by have := (HSL.out x hx).2; have := HGB.out.1; omega))
        case measure => simp [intOf]; omega
      · obtain rfl : k = c := by omega
        go_wp2
        go_ret
        have hr := HR.out
        rw [Nat.sub_self, List.replicate_zero, List.append_nil, List.take_of_length_le (by rw [namedM_length]; omega)] at hr
        have hh := HH.out.carry HB.out
        have hmem : ∀ y ∈ namedM R L k, ∃ j, j < k ∧ y = ⟨(le (((L.getD 0 []).drop (10 + 2 * j)).take 2) : Nat), (R.getD (1 + j) (none, 0, 0)).1, (R.getD (1 + j) (none, 0, 0)).2.1, (R.getD (1 + j) (none, 0, 0)).2.2, L.getD (1 + j) []⟩ := fun y hy => by
          obtain ⟨j, hj, rfl⟩ := List.mem_map.1 hy
          exact ⟨j, by simpa using hj, rfl⟩
        have hkc : k ≤ 40 := by omega
        refine ⟨fun j => (w0.heap.size ≤ j ∧ j < wr.heap.size), _, _, _, namedM R L k, rfl, ⟨came_of_recs hr, fun j hj => hj.2, fun p hp => ?_, fun y hy => ?_, fun y hy p hp => ?_⟩, HPT.out, HB.out, fun j hj => .inl hj.1⟩
        · cases hp
          exact ⟨Nat.le_trans HH.out.below.size HGB.out.2, hr.lt _ rfl⟩
        · obtain ⟨j, hj, rfl⟩ := hmem y hy
          exact hh.bytes (1 + j) (by rw [HRL.out]; omega)
        · obtain ⟨j, hj, rfl⟩ := hmem y hy
          have := hh.new (1 + j) (by rw [HRL.out]; omega) p hp
          exact ⟨this.1, this.2.1⟩

end Go.Proofs.YtjcmphjjkeigjaaGreat

namespace Go.Proofs.YtjcmphjjkeigjaaGreat
open Go.RowKit
set_option linter.unusedVariables false
set_option linter.unusedSimpArgs false
set_option maxRecDepth 100000

theorem mayL_iff {L : List (Nat × Nat)} (h : ∀ j, j + 1 < L.length → (L.getD j (0, 0)).1 < (L.getD (j + 1) (0, 0)).1) : mayL L = decide ((L.length : Int) ≤ 600) := by
  unfold mayL
  have : (List.range (L.length - 1)).all (fun i => decide ((L.getD i (0, 0)).1 < (L.getD (i + 1) (0, 0)).1)) = true := by
    rw [List.all_eq_true]
    intro i hi
    simp only [List.mem_range] at hi
    exact decide_eq_true (h i (by omega))
  rw [this, Bool.true_and]
  apply decide_eq_decide.2
  omega
theorem mayL_no {L : List (Nat × Nat)} (j : Nat) (hj : j + 1 < L.length) (h : ¬ (L.getD j (0, 0)).1 < (L.getD (j + 1) (0, 0)).1) : mayL L = false := by
  unfold mayL
  have : (List.range (L.length - 1)).all (fun i => decide ((L.getD i (0, 0)).1 < (L.getD (i + 1) (0, 0)).1)) = false := by
    rw [List.all_eq_false]
    exact ⟨j, List.mem_range.2 (by omega), by simpa using h⟩
  rw [this, Bool.false_and]

set_option maxHeartbeats 1000000 in
theorem valid_anyT (a : Option Addr) (n cap : Nat) (L : List (Nat × Nat)) (w : World) (he : PairsAt w a n cap L) :
    Calls Tryz.prog 176 #[.slice a n cap] w fun e w' => e = .returned (.bool (mayL L)) ∧ Below w.heap.size w w' := by
  have HE := Lib.hid he
  have HL := Lib.hid he.1
  have hn : n ≤ 9223372036854775807 := by have := he.2.1; have := he.2.2.1; unfold maxLen at *; omega
  clear he
  go_enter Tryz.func176, Tryz.ntmps176
  go_wp2
  go_loopw [3] (fun i wr => ∃ k : Nat, 1 ≤ k ∧ (k ≤ n ∨ k = 1) ∧ i = .int .i64 k ∧ (∀ j, j + 1 < k → (L.getD j (0, 0)).1 < (L.getD (j + 1) (0, 0)).1) ∧ Below w.heap.size w wr) (fun i _ => n - (intOf i).toNat)
  case atStart => exact ⟨1, Nat.le_refl _, .inr rfl, rfl, fun j hj => by omega, Below.refl _ _⟩
  case round =>
    obtain ⟨k, hk1, hk, rfl, hasc, hb⟩ := hrel
    have HA := Lib.hid hasc
    have HB := Lib.hid hb
    clear hasc hb
    by_cases hlt : k < n
    · obtain ⟨q, rfl⟩ : ∃ q, k = q + 1 := ⟨k - 1, by omega⟩
      obtain ⟨b, off, rfl, hbb, hc⟩ := PairsAt.cells (CameAt.below HE.out (Nat.zero_lt_succ 1) HB.out) (by omega)
      obtain ⟨c0, _, _⟩ := hc q (by omega)
      obtain ⟨c1, _, _⟩ := hc (q + 1) hlt
      have HN := Lib.hid (fun (h : ¬ (L.getD q (0, 0)).1 < (L.getD (q + 1) (0, 0)).1) => mayL_no q (by rw [HL.out]; exact hlt) h)
      have HY := Lib.hid (fun (h : (L.getD q (0, 0)).1 < (L.getD (q + 1) (0, 0)).1) => (fun j hj => by
        by_cases e : j = q
        · subst e; exact h
        · exact HA.out j (by omega) : ∀ j, j + 1 < q + 1 + 1 → (L.getD j (0, 0)).1 < (L.getD (j + 1) (0, 0)).1))
      clear hc
      generalize (L.getD q (0, 0)).1 = x at *
      generalize (L.getD (q + 1) (0, 0)).1 = y at *
      have e1 : ((q + 1 : Nat) : Int) - 1 = (q : Int) := by omega
      generalize hkk : q + 1 = k at *
      by_cases hxy : x < y
      · have h1 : (x : Int) < (y : Int) := by omega
        have HYY := Lib.hid (HY.out hxy)
        clear HN HY
        go_wp2
        go_quiet (fail)
        go_wp2
        refine ⟨⟨k + 1, by omega, by omega, by go_num, HYY.out, below_drewN HB.out _⟩, by simp [intOf]; omega⟩
      · have h1 : ¬ (x : Int) < (y : Int) := by omega
        have HNN := Lib.hid (HN.out hxy)
        clear HN HY
        go_wp2
        go_quiet (fail)
        go_wp2
        go_ret
        exact ⟨congrArg (fun b => Ending.returned (.bool b)) HNN.out.symm, below_drewN HB.out _⟩
    · have HM := Lib.hid (mayL_iff (L := L) (fun j hj => HA.out j (by rw [HL.out] at hj; omega)))
      rw [HL.out] at HM
      go_wp2
      go_ret
      exact ⟨congrArg (fun b => Ending.returned (.bool b)) HM.out.symm, HB.out⟩

theorem least_any (a : Option Addr) (n cap : Nat) (L : List (Nat × Nat)) (w : World) (he : PairsAt w a n cap L) :
    Calls Tryz.prog 189 #[.slice a n cap] w fun e w' => e = .returned (.int .u64 (leastL L : Nat)) ∧ w = w' := by
  by_cases h0 : 0 < n
  · obtain ⟨b, off, rfl, hbb, hc⟩ := PairsAt.cells he h0
    obtain ⟨c0, _, _⟩ := hc 0 h0
    have e : (L.getD 0 (0, 0)).1 = leastL L := rfl
    rw [e, Nat.zero_mul, Nat.add_zero] at c0
    clear hc he
    generalize leastL L = q at *
    go_enter Tryz.func189, Tryz.ntmps189
    go_wp2
    go_ret
    exact ⟨rfl, rfl⟩
  · obtain rfl : n = 0 := by omega
    have e : leastL L = 0 := by
      rw [List.eq_nil_of_length_eq_zero he.1]; rfl
    rw [e]
    clear he
    go_enter Tryz.func189, Tryz.ntmps189
    go_wp2
    go_ret
    exact ⟨rfl, rfl⟩

theorem pagesFor_any (n m : Nat) (w : World) (hn : n ≤ 100000) (h0 : 0 < m) (hm : m ≤ 100) :
    Calls Tryz.prog 170 #[.int .i64 n, .int .i64 m] w fun e w' => e = .returned (.int .i64 ((n + (m - 1)) / m : Nat)) ∧ w = w' := by
  have e1 : (n : Int) + (m : Int) - 1 = ((n + (m - 1) : Nat) : Int) := by omega
  have e2 : Int.tdiv ((n + (m - 1) : Nat) : Int) (m : Int) = ((n + (m - 1)) / m : Nat) := by
    rw [Int.tdiv_eq_ediv_of_nonneg (Int.natCast_nonneg _)]
    exact (Int.natCast_ediv _ _).symm
  have hlt : (n + (m - 1)) / m ≤ n + (m - 1) := Nat.div_le_self _ _
  have H2 := Lib.hid e2
  have hm0 : ¬ (m : Int) = 0 := by omega
  clear e2
  go_enter Tryz.func170, Tryz.ntmps170
  go_wp2
  go_ret
  exact ⟨congrArg (fun x => Ending.returned (.int .i64 x)) H2.out, rfl⟩

set_option maxHeartbeats 1000000 in
theorem pages_any (n : Nat) (w : World) (hn : n ≤ 600) :
    Calls Tryz.prog 134 #[.int .i64 n] w fun e w' => e = .returned (.int .i64 (pagesN n : Nat)) ∧ w = w' := by
  have C1 := Lib.hid (pagesFor_any n 7 w (by omega) (by omega) (by omega))
  have CF := Lib.hid (fun (m : Nat) (h : m ≤ 100000) => pagesFor_any m 12 w h (by omega) (by omega))
  have hp : finN (max 1 ((n + 6) / 7), max 1 ((n + 6) / 7)) = pagesN n := rfl
  have HP := Lib.hid hp
  have e7 : n + (7 - 1) = n + 6 := rfl
  rw [e7] at C1
  have hq : (n + 6) / 7 ≤ 86 := by omega
  clear hp e7
  generalize pagesN n = T at *
  generalize (n + 6) / 7 = q at *
  obtain ⟨r, hr⟩ : ∃ r, max 1 q = r := ⟨_, rfl⟩
  rw [hr] at HP
  have HR := Lib.hid hr
  clear hr
  have hn0 : ¬ (n : Int) < 0 := by omega
  have hn6 : ¬ (600 : Int) < (n : Int) := by omega
  by_cases hq1 : (1 : Int) < (q : Int)
  · skip
    go_enter Tryz.func134, Tryz.ntmps134
    go_wp2_with fail
    refine (C1.out).mono ?_
    rintro e w1 ⟨rfl, rfl⟩
    go_wp2
    go_loop [3, 4] (fun x y => ∃ lv al : Nat, x = .int .i64 lv ∧ y = .int .i64 al ∧ lv ≤ 86 ∧ 1 ≤ lv ∧ al + 2 * lv ≤ 300 ∧ finN (al, lv) = T) (fun x _ => (intOf x).toNat)
    case atStart => exact ⟨r, r, by have := HR.out; congr 1; omega, by have := HR.out; congr 1; omega, by have := HR.out; omega, by have := HR.out; omega, by have := HR.out; omega, HP.out⟩
    case round =>
      obtain ⟨lv, al, rfl, rfl, h86, h1, hs, hf⟩ := hrel
      by_cases hlt : 1 < lv
      · have hfs := finN_step (al, lv) hlt
        rw [hf] at hfs
        have HFS := Lib.hid hfs
        clear hfs hf
        have C2 := CF.out lv (by omega)
        have e11 : lv + (12 - 1) = lv + 11 := rfl
        rw [e11] at C2
        have C2 := Lib.hid C2
        have hq2 : (lv + 11) / 12 < lv := by omega
        have hq3 : 1 ≤ (lv + 11) / 12 := by omega
        have hq4 : 3 * ((lv + 11) / 12) ≤ 2 * lv := by omega
        dsimp only at HFS
        generalize (lv + 11) / 12 = q2 at *
        go_wp2_with (go_at_call 170; refine (C2.out).mono ?_; rintro e w2 ⟨rfl, rfl⟩)
        refine ⟨⟨q2, al + q2, rfl, by go_num, by omega, hq3, by omega, HFS.out.symm⟩, by simp [intOf]; omega⟩
      · have hfs := finN_done (al, lv) (by simp only []; omega)
        rw [hf] at hfs
        dsimp only at hfs
        subst hfs
        go_wp2
        go_ret
        exact ⟨rfl, rfl⟩
  · skip
    go_enter Tryz.func134, Tryz.ntmps134
    go_wp2_with fail
    refine (C1.out).mono ?_
    rintro e w1 ⟨rfl, rfl⟩
    go_wp2
    go_loop [3, 4] (fun x y => ∃ lv al : Nat, x = .int .i64 lv ∧ y = .int .i64 al ∧ lv ≤ 86 ∧ 1 ≤ lv ∧ al + 2 * lv ≤ 300 ∧ finN (al, lv) = T) (fun x _ => (intOf x).toNat)
    case atStart => exact ⟨r, r, by have := HR.out; congr 1; omega, by have := HR.out; congr 1; omega, by have := HR.out; omega, by have := HR.out; omega, by have := HR.out; omega, HP.out⟩
    case round =>
      obtain ⟨lv, al, rfl, rfl, h86, h1, hs, hf⟩ := hrel
      by_cases hlt : 1 < lv
      · have hfs := finN_step (al, lv) hlt
        rw [hf] at hfs
        have HFS := Lib.hid hfs
        clear hfs hf
        have C2 := CF.out lv (by omega)
        have e11 : lv + (12 - 1) = lv + 11 := rfl
        rw [e11] at C2
        have C2 := Lib.hid C2
        have hq2 : (lv + 11) / 12 < lv := by omega
        have hq3 : 1 ≤ (lv + 11) / 12 := by omega
        have hq4 : 3 * ((lv + 11) / 12) ≤ 2 * lv := by omega
        dsimp only at HFS
        generalize (lv + 11) / 12 = q2 at *
        go_wp2_with (go_at_call 170; refine (C2.out).mono ?_; rintro e w2 ⟨rfl, rfl⟩)
        refine ⟨⟨q2, al + q2, rfl, by go_num, by omega, hq3, by omega, HFS.out.symm⟩, by simp [intOf]; omega⟩
      · have hfs := finN_done (al, lv) (by simp only []; omega)
        rw [hf] at hfs
        dsimp only at hfs
        subst hfs
        go_wp2
        go_ret
        exact ⟨rfl, rfl⟩

end Go.Proofs.YtjcmphjjkeigjaaGreat
