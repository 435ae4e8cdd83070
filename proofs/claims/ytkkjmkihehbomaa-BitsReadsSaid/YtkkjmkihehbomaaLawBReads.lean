/-
  Whatever is read on, one thing behind the other, each answer, and how far it is read, is the document's, or it is refused (P8.2).
  No condition: all octets, every slice of what is asked.
-/
import Derived.Test.YtkkjmkihehbomaaBtW
import Derived.Test.YtkkjmkihehbomaaHdS
import Derived.Deep.DeepCutAuto
import Derived.Deep.CutBlock
namespace Go.Proofs.Ytkkjmkihehbomaa.bitsReads
open Go.ChangeShapes Go.WideShapes Go.ChangeAt Go.RowKit Go.Deep
set_option linter.unusedVariables false
set_option linter.unusedSimpArgs false
set_option maxRecDepth 100000

theorem bools_part {w : World} {a : Option Addr} {n cap at_ m : Nat} {l : List Bool} (h : BoolsAt w a n cap l) (hm : at_ + m ≤ n) :
    BoolsAt w (if cap = at_ then a else Option.map (fun x => x.add at_) a) m (cap - at_) ((l.drop at_).take m) := by
  obtain ⟨h1, h2, h3, h4, h5⟩ := h
  by_cases hc : cap = at_
  · have : m = 0 := by omega
    subst this
    rw [if_pos hc]
    refine ⟨by simp, by omega, by omega, fun _ _ => rfl, ?_⟩
    rcases h5 with ⟨rfl, _, _⟩ | ⟨x, rfl, hx⟩
    · exact .inl ⟨rfl, rfl, by omega⟩
    · exact .inr ⟨x, rfl, fun i j y hi hj => by simp at hi⟩
  · rw [if_neg hc]
    refine ⟨by simp; omega, by omega, by omega, fun _ _ => rfl, ?_⟩
    rcases h5 with ⟨rfl, h5, h6⟩ | ⟨x, rfl, hx⟩
    · omega
    · refine .inr ⟨_, rfl, fun i j y hi hj => ?_⟩
      have him : i < m := by
        have := (List.getElem?_eq_some_iff.1 hi).1
        simp at this; omega
      have hy : l[at_ + i]? = some y := by rw [← hi, List.getElem?_take_of_lt him, List.getElem?_drop]
      have e : (x.add at_).add (i * 1 + j) = x.add ((at_ + i) * 1 + j) := by
        unfold Addr.add
        by_cases h0 : at_ = 0 <;> by_cases h1 : i * 1 + j = 0 <;> simp [h0, h1, Nat.add_assoc] <;> omega
      rw [e]
      exact hx (at_ + i) j y hy hj
theorem bools_head {w : World} {a : Option Addr} {n cap m : Nat} {l : List Bool} (h : BoolsAt w a n cap l) (hm : m ≤ n) : BoolsAt w a m cap (l.take m) := by
  obtain ⟨h1, h2, h3, h4, h5⟩ := h
  refine ⟨by simp; omega, by omega, h3, fun _ _ => rfl, ?_⟩
  rcases h5 with ⟨rfl, h5, h6⟩ | ⟨x, rfl, hx⟩
  · exact .inl ⟨rfl, by omega, h6⟩
  · refine .inr ⟨x, rfl, fun i j y hi hj => hx i j y ?_ hj⟩
    have him : i < m := by
      have := (List.getElem?_eq_some_iff.1 hi).1
      simp at this; omega
    rwa [List.getElem?_take_of_lt him] at hi
theorem RdS.box {n0 : Nat} {w : World} {B : Nat} {l : List UInt8} {p : Nat} (h : RdS n0 w B l p) : ∃ c, w.heap[B]? = some (.cells c 59 (0, 0)) := by obtain ⟨a, c, h1, _⟩ := h; exact ⟨_, h1.1⟩

theorem slice_bytes (u : World) (ba : Option Addr) (bm bc o m : Nat) (h : o + m ≤ bc) :
    (Instr.slice 27 (.slice ba bm bc) (some (.int .i64 (o : Int))) (some (.int .i64 ((o : Int) + (m : Int)))) none).run Try.prog u = .ok (.slice (if bc = o then ba else Option.map (fun x => x.add o) ba) m (bc - o)) u := by
  obtain ⟨i0, hi, hz0, hz1, hz2⟩ := info_parts infoU8
  have he : Try.prog.elem 27 = 5 := by kernel_rfl
  rw [run_slice_lh (t := 27) (a := ba) (len := bm) (cap := bc) (ht := by rw [he]; exact Try.underlying27) (kl := .i64) (kh := .i64) (l := (o : Int)) (h := (o : Int) + (m : Int)) (h0 := by omega) (h1 := by omega) (h2 := by omega), he]
  have h1 : ((o : Int) + (m : Int)).toNat = o + m := by omega
  simp [sizeOf, typeInfo, hi, hz1, Result.andThen, sliced, h1]

/-- the reader beside the document's bits -/
structure Br2 (w wr : World) (n1 B : Nat) (l : List UInt8) (p : Nat) (a : Option Addr) (n c : Nat) : Prop where
  rd : RdS n1 wr B l p
  bo : BoI w wr a n c (ofL l)
  n1 : w.heap.size ≤ n1
theorem Br2.below {w wr w' : World} {n1 B : Nat} {l : List UInt8} {p : Nat} {a : Option Addr} {n c : Nat} (h : Br2 w wr n1 B l p a n c) (hb : Below wr.heap.size wr w') : Br2 w w' n1 B l p a n c :=
  ⟨h.rd.below hb, h.bo.below hb, h.n1⟩
theorem Br2.step {w wr w' : World} {n1 B : Nat} {l : List UInt8} {p q : Nat} {a : Option Addr} {n c : Nat} (h : Br2 w wr n1 B l p a n c) (hk : RdK n1 B l q wr w') : Br2 w w' n1 B l q a n c := by
  obtain ⟨h1, h2, h3⟩ := h
  obtain ⟨cc, hc⟩ := RdS.box h1
  exact ⟨hk.1, ⟨h2.1.only hk.2.2 fun k hk2 e => h2.1.ne_of hc (by decide) k hk2 e, h2.2.1, h2.2.2.1, h2.2.2.2.trans (hk.2.1.mono h3)⟩, h3⟩
theorem ask_cells {w : World} {g : Nat} {x : AskM} (h : w.heap[g]? = some (.cells (askC x).toArray 46 (0, 0))) :
    w.cell? ⟨g, 0, none⟩ = some (.int .i64 x.act) ∧ w.cell? ⟨g, 1, none⟩ = some (.int .i64 x.n) :=
  ⟨by rw [cell_of_row _ _ _ _ _ _ h]; rfl, by rw [cell_of_row _ _ _ _ _ _ h]; rfl⟩

set_option maxHeartbeats 8000000 in
theorem walk (a0 : Option Addr) (n0 cap0 : Nat) (l0 : List UInt8) (a : Option Addr) (n cap : Nat) (L : List AskM) (w : World) (hb : BytesAt w a0 n0 cap0 l0) (h : CameAt askC 2 w a n cap L) (hg : ∀ x ∈ L, x.Good) :
    Calls Try.prog 4 #[.slice a0 n0 cap0, .slice a n cap] w fun e w' => e = .returned (.bool true) ∧ Below w.heap.size w w' := by
  have HL := Lib.hid h
  have HG := Lib.hid hg
  have HB1 := Lib.hid hb
  have hcap1 : n0 ≤ cap0 := hb.2.1
  clear h hg hb
  go_enter Try.func4, Try.ntmps4
  go_upto_region 1 with (fail)
  go_upto_if 18 with (fail)
  go_cut [0] (fun s0 wx => wx = w ∧ ∃ (ba : Option Addr) (bm bc : Nat) (bl : List UInt8), s0 = .slice ba bm bc ∧ BytesAt w ba bm bc bl ∧ bm ≤ 200)
  case first =>
    by_cases h200 : 200 < n0
    · have h200i : (200 : Int) < (n0 : Int) := by omega
      go_wp2
      go_meet
      exact ⟨rfl, _, _, _, _, rfl, HB1.out.head (by omega), by omega⟩
    · have h200i : ¬ (200 : Int) < (n0 : Int) := by omega
      go_wp2
      go_meet
      exact ⟨rfl, _, _, _, _, rfl, HB1.out, by omega⟩
  case rest =>
  obtain ⟨hwc, ba, bm, bc, bl, rfl, hbl, hbm⟩ := hcut
  have HWC := Lib.hid hwc
  have HBL := Lib.hid hbl
  have HBLEN := Lib.hid hbl.1
  subst hwc
  obtain ⟨i0, hi, hz0, hz1, hz2⟩ := info_parts infoU8
  have hbs : ∀ u, (Instr.buildSlice 27 0 #[]).run Try.prog u = .ok (.slice (some ⟨u.heap.size, 0, none⟩) 0 0) (u.alloc (.cells #[] 5)) := fun u => by
    simp [Instr.buildSlice, run_underlying Try.underlying27, sizeOf, typeInfo, hi, Instr.fill, newRow, Array.range_zero']
  have hb0 : Below wc.heap.size wc (wc.alloc (.cells #[] 5)) := (Below.refl _ _).alloc (Nat.le_refl _) _
  have HO := Lib.hid (show (wc.alloc (.cells #[] 5)).ownsRow wc.heap.size 5 1 (.slice (some ⟨wc.heap.size, 0, none⟩) 0 0) 0 [] from ⟨rfl, .inr ⟨wc.heap.size, 0, #[], rfl, Nat.le_refl _, heap_alloc_new wc _, by omega, by unfold maxLen; omega, rfl, rfl⟩⟩)
  have HS := Lib.hid (hbl.below hb0)
  have HB0 := Lib.hid hb0
  clear hbl hi hz0 hz1 hz2 hb0
  go_upto_region 4 with (at_builtin; refine wpList_append_bytes rfl _ _ rfl wc.heap.size (.slice (some ⟨wc.heap.size, 0, none⟩) 0 0) 0 [] rfl HO.out ba bm bc bl rfl HS.out bm (by omega) (by omega) HB0.out.size ?_; intro a3 c3 w3 ho3 hg3; have HO3 := Lib.hid (by simpa using ho3 : w3.ownsRow wc.heap.size 5 1 (.slice a3 bm c3) bm (vals bl)); have HB3 := Lib.hid (HB0.out.grown hg3 HB0.out.size (fun k hk => by simp [Value.ownBlock] at hk; omega)); clear ho3 hg3)
  clear hbs
  have CR := Lib.hid (readS a3 bm c3 bl w3 (BytesAt.owned HO3.out) (by omega))
  go_wp2_with fail
  refine CR.out.mono ?_
  rintro e w4 ⟨Br, rfl, hr4, hb4⟩
  have HO4 := Lib.hid (show BytO w4 (.slice a3 bm c3) bl from (bytO_of (owned_below HO3.out hb4)).1)
  have HO4k := Lib.hid (show ∀ k, (Value.slice a3 bm c3).ownBlock = some k → wc.heap.size ≤ k ∧ k < w3.heap.size from fun k hk => HO3.out.lt k hk)
  have HR4 := Lib.hid hr4
  have HB4 := Lib.hid (HB3.out.trans (hb4.mono HB3.out.size))
  have HN1 := Lib.hid (HB3.out.size)
  clear CR hr4 hb4
  obtain ⟨n1, hn1⟩ : ∃ n1, n1 = w3.heap.size := ⟨_, rfl⟩
  rw [← hn1] at HR4 HO4k HN1
  clear hn1
  go_wp2
  go_loopw [7] (fun s7 wx => ∃ (i : Nat) (l' : List UInt8), i ≤ bm ∧ s7 = .int .i64 i ∧ BytO wx (.slice a3 bm c3) l' ∧ l'.length = bm ∧ RdS n1 wx Br bl 0 ∧ Below wc.heap.size wc wx) (fun s7 _ => bm - (intOf s7).toNat)
  case atStart => exact ⟨0, bl, Nat.zero_le _, rfl, HO4.out, HBLEN.out, HR4.out, HB4.out⟩
  case round =>
    obtain ⟨i, l', hi, rfl, ho, hl', hr, hbx⟩ := hrel
    rename World => wx
    have HBX := Lib.hid hbx
    have HR := Lib.hid hr
    by_cases hlt : i < bm
    · obtain ⟨g, cg, hv, _, _, hgl⟩ := ho.form' (by omega)
      simp only [Value.slice.injEq] at hv
      obtain ⟨rfl, hv2, rfl⟩ := hv
      have hst := ho.stored i 0 (by omega) (by omega) 99 (.int .u8 99) rfl rfl
      rw [Nat.mul_one, Nat.add_zero] at hst
      have hfr := ho.frozenAt i
      obtain ⟨z0, hcl⟩ : ∃ z, wx.cell? ⟨g, i, none⟩ = some z := ⟨.int .u8 ((l'[i]'(by omega)).toNat : Int), by have := ho.cellAt i 0 _ (List.getElem?_eq_getElem (by omega)) (by omega); rw [Nat.mul_one, Nat.add_zero] at this; exact this⟩
      have HST := Lib.hid hst
      have HLL := Lib.hid (show (l'.set i 99).length = bm by rw [List.length_set]; exact hl')
      have hgk := HO4k.out g rfl
      have HGK := Lib.hid hgk
      have HR2 := Lib.hid (show RdS n1 (wx.setCell ⟨g, i, none⟩ (.int .u8 99)) Br bl 0 from by
        obtain ⟨ra, rc, hv, h2, h3⟩ := hr
        exact ⟨ra, rc, hv.keep (S := fun q => q = g) (Only.setCell _ _ _ rfl) (fun e => by omega) (fun x hx e => by have := h3 x hx; omega), h2, h3⟩)
      have HB2 := Lib.hid (hbx.setCell (p := ⟨g, i, none⟩) hgk.1 (.int .u8 99))
      have hlti : (i : Int) < (bm : Int) := by omega
      clear hst ho hr hbx hl' hgk
      go_wp2
      go_roundw
      case rel => exact ⟨i + 1, _, by omega, by go_num, HST.out, HLL.out, HR2.out, HB2.out⟩
      case measure => simp [intOf]; omega
    · obtain rfl : i = bm := by omega
      have CO := Lib.hid (rofb_any ba i bc bl wx (HBL.out.below hbx) (by omega))
      clear ho hr hbx hl'
      go_wp2_with fail
      refine CO.out.mono ?_
      rintro e w5 ⟨av, nv, cv, rfl, hB5⟩
      have hnv : nv = 8 * i := by rw [← hB5.2.1, ofL_length, HBLEN.out]
      have HI5 := Lib.hid (show Br2 wc w5 n1 Br bl 0 av nv cv from ⟨HR.out.below hB5.2.2.2, ⟨hB5.1, hB5.2.1, fun k hk => Nat.le_trans HBX.out.size (hB5.2.2.1 k hk), HBX.out.trans (hB5.2.2.2.mono HBX.out.size)⟩, HN1.out⟩)
      have HNV := Lib.hid hnv
      have hnvb : nv ≤ 1600 := by omega
      clear CO hB5 hnv
      go_wp2
      generalize hii : i = bm at *
      go_loopw [9, 10] (fun s9 s10 wx => ∃ k p : Nat, k ≤ n ∧ k ≤ 60 ∧ s10 = .int .i64 k ∧ s9 = .int .i64 p ∧ p ≤ 8 * bm ∧ Br2 wc wx n1 Br bl p av nv cv) (fun _ s10 _ => 60 - (intOf s10).toNat)
      case atStart => exact ⟨0, 0, Nat.zero_le _, by omega, rfl, rfl, by omega, HI5.out⟩
      case round =>
        obtain ⟨k, p, hk, hk60, rfl, rfl, hp, hinv⟩ := hrel
        rename World => wx
        have HI := Lib.hid hinv
        clear hinv
        by_cases hgo : k < n ∧ k < 60
        · obtain ⟨hlt2, h60⟩ := hgo
          have hL := HL.out.below (by omega) HI.out.bo.2.2.2
          obtain ⟨b, off, rfl, hbl, hcell⟩ := asks_at hL (by omega)
          obtain ⟨_, _, hrx⟩ := hcell k hlt2
          have GX := Lib.hid (HG.out _ (cameD HL.out k hlt2))
          have RX := Lib.hid hrx
          have hlti : (k : Int) < (n : Int) := by omega
          have h60i : (k : Int) < 60 := by omega
          clear hL hcell hrx hbl
          generalize L.getD k default = x at *
          go_upto_region 17 with (first
            | (refine wpList_load_mid rfl 46 _ rfl b (off + k * 2) rfl (askC x) _ RX.out Try.underlying46 rfl sizeAsk ?_)
            | (refine wpList_store_row rfl _ _ _ rfl wx.heap.size (askC x).toArray rfl rfl 46 _ (heap_alloc_new wx _) sizeAsk rfl (by simpa using askC_one x) ?_
               generalize hwB : World.setRow _ wx.heap.size (askC x).toArray = wB
               have hsc : Br2 wc wB n1 Br bl p av nv cv ∧ wB.heap[wx.heap.size]? = some (.cells (askC x).toArray 46 (0, 0)) := by
                 rw [← hwB]
                 exact ⟨HI.out.below (below_setRow ((Below.refl _ _).alloc (Nat.le_refl _) _) (Nat.le_refl _) _), heap_setRow_same _ _ _ _ _ (heap_alloc_new wx _)⟩
               have SC := Lib.hid hsc.1
               have SX := Lib.hid hsc.2
               clear hsc hwB))
          obtain ⟨Bx, hBx⟩ : ∃ Bx, Bx = wx.heap.size := ⟨_, rfl⟩
          rw [← hBx] at SX ⊢
          have HBR := Lib.hid (show Bx ≠ Br from fun e => by obtain ⟨cc, hc⟩ := RdS.box SC.out.rd; rw [← e, SX.out] at hc; injection hc with hc; injection hc with _ hc; exact absurd hc (by decide))
          have HKX := Lib.hid (show ∀ u, Only (fun i => i = Br) wB u → u.heap[Bx]? = some (.cells (askC x).toArray 46 (0, 0)) from fun u hu => (hu.block Bx (Array.getElem?_eq_some_iff.1 SX.out).1 HBR.out).trans SX.out)
          obtain ⟨c0, c1⟩ := ask_cells SX.out
          clear hBx
          go_upto_block 4 with (fail)
          have HLEN := Lib.hid (show (ofL bl).length = nv from SC.out.bo.2.1)
          go_cut [9] (fun s9 wy => ∃ p2 : Nat, s9 = .int .i64 p2 ∧ p2 ≤ 8 * bm ∧ Br2 wc wy n1 Br bl p2 av nv cv)
          case first =>
            by_cases h0 : x.act = 0
            · have e0 : (x.act == 0) = true := by rw [beq_iff_eq]; exact h0
              clear h0
              have CT := takeS SC.out.rd x.n (by rw [HBLEN.out]; omega) (by rw [HBLEN.out]; omega)
              cases hm : mayN x.n with
              | false =>
                rw [show takeR bl p x.n = (0, 1, p) by unfold takeR; rw [if_pos hm]] at CT
                have CT := Lib.hid CT
                have hmm : x.n < 0 ∨ 32 < x.n := by
                  unfold mayN at hm
                  by_cases h1 : x.n < 0
                  · exact .inl h1
                  · right
                    have h2 : 0 ≤ x.n := by omega
                    simp [h2] at hm
                    omega
                clear hm
                rcases hmm with hmm | hmm
                · go_wp2_with fail
                  refine CT.out.mono ?_
                  rintro e w5 ⟨rfl, hk5⟩
                  have R5 := Lib.hid (SC.out.step hk5)
                  have hsx := HKX.out _ hk5.2.2
                  obtain ⟨d0, d1⟩ := ask_cells hsx
                  clear CT hk5 c0 c1 hsx
                  go_wp2
                  go_meet
                  exact ⟨p, rfl, hp, R5.out⟩
                · have hmm2 : ¬ x.n < 0 := by omega
                  go_wp2_with fail
                  refine CT.out.mono ?_
                  rintro e w5 ⟨rfl, hk5⟩
                  have R5 := Lib.hid (SC.out.step hk5)
                  have hsx := HKX.out _ hk5.2.2
                  obtain ⟨d0, d1⟩ := ask_cells hsx
                  clear CT hk5 c0 c1 hsx
                  go_wp2
                  go_meet
                  exact ⟨p, rfl, hp, R5.out⟩
              | true =>
                have hmm : 0 ≤ x.n ∧ x.n ≤ 32 := by unfold mayN at hm; simpa using hm
                obtain ⟨m, hxm⟩ : ∃ m : Nat, x.n = m := ⟨x.n.toNat, by omega⟩
                have hm32 : m ≤ 32 := by omega
                have HXM := Lib.hid hxm
                rw [hxm] at CT c1 hm
                clear hmm hxm
                by_cases hs : 8 * bm < p + m
                · rw [show takeR bl p m = (0, 2, p) by unfold takeR; rw [if_neg (by rw [hm]; simp), if_pos (by rw [HBLEN.out, Int.toNat_natCast]; exact hs)]] at CT
                  have CT := Lib.hid CT
                  have hgt : (nv : Int) - (p : Int) < (m : Int) := by have := HNV.out; omega
                  have hm0 : ¬ (m : Int) < 0 := by omega
                  have hm33 : ¬ (32 : Int) < (m : Int) := by omega
                  clear hm hs
                  go_wp2_with fail
                  refine CT.out.mono ?_
                  rintro e w5 ⟨rfl, hk5⟩
                  have R5 := Lib.hid (SC.out.step hk5)
                  have hsx := HKX.out _ hk5.2.2
                  obtain ⟨d0, d1⟩ := ask_cells hsx
                  rw [HXM.out] at d1
                  clear CT hk5 c0 c1 hsx
                  go_wp2
                  go_meet
                  exact ⟨p, rfl, hp, R5.out⟩
                · have hpm : p + m ≤ nv := by have := HNV.out; omega
                  rw [show takeR bl p m = (numL (((ofL bl).drop p).take m), 0, p + m) by
                    unfold takeR
                    rw [if_neg (by rw [hm]; simp), if_neg (by rw [HBLEN.out, Int.toNat_natCast]; exact hs), Int.toNat_natCast, takeN_num _ _ _ (by rw [HLEN.out]; exact hpm)]] at CT
                  have CT := Lib.hid CT
                  have hgt : ¬ (nv : Int) - (p : Int) < (m : Int) := by omega
                  have hm0 : ¬ (m : Int) < 0 := by omega
                  have hm33 : ¬ (32 : Int) < (m : Int) := by omega
                  have hncv : nv ≤ cv := SC.out.bo.came.2.1
                  clear hm hs
                  go_wp2_with fail
                  refine CT.out.mono ?_
                  rintro e w5 ⟨rfl, hk5⟩
                  have R5 := Lib.hid (SC.out.step hk5)
                  have hsx := HKX.out _ hk5.2.2
                  obtain ⟨d0, d1⟩ := ask_cells hsx
                  rw [HXM.out] at d1
                  have HPT := Lib.hid (bools_part (at_ := p) (m := m) R5.out.bo.came hpm)
                  clear CT hk5 c0 c1 hsx
                  generalize ((ofL bl).drop p).take m = PT at *
                  go_wp2_with fail
                  · rename cv = p => heq
                    have CN := rnumber_any av m 0 PT w5 (by have := HPT.out; rw [if_pos heq, heq, Nat.sub_self] at this; exact this) (by omega)
                    have CN := Lib.hid CN
                    subst heq
                    refine CN.out.mono ?_
                    rintro e w6 ⟨rfl, rfl⟩
                    go_wp2
                    go_meet
                    exact ⟨cv + m, by go_num, by have := HNV.out; omega, R5.out⟩
                  · have hne : ¬ cv = p := by assumption
                    have CN := rnumber_any (Option.map (fun x => x.add p) av) m (cv - p) PT w5 (by have := HPT.out; rw [if_neg hne] at this; exact this) (by omega)
                    refine CN.mono ?_
                    rintro e w6 ⟨rfl, rfl⟩
                    go_wp2
                    go_meet
                    exact ⟨p + m, by go_num, by have := HNV.out; omega, R5.out⟩
            · have e0 : (x.act == 0) = false := by rw [beq_eq_false_iff_ne]; exact h0
              have hncv : nv ≤ cv := SC.out.bo.came.2.1
              have hpn : p ≤ nv := by have := HNV.out; omega
              have HWL := Lib.hid (show (wholeL ((ofL bl).take p)).length = octN p * 8 by rw [wholeL_length, List.length_take, HLEN.out, Nat.min_eq_left hpn])
              have hoc : octN p ≤ bm := by unfold octN; omega
              clear h0
              by_cases h1 : x.act = 1
              · have e1 : (x.act == 1) = true := by rw [beq_iff_eq]; exact h1
                clear h1
                have CT := Lib.hid (alignS SC.out.rd (by omega))
                obtain ⟨o, ho⟩ : ∃ o, o = octN p := ⟨_, rfl⟩
                rw [← ho] at CT HWL hoc
                clear ho
                go_wp2_with fail
                refine CT.out.mono ?_
                rintro e w5 ⟨rfl, hk5⟩
                have R5 := Lib.hid (SC.out.step hk5)
                have CW := Lib.hid (rwhole_any av p cv ((ofL bl).take p) w5 (bools_head R5.out.bo.came hpn) (by omega))
                clear CT hk5 c0 c1
                go_wp2_with fail
                refine CW.out.mono ?_
                rintro e w6 ⟨a6, n6, c6, rfl, hB6⟩
                have hn6 : n6 = o * 8 := by rw [← hB6.2.1, HWL.out]
                have R6 := Lib.hid (R5.out.below hB6.2.2.2)
                have HN6 := Lib.hid hn6
                have hn6b : n6 ≤ 8 * bm := by omega
                clear CW hB6 hn6
                go_wp2
                go_meet
                exact ⟨n6, rfl, hn6b, by rw [HN6.out]; exact R6.out⟩
              · have e1 : (x.act == 1) = false := by rw [beq_eq_false_iff_ne]; exact h1
                clear h1
                have CT := octsRS SC.out.rd x.n (by rw [HBLEN.out]; omega) (by rw [HBLEN.out]; omega)
                have hrg : -9223372036854775808 ≤ x.n ∧ x.n ≤ 9223372036854775807 := ⟨GX.out.lo, GX.out.hi⟩
                obtain ⟨o, ho⟩ : ∃ o, o = octN p := ⟨_, rfl⟩
                have HO := Lib.hid ho
                obtain ⟨p1, hp1⟩ : ∃ p1, p1 = o * 8 := ⟨_, rfl⟩
                rw [← ho] at HWL hoc
                rw [← hp1] at HWL
                have HP1 := Lib.hid hp1
                have hp1n : p1 ≤ nv := by have := HNV.out; omega
                have hp1b : p1 ≤ 8 * bm := by omega
                by_cases hn0 : x.n < 0
                · rw [show octsR bl p x.n = ([], 1, p1) by unfold octsR; rw [if_pos hn0, ← ho, ← hp1]] at CT
                  have CT := Lib.hid CT
                  clear ho hp1
                  go_wp2_with fail
                  refine CT.out.mono ?_
                  rintro e w5 ⟨a5, c5, rfl, h5, hk5⟩
                  have R5 := Lib.hid (SC.out.step hk5)
                  have HX5 := Lib.hid (HKX.out _ hk5.2.2)
                  have CW := Lib.hid (rwhole_any av p cv ((ofL bl).take p) w5 (bools_head R5.out.bo.came hpn) (by omega))
                  clear CT h5 hk5 c0 c1
                  try simp only [List.length_nil]
                  go_wp2_with fail
                  refine CW.out.mono ?_
                  rintro e w6 ⟨a6, n6, c6, rfl, hB6⟩
                  have hn6 : n6 = p1 := by rw [← hB6.2.1, HWL.out]
                  subst hn6
                  have R6 := Lib.hid (R5.out.below hB6.2.2.2)
                  obtain ⟨d0, d1⟩ := ask_cells ((hB6.2.2.2.block Bx (Array.getElem?_eq_some_iff.1 HX5.out).1).trans HX5.out)
                  clear CW hB6
                  go_wp2
                  go_meet
                  exact ⟨n6, rfl, hp1b, R6.out⟩
                · obtain ⟨m, hxm⟩ : ∃ m : Nat, x.n = m := ⟨x.n.toNat, by omega⟩
                  have HXM := Lib.hid hxm
                  rw [hxm] at CT c1 hn0
                  have hm64 : m ≤ 9223372036854775807 := by omega
                  clear hxm hrg
                  by_cases hs : bm < o + m
                  · rw [show octsR bl p m = ([], 2, p1) by unfold octsR; rw [if_neg hn0, Int.toNat_natCast, ← ho, if_pos (by rw [HBLEN.out]; exact hs), ← hp1]] at CT
                    have CT := Lib.hid CT
                    have hq : (nv : Int) - (p1 : Int) = ((8 * (bm - o) : Nat) : Int) := by have := HNV.out; omega
                    have hgt : ((nv : Int) - (p1 : Int)) / 8 < (m : Int) := by omega
                    clear ho hp1 hq hs
                    go_wp2_with fail
                    refine CT.out.mono ?_
                    rintro e w5 ⟨a5, c5, rfl, h5, hk5⟩
                    have R5 := Lib.hid (SC.out.step hk5)
                    have HX5 := Lib.hid (HKX.out _ hk5.2.2)
                    have CW := Lib.hid (rwhole_any av p cv ((ofL bl).take p) w5 (bools_head R5.out.bo.came hpn) (by omega))
                    clear CT h5 hk5 c0 c1
                    try simp only [List.length_nil]
                    go_wp2_with fail
                    refine CW.out.mono ?_
                    rintro e w6 ⟨a6, n6, c6, rfl, hB6⟩
                    have hn6 : n6 = p1 := by rw [← hB6.2.1, HWL.out]
                    subst hn6
                    have R6 := Lib.hid (R5.out.below hB6.2.2.2)
                    obtain ⟨d0, d1⟩ := ask_cells ((hB6.2.2.2.block Bx (Array.getElem?_eq_some_iff.1 HX5.out).1).trans HX5.out)
                    rw [HXM.out] at d1
                    clear CW hB6
                    go_wp2
                    go_meet
                    exact ⟨n6, rfl, hp1b, R6.out⟩
                  · have hom : o + m ≤ bm := by omega
                    rw [show octsR bl p m = ((bl.drop o).take m, 0, p1 + 8 * m) by unfold octsR; rw [if_neg hn0, Int.toNat_natCast, ← ho, if_neg (by rw [HBLEN.out]; exact hs), hp1, show (o + m) * 8 = o * 8 + 8 * m by omega]] at CT
                    have CT := Lib.hid CT
                    have hq : (nv : Int) - (p1 : Int) = ((8 * (bm - o) : Nat) : Int) := by have := HNV.out; omega
                    have hgt : ¬ ((nv : Int) - (p1 : Int)) / 8 < (m : Int) := by omega
                    have hpl : p1 + 8 * m ≤ 8 * bm := by omega
                    have HLM := Lib.hid (show ((bl.drop o).take m).length = m by rw [List.length_take, List.length_drop, HBLEN.out]; omega)
                    clear ho hp1 hq hs
                    go_wp2_with fail
                    refine CT.out.mono ?_
                    rintro e w5 ⟨a5, c5, rfl, h5, hk5⟩
                    have R5 := Lib.hid (SC.out.step hk5)
                    have HX5 := Lib.hid (HKX.out _ hk5.2.2)
                    have CW := Lib.hid (rwhole_any av p cv ((ofL bl).take p) w5 (bools_head R5.out.bo.came hpn) (by omega))
                    dsimp only at h5
                    rw [HLM.out] at h5
                    have H5 := Lib.hid h5
                    clear CT h5 hk5 c0 c1
                    dsimp only
                    rw [HLM.out]
                    go_wp2_with fail
                    refine CW.out.mono ?_
                    rintro e w6 ⟨a6, n6, c6, rfl, hB6⟩
                    have hn6 : n6 = p1 := by rw [← hB6.2.1, HWL.out]
                    subst hn6
                    have R6 := Lib.hid (R5.out.below hB6.2.2.2)
                    have HX6 := Lib.hid ((hB6.2.2.2.block Bx (Array.getElem?_eq_some_iff.1 HX5.out).1).trans HX5.out)
                    have H6 := Lib.hid (H5.out.below hB6.2.2.2)
                    clear CW hB6
                    obtain ⟨d0, d1⟩ := ask_cells HX6.out
                    rw [HXM.out] at d1
                    go_upto_region 26 with (fail)
                    have hb6 := HBL.out.below R6.out.bo.2.2.2
                    have hbc : bm ≤ bc := hb6.2.1
                    have hcut := BytesAt.cutIf (at_ := o) (m := m) hb6 hom
                    have hq1 : (n6 : Int).tdiv 8 = (o : Int) := by rw [Int.tdiv_eq_ediv_of_nonneg (by omega)]; have := HP1.out; omega
                    have hw1 : IntKind.i64.wrap (o : Int) = (o : Int) := IntWalk.i64_in _ (by omega)
                    have hw2 : IntKind.i64.wrap ((o : Int) + (m : Int)) = (o : Int) + (m : Int) := IntWalk.i64_in _ (by omega)
                    have hcv1 := (H6.out.below ((Below.refl _ w6).drew)).conv
                    have hcv2 := (hcut.below ((Below.refl _ w6).drew)).conv
                    have hob : (o : Int) + (m : Int) ≤ (bc : Int) := by omega
                    clear hb6 hcut
                    have HCV1 := Lib.hid hcv1
                    have HCV2 := Lib.hid hcv2
                    have HSL := Lib.hid (fun u => slice_bytes u ba bm bc o m (by omega))
                    clear hcv1 hcv2 hob
                    generalize (if bc = o then ba else Option.map (fun x => x.add o) ba) = A at *
                    generalize (bl.drop o).take m = PB at *
                    refine region_headS 17 [0, 1, 2, 3, 4, 5, 6, 7, 8, 9, 10, 11, 12, 13, 14, 15, 16] [] (fun u => u = w6.drew) (by kernel_rfl) (by kernel_rfl) rfl ?_
                    simp only [pickO, List.filterMap_cons, List.filterMap_nil, List.getElem?_cons_zero, List.getElem?_cons_succ, Option.map_some, List.drop_succ_cons, List.drop_zero]
                    refine seqS_read _ rfl rfl (by rintro u hu; clear hu; go_simp; with_reducible rfl) ?_
                    try simp only [Act.put, List.setIfInBounds_toArray, List.set_cons_zero, List.set_cons_succ]
                    refine seqS_read (.string ⟨PB.toArray⟩) rfl rfl (by rintro u rfl; have h := HCV1.out; go_simp; try rfl) ?_
                    try simp only [Act.put, List.setIfInBounds_toArray, List.set_cons_zero, List.set_cons_succ]
                    iterate 2
                      refine seqS_read _ rfl rfl (by rintro u hu; clear hu; go_simp; with_reducible rfl) ?_
                      try simp only [Act.put, List.setIfInBounds_toArray, List.set_cons_zero, List.set_cons_succ]
                    refine seqS_read (.int .i64 (o : Int)) rfl rfl (by rintro u hu; clear hu; go_simp; try rfl) ?_
                    try simp only [Act.put, List.setIfInBounds_toArray, List.set_cons_zero, List.set_cons_succ]
                    refine seqS_read _ rfl rfl (by rintro u hu; clear hu; go_simp; with_reducible rfl) ?_
                    try simp only [Act.put, List.setIfInBounds_toArray, List.set_cons_zero, List.set_cons_succ]
                    refine seqS_read (.int .i64 (o : Int)) rfl rfl (by rintro u hu; clear hu; go_simp; try rfl) ?_
                    try simp only [Act.put, List.setIfInBounds_toArray, List.set_cons_zero, List.set_cons_succ]
                    refine seqS_read _ rfl rfl (by rintro u hu; clear hu; go_simp; with_reducible rfl) ?_
                    try simp only [Act.put, List.setIfInBounds_toArray, List.set_cons_zero, List.set_cons_succ]
                    refine seqS_read (.int .i64 (m : Int)) rfl rfl (by rintro u rfl; go_simp; try rfl) ?_
                    try simp only [Act.put, List.setIfInBounds_toArray, List.set_cons_zero, List.set_cons_succ]
                    refine seqS_read (.int .i64 ((o : Int) + (m : Int))) rfl rfl (by rintro u hu; clear hu; go_simp; try rfl) ?_
                    try simp only [Act.put, List.setIfInBounds_toArray, List.set_cons_zero, List.set_cons_succ]
                    refine seqS_read (.slice A m (bc - o)) rfl rfl (by rintro u hu; clear hu; have h := HSL.out u; go_simp; try rfl) ?_
                    try simp only [Act.put, List.setIfInBounds_toArray, List.set_cons_zero, List.set_cons_succ]
                    refine seqS_read (.string ⟨PB.toArray⟩) rfl rfl (by rintro u rfl; have h := HCV2.out; go_simp; try rfl) ?_
                    try simp only [Act.put, List.setIfInBounds_toArray, List.set_cons_zero, List.set_cons_succ]
                    refine seqS_read (.bool false) rfl rfl (by rintro u hu; clear hu; go_simp; try simp) ?_
                    try simp only [Act.put, List.setIfInBounds_toArray, List.set_cons_zero, List.set_cons_succ]
                    refine seqS_read _ rfl rfl (by rintro u hu; clear hu; go_simp; with_reducible rfl) ?_
                    try simp only [Act.put, List.setIfInBounds_toArray, List.set_cons_zero, List.set_cons_succ]
                    refine seqS_readG _ rfl (by rfl) (by rintro u hu; clear hu; go_simp; with_reducible rfl) ?_
                    try simp only [Act.put, List.setIfInBounds_toArray, List.set_cons_zero, List.set_cons_succ]
                    refine seqS_readG (.bool false) rfl (by rfl) (by rintro u hu; clear hu; go_simp; try simp) ?_
                    try simp only [Act.put, List.setIfInBounds_toArray, List.set_cons_zero, List.set_cons_succ]
                    refine seqS_read (.bool false) rfl rfl (by rintro u hu; clear hu; go_simp; try simp) ?_
                    try simp only [Act.put, List.setIfInBounds_toArray, List.set_cons_zero, List.set_cons_succ]
                    refine seqS_nil ?_
                    have e1w : w6.drew.cell? ⟨Bx, 1, none⟩ = some (.int .i64 (m : Int)) := d1
                    go_wp2
                    go_meet
                    exact ⟨n6 + 8 * m, by go_num, hpl, R6.out.below ((Below.refl _ _).drew)⟩
          case rest =>
            obtain ⟨p2, rfl, hp2, hI2⟩ := hcut
            have HI2 := Lib.hid hI2
            have CA := Lib.hid (atS hI2.rd)
            have CL := leftS hI2.rd (by rw [HBLEN.out]; omega) (by rw [HBLEN.out]; exact hp2)
            rw [show ((8 * bl.length - p2 : Nat) : Int) = (nv : Int) - (p2 : Int) by rw [HBLEN.out, HNV.out]; omega] at CL
            have CL := Lib.hid CL
            have hnp : p2 ≤ nv := by have := HNV.out; omega
            clear hI2 c0 c1
            go_wp2_with fail
            refine CA.out.mono ?_
            rintro e w5 ⟨rfl, rfl⟩
            go_wp2_with fail
            refine CL.out.mono ?_
            rintro e w5 ⟨rfl, nq, rfl⟩
            go_wp2
            go_roundw
            case rel => exact ⟨k + 1, p2, by omega, by omega, by go_num, rfl, hp2, HI2.out.below (below_drewN (Below.refl _ _) nq)⟩
            case measure => simp [intOf]; omega
        · have CA := Lib.hid (awake08 wx)
          have HBL2 := Lib.hid (HI.out.bo.2.2.2)
          have hex : Hid (¬ (k < n ∧ k < 60)) := hgo
          by_cases hlt2 : k < n
          · have h60 : ¬ k < 60 := fun hh => hex.out ⟨hlt2, hh⟩
            have hlti : (k : Int) < (n : Int) := by omega
            have h60i : ¬ (k : Int) < 60 := by omega
            clear hgo
            go_wp2_with fail
            refine CA.out.mono ?_
            rintro e w2 ⟨rfl, hb2⟩
            go_wp2
            go_ret
            exact ⟨rfl, HBL2.out.trans (hb2.mono HBL2.out.size)⟩
          · have hlti : ¬ (k : Int) < (n : Int) := by omega
            clear hgo
            go_wp2_with fail
            refine CA.out.mono ?_
            rintro e w2 ⟨rfl, hb2⟩
            go_wp2
            go_ret
            exact ⟨rfl, HBL2.out.trans (hb2.mono HBL2.out.size)⟩

theorem own : ownKnob Try.prog.godebug = none := by kernel_rfl
theorem laidOut : laidOutB Try.prog = true := by kernel_rfl

set_option maxRecDepth 100000 in
theorem lifted (os : Os) (started : os.Started) (H : Type) (enc : TypeId × Value → H) :
    ReturnsInHanded {} Try.checked os 4 .any (Rows.bitsReadsSpec.pre6 enc Try.prog Try.f4 Rows.bitsReadsRow.domain false) (Rows.bitsReadsSpec.post enc Try.prog Try.f4 false true false false) := by
  refine returnsInHanded_of_change (C := Try.checked) own started (by kernel_rfl) Try.func4
    (ChangeSpec.witness6 (enc := enc) (C := Try.checked) false ⟨#[], #[.slice none 0 0, .slice none 0 0], []⟩ 8 (by kernel_rfl) (by kernel_rfl) (by kernel_rfl) (by kernel_rfl)) ?_
  intro W base args ds gs before hval0 hW hcnd _
  have hval : ∀ (j : Nat) t v, Try.f4.params[j]? = some t → args[j]? = some v → Value.okWide Try.prog W .any base t v := hval0
  have hW' := hW
  obtain ⟨p, q, hA0, hV, rfl, hfz, hnd⟩ := hW
  have hA : DataW.TrodAll enc Try.prog W 0 (fun _ => true) true Try.f4.params.toList args.toList ds p := hA0
  rw [Try.params4] at hA hval
  obtain ⟨v0, vs0, d0, ds0, p0, q0, hargs, rfl, rfl, h0, r0⟩ := trodAll_cons hA
  obtain ⟨v1, vs1, d1, ds1, p1, q1, rfl, rfl, rfl, h1, r1⟩ := trodAll_cons r0
  obtain ⟨rfl, rfl, rfl⟩ := trodAll_nil r1
  obtain rfl : args = #[v0, v1] := by cases args; simp_all
  obtain ⟨rfl, rfl⟩ := trodVars_none hV
  have k0 := h0
  have lt0 : ∀ x ∈ p0, x.block < W.heap.size := by obtain ⟨m, hm⟩ := k0; exact DataW.trod_lt m _ _ _ hm
  obtain ⟨a0, len0, cap0, rfl⟩ := okWide_slice Try.underlying27 (hval 0 27 v0 rfl rfl)
  obtain ⟨l0, w0⟩ : ∃ l, BytesAt W a0 len0 cap0 l := by
    obtain ⟨fuel, hf⟩ := h0
    rcases open_ints Try.underlying27 Try.underlying5 (by kernel_rfl) hf with ⟨hcs, _⟩ | ⟨x, l, c, zs, hcs, _, hl, hm, hz, _, hcell, hwz⟩
    · simp [Value.cells] at hcs
      obtain ⟨rfl, rfl, rfl⟩ := hcs
      exact ⟨[], BytesAt.nil W⟩
    · simp [Value.cells] at hcs
      obtain ⟨rfl, rfl, rfl⟩ := hcs
      exact ⟨_, BytesAt.of_row hl hm (by simpa using hz) hcell hwz⟩
  have k1 := h1
  have lt1 : ∀ x ∈ p1, x.block < W.heap.size := by obtain ⟨m, hm⟩ := k1; exact DataW.trod_lt m _ _ _ hm
  obtain ⟨a1, len1, cap1, l1, rfl, w1, g1⟩ := asks_of (hval 1 42 v1 rfl rfl) h1
  clear hA0 hval0
  refine (walk a0 len0 cap0 l0 a1 len1 cap1 l1 W w0 w1 g1).mono fun e W' ⟨he, bel⟩ => ?_
  subst he
  exact ⟨_, rfl, _, _, _, [], _, [], hW', trodAll_mk1 (shut_bool Try.underlying4 _), (trodAll_cons_mk (Below.trod laidOut (by kernel_rfl) (of_decide_eq_true (by kernel_rfl)) k0 bel lt0) (trodAll_cons_mk (Below.trod laidOut (by kernel_rfl) (of_decide_eq_true (by kernel_rfl)) k1 bel lt1) trodAll_mk0)), rfl, bel.frame _, fun h => by cases h⟩

theorem proved : Rows.BitsReadsSaid :=
  OpenClaim.holds_of_wide 4 Try.f4 rfl rfl rfl rfl rfl rfl rfl ⟨rfl, rfl, rfl, rfl, rfl⟩ rfl rfl rfl rfl rfl (by kernel_rfl) Try.func4 (by kernel_rfl)
    (of_decide_eq_true (by kernel_rfl)) (by unfold Func.isWrapper; first | (rw [if_pos (by decide +kernel)]; kernel_rfl) | (rw [if_neg (by decide +kernel)]; exact ⟨rfl, rfl⟩))
    (fun os started H enc _ => lifted os started H enc)

end Go.Proofs.Ytkkjmkihehbomaa.bitsReads
