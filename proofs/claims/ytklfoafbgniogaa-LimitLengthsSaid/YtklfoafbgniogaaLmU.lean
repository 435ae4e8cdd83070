/-
  The document's own answers for layer 10 (hamperref10): Merged, the walk.
-/
import Derived.Test.YtklfoafbgniogaaLmT
import Derived.Deep.DeepCutAuto
import Derived.Deep.CutBlock
namespace Go.Proofs.Ytklfoafbgniogaa
open Go.RowKit Go.Deep
set_option linter.unusedVariables false
set_option linter.unusedSimpArgs false
set_option maxRecDepth 100000

theorem bcell10 {W w1 : World} (hb : Below W.heap.size W w1) : (∀ b o, b < W.heap.size → w1.cell? ⟨b, o, none⟩ = W.cell? ⟨b, o, none⟩) ∧ (∀ b o, b < W.heap.size → w1.frozen? ⟨b, o, none⟩ = W.frozen? ⟨b, o, none⟩) :=
  ⟨fun b o h => hb.cell (p := ⟨b, o, none⟩) h, fun b o h => hb.frozen (p := ⟨b, o, none⟩) h⟩
theorem two_set {w : World} {g : Nat} {a b x y : Value} {t : TypeId} (h : w.heap[g]? = some (.cells #[a, b] t (0, 0))) : ((w.setCell ⟨g, 0, none⟩ x).setCell ⟨g, 1, none⟩ y).heap[g]? = some (.cells #[x, y] t (0, 0)) := by
  have h1 := heap_setCell_same w g 0 _ _ x h
  exact heap_setCell_same _ g 1 _ _ y h1
/-- a pack that was laid in a box -/
def LaidP (N : Nat) (wr : World) (pg : Nat) (p : PK) (wx : World) (x : Itm) : Prop :=
  wx.heap[pg]? = some (.cells (packC N p).toArray 47 (0, 0)) ∧ p.x = x ∧ PkAt N wx p ∧ Below wr.heap.size wr wx ∧ wr.heap.size ≤ pg ∧ ∀ q, p.a = some q → wr.heap.size ≤ q.block
theorem laid_a {N : Nat} {wr W w2 : World} {p : PK} {x : Itm} (hx : p.x = x) (hW : Below wr.heap.size wr W) (hpb : Below W.heap.size W w2) (hpa : PkAt N w2 p) (hpq : ∀ q, p.a = some q → W.heap.size ≤ q.block) :
    LaidP N wr w2.heap.size p (w2.alloc (.cells (packC N p).toArray 47)) x := by
  have h := hW.trans (hpb.mono hW.size)
  exact ⟨heap_alloc_new _ _, hx, hpa.below ((Below.refl _ _).alloc (Nat.le_refl _) _), h.alloc h.size _, h.size, fun q hq => Nat.le_trans hW.size (hpq q hq)⟩
theorem laid_b {N g : Nat} {wr W w2 : World} {p : PK} {x : Itm} {a b : Value} (hx : p.x = x) (hg : g = wr.heap.size) (hW : Below wr.heap.size wr W) (hr : W.heap[g]? = some (.cells #[a, b] 47 (0, 0))) (hpb : Below W.heap.size W w2) (hpa : PkAt N w2 p) (hpq : ∀ q, p.a = some q → W.heap.size ≤ q.block) :
    LaidP N wr g p ((w2.setCell ⟨g, 0, none⟩ (.int .i64 (p.x.w : Int))).setCell ⟨g, 1, none⟩ (.slice p.a N p.cap)) x := by
  have hlt := (Array.getElem?_eq_some_iff.1 hr).1
  have h := hW.trans (hpb.mono hW.size)
  refine ⟨two_set ((hpb.block g hlt).trans hr), hx, ?_, (h.setCell (by simp; omega) _).setCell (by simp; omega) _, by omega, fun q hq => Nat.le_trans hW.size (hpq q hq)⟩
  refine CameAt.only (S := fun q => q = g) hpa (by omega) ((Only.setCell (S := fun q => q = g) w2 ⟨g, 0, none⟩ _ rfl).trans (Only.setCell (S := fun q => q = g) _ ⟨g, 1, none⟩ _ rfl) fun _ _ e => e) fun q hq _ e => ?_
  have := hpq q hq
  omega
def AskP (p : PK) (Z : List PK) (k : Nat) (bb : Bool) : Prop := (bb = true → 0 < k ∧ p.x.w < (Z.getD (k - 1) default).x.w) ∧ (bb = false → k = 0 ∨ (Z.getD (k - 1) default).x.w ≤ p.x.w)
/-- the list so far, of the call's own -/
def MerI (N : Nat) (ZC : List PK) (w wr : World) (a : Option Addr) (n cap : Nat) (X : List Itm) : Prop :=
  ∃ Z, OwnI (packC N) 47 2 w wr a n cap Z ∧ (∀ p ∈ Z, PkAt N wr p) ∧ Z.map (·.x) = X ∧ ∀ p ∈ Z, (∃ y ∈ ZC, y.a = p.a) ∨ ∀ q, p.a = some q → w.heap.size ≤ q.block
/-- what Merged hands out: its packs' rows are the coins', or its own -/
def FreshMer (N : Nat) (ZC : List PK) (X : List Itm) (w : World) (e : Ending) (w' : World) : Prop := ∃ a n cap, e = .returned (.slice a n cap) ∧ MerI N ZC w w' a n cap X
theorem map_getD (Z : List PK) (X : List Itm) (h : Z.map (·.x) = X) (i : Nat) (hi : i < Z.length) : X[i]? = some (Z.getD i default).x := by
  rw [← h, List.getElem?_map, List.getD, List.getElem?_eq_getElem hi]; rfl

set_option maxHeartbeats 8000000 in
theorem lmMerged_any (N : Nat) (ca : Option Addr) (cn cc : Nat) (ZC : List PK) (la : Option Addr) (ln lc : Nat) (ZL : List PK) (w : World) (hC : PksAt N w ca cn cc ZC) (hL : PksAt N w la ln lc ZL) (gC : ∀ p ∈ ZC, PkAt N w p) (gL : ∀ p ∈ ZL, PkAt N w p)
    (hN : N ≤ 100000) (hcn : 0 < cn) (hcb : cn ≤ 100000) (hlb : ln ≤ 100000) (hs : SortI (ZC.map (·.x))) (hb : ∀ p ∈ ZL, p.x.w ≤ 1125899906842624 ∧ p.x.ms.length ≤ 1125899906842624) :
    Calls Try.prog 20 #[.slice ca cn cc, .slice la ln lc] w (FreshMer N ZC (mergedI (ZC.map (·.x)) (ZL.map (·.x))) w) := by
  obtain ⟨i0, hi0, hz0, hz1, hz2⟩ := info_parts infoPack
  have HC := Lib.hid hC
  have HL := Lib.hid hL
  have HLC := Lib.hid hC.1
  have HLL := Lib.hid hL.1
  have GC := Lib.hid gC
  have GL := Lib.hid gL
  have HB := Lib.hid hb
  have HM0 := Lib.hid (mergedTo_zero (ZC.map (·.x)) (ZL.map (·.x)))
  have HMA := Lib.hid (mergedTo_all (ZC.map (·.x)) (ZL.map (·.x)))
  have HMS := Lib.hid (mergedTo_succ (ZC.map (·.x)) (ZL.map (·.x)))
  have HML := Lib.hid (mergedTo_len (ZC.map (·.x)) (ZL.map (·.x)))
  have HMO := Lib.hid (fun q => mergedTo_sort (ZC.map (·.x)) (ZL.map (·.x)) q hs)
  have HXL := Lib.hid (show (ZL.map (·.x)).length = ln by rw [List.length_map, hL.1])
  have HXC := Lib.hid (show (ZC.map (·.x)).length = cn by rw [List.length_map, hC.1])
  have HLAT := Lib.hid (fun i (hi : i < ln) => map_getD ZL _ rfl i (by rw [hL.1]; exact hi))
  have HCX := Lib.hid (show ZC.map (·.x) = ZC.map (·.x) from rfl)
  generalize ZL.map (·.x) = XL at *
  obtain ⟨XC, hXC⟩ : ∃ XC, XC = ZC.map (·.x) := ⟨_, rfl⟩
  rw [← hXC] at HM0 HMA HMS HML HMO HXC ⊢
  have HCX := Lib.hid hXC
  have hbs := build_packs
  have HN0 := Lib.hid (packs_new N w)
  obtain ⟨cb, coff, rfl, _, _⟩ := CameAt.at hC hcn (by omega)
  have HC1 := Lib.hid (CameAt.below hC (by omega) ((Below.refl w.heap.size w).alloc (Nat.le_refl _) (.cells #[] 47)))
  clear hC hL gC gL hs hb hXC
  go_enter Try.func20, Try.ntmps20
  go_upto_region 2 with (at_builtin; refine wpList_append_recs (f := packC N) rfl _ _ 44 rfl 47 i0 _ 2 32 Try.underlying44 hi0 hz0 hz1 hz2 rfl (by omega) _ [] rfl HN0.out.1 ⟨cb, coff, none⟩ cn cc ZC rfl HLC.out (fun _ _ => rfl) (fun y _ => packC_one N y) (CameAt.read HC1.out (by omega)) (by unfold maxLen; simp; omega) (by simp; omega) ?_; intro v' w' hr hg hbk; obtain ⟨a', cap', rfl, hI2⟩ := OwnI.more0 HN0.out hr hg hbk; have HI2 := Lib.hid hI2; clear hr hg hbk hI2)
  clear hbs HN0 HC1
  have HST := Lib.hid (show MerI N ZC w w' a' cn cap' (mergedTo XC XL 0) from
    ⟨ZC, by have := HI2.out; rw [HLC.out, Nat.zero_add] at this; exact this, fun p hp => (GC.out p hp).below HI2.out.2.2.2, by rw [HM0.out, HCX.out], fun p hp => .inl ⟨p, hp, rfl⟩⟩)
  clear HI2 HC GC
  go_wp2
  go_loopw [5, 6] (fun so si wr => ∃ (q K : Nat) (oa : Option Addr) (on oc : Nat), K = 2 * q ∧ K ≤ ln ∧ on = cn + q ∧ si = .int .i64 (K : Int) ∧ so = .slice oa on oc ∧ MerI N ZC w wr oa on oc (mergedTo XC XL q)) (fun _ si _ => ln + 2 - (intOf si).toNat)
  case atStart => exact ⟨0, 0, a', cn, cap', rfl, Nat.zero_le _, rfl, rfl, by rw [HLC.out], HST.out⟩
  case round =>
    obtain ⟨q, K, oa, on, oc, hK, hKl, hon, rfl, rfl, hm⟩ := hrel
    rename World => wr
    have HM := Lib.hid hm
    clear hm HST
    by_cases hlt : K + 1 < ln
    · obtain ⟨Z, hZ, hG, hX, hO⟩ := HM.out
      have HOR := Lib.hid hO
      clear hO
      have HZ := Lib.hid hZ
      have HG := Lib.hid hG
      have HX := Lib.hid hX
      have HB0 := Lib.hid hZ.2.2.2
      have HLr := Lib.hid (CameAt.below HL.out (by omega) hZ.2.2.2)
      obtain ⟨g, cg, hv, _, _, hglt⟩ := hZ.1.form' (by rw [hZ.2.1]; omega)
      simp only [Value.slice.injEq] at hv
      obtain ⟨rfl, hv2, rfl⟩ := hv
      clear hv2
      obtain ⟨lb, loff, rfl, hlb2, hc⟩ := PksAt.cell HLr.out (by omega)
      obtain ⟨x0, x1⟩ := hc K (by omega)
      obtain ⟨y0, y1⟩ := hc (K + 1) hlt
      have hp1 : ZL.getD K default ∈ ZL := by rw [List.getD, List.getElem?_eq_getElem (by rw [HLL.out]; omega)]; exact List.getElem_mem _
      have hp2 : ZL.getD (K + 1) default ∈ ZL := by rw [List.getD, List.getElem?_eq_getElem (by rw [HLL.out]; omega)]; exact List.getElem_mem _
      have C2 := Lib.hid (fun u (hb : Below w.heap.size w u) => lmTwo_any N (ZL.getD K default) (ZL.getD (K + 1) default) u ((GL.out _ hp1).below hb) ((GL.out _ hp2).below hb) hN ⟨(HB.out _ hp1).1, (HB.out _ hp2).1⟩ ⟨(HB.out _ hp1).2, (HB.out _ hp2).2⟩)
      have HSU := Lib.hid (HMS.out q (ZL.getD K default).x (ZL.getD (K + 1) default).x (by rw [← hK]; exact HLAT.out K (by omega)) (by rw [← hK]; exact HLAT.out (K + 1) hlt))
      have hKi : (K : Int) + 1 < ln := by omega
      obtain ⟨K1, hK1⟩ : ∃ K1, K1 = K + 1 := ⟨_, rfl⟩
      rw [← hK1] at y0 y1 C2 HSU
      have e1 : IntKind.i64.wrap ((K : Int) + 1) = (K1 : Int) := by rw [IntWalk.i64_in _ (by omega)]; omega
      have hK1l : (K1 : Int) < ln := by omega
      have hKl2 : (K : Int) < ln := by omega
      clear hc hp1 hp2 hZ hG hX
      generalize ZL.getD K default = pa at *
      generalize ZL.getD K1 default = pb at *
      simp only [packC] at C2
      have HK1 := Lib.hid hK1
      have HK := Lib.hid hK
      have HON := Lib.hid hon
      clear hK1 hK hon
      go_upto_region 5 with (fail)
      go_cut [7] (fun s7 wx => ∃ (pg : Nat) (p : PK), s7 = .pointer (some ⟨pg, 0, none⟩) ∧ LaidP N wr pg p wx (twoI pa.x pb.x))
      case first =>
        go_region_law (first
          | (go_simp; go_at_call 27; refine (C2.out _ (HB0.out.trans (Below.mono (by first | exact Below.refl _ _ | exact (Below.refl _ _).drew | exact (Below.refl _ _).alloc (Nat.le_refl _) _ | exact ((Below.refl _ _).drew).alloc (by simp) _ | exact ((Below.refl _ _).alloc (Nat.le_refl _) _).drew) HB0.out.size))).mono ?_; rintro e w2 ⟨p, hpx, rfl, hpa, hpb, hpq⟩; obtain ⟨bc, bf⟩ := bcell10 hpb; simp only [packC]))
        all_goals
          rw [← hpx]
          clear bc bf
          first
            | (have hfin := laid_a (wr := wr) hpx (by first | exact Below.refl _ _ | exact (Below.refl _ _).drew) hpb hpa hpq
               go_wp2
               go_meet
               exact ⟨_, p, rfl, hfin⟩)
            | (have hfin := laid_b (wr := wr) (g := wr.heap.size) hpx rfl (by first | exact (Below.refl _ _).alloc (Nat.le_refl _) _ | exact ((Below.refl _ _).drew).alloc (by simp) _ | exact ((Below.refl _ _).alloc (Nat.le_refl _) _).drew) (by first | exact heap_alloc_new wr _ | exact heap_alloc_new wr.drew _) hpb hpa hpq
               go_wp2
               go_meet
               exact ⟨_, p, rfl, hfin⟩)
      case rest =>
      obtain ⟨pg, p, rfl, hrow, hpx, hpa, hbx, hpg, hpq⟩ := hcut
      have HPQ := Lib.hid (show ∀ q, p.a = some q → w.heap.size ≤ q.block from fun q hq => Nat.le_trans HB0.out.size (hpq q hq))
      clear hpq
      rename World => wc
      have HPX := Lib.hid hpx
      have HPA := Lib.hid hpa
      have HROW := Lib.hid hrow
      have HBX := Lib.hid hbx
      have HZL := Lib.hid HZ.out.2.1
      have HPLT := Lib.hid (show pg < wc.heap.size from (Array.getElem?_eq_some_iff.1 hrow).1)
      clear C2 hrow hpx hpa hbx x0 x1 y0 y1 e1
      have HXX := Lib.hid (HMO.out q)
      rw [← HX.out] at HXX
      have hobb : on ≤ 200000 := by have := HON.out; have := HK.out; omega
      go_wp2
      go_loopw [8] (fun sk wx => ∃ k : Nat, k ≤ on ∧ sk = .int .i64 (k : Int) ∧ (∀ j, k ≤ j → j < on → p.x.w < (Z.getD j default).x.w) ∧ Below wc.heap.size wc wx) (fun sk _ => (intOf sk).toNat)
      case atStart => exact ⟨on, Nat.le_refl _, rfl, fun j h1 h2 => by omega, Below.refl _ _⟩
      case round =>
        obtain ⟨k, hk, rfl, hab, hbw⟩ := hrel
        rename World => wx
        have HAB := Lib.hid hab
        have HBW := Lib.hid hbw
        have HBR := Lib.hid (HBX.out.trans (hbw.mono HBX.out.size))
        have hprow := (hbw.block pg HPLT.out).trans HROW.out
        obtain ⟨p0, p1⟩ := pack_cells (x := .int .i64 (p.x.w : Int)) (y := .slice p.a N p.cap) hprow
        have HPROW := Lib.hid hprow
        clear hab hbw hprow
        go_upto_region 7 with (fail)
        go_cut [44] (fun s44 wy => Below wc.heap.size wc wy ∧ Below wx.heap.size wx wy ∧ ∃ bb, s44 = .bool bb ∧ AskP p Z k bb)
        case first =>
          by_cases hk0 : k = 0
          · subst hk0
            have hk0i : ¬ (0 : Int) < ((0 : Nat) : Int) := by omega
            go_wp2
            go_quiet (fail)
            go_wp2
            go_meet
            exact ⟨below_drewN HBW.out nq, below_drewN (Below.refl _ _) nq, false, rfl, fun h => by simp at h, fun _ => .inl rfl⟩
          · obtain ⟨j, hj⟩ : ∃ j, j = k - 1 := ⟨_, rfl⟩
            have hjn : j < on := by omega
            have x1 : wx.cell? ⟨g, j * 2, none⟩ = some (.int .i64 ((Z.getD j default).x.w : Int)) := (HZ.out.1.below HBR.out).cellAt j 0 (Z.getD j default) (by rw [List.getD, List.getElem?_eq_getElem (by rw [HZL.out]; exact hjn)]; rfl) (by omega)
            have HAA := Lib.hid (show ∀ bb, (bb = true → p.x.w < (Z.getD j default).x.w) → (bb = false → (Z.getD j default).x.w ≤ p.x.w) → AskP p Z k bb from fun bb h1 h2 => by
              unfold AskP; rw [← hj]; exact ⟨fun h => ⟨by omega, h1 h⟩, fun h => .inr (h2 h)⟩)
            generalize (Z.getD j default).x.w = zw at *
            generalize p.x.w = pw at *
            have hki : (0 : Int) < (k : Int) := by omega
            have hkn0 : 0 < k := by omega
            have hkd : decide (0 < k) = true := decide_eq_true hkn0
            have e2 : IntKind.i64.wrap ((k : Int) - 1) = (j : Int) := by rw [IntWalk.i64_in _ (by omega)]; omega
            have hjni : (j : Int) < on := by omega
            have hj0 : (0 : Int) ≤ (j : Int) := by omega
            clear hj
            by_cases hlt2 : pw < zw
            · have hli : (pw : Int) < zw := by omega
              have HK9 := Lib.hid (HAA.out true (fun _ => hlt2) (fun h => by simp at h))
              clear HAA hlt2
              go_wp2
              go_quiet (fail)
              clear e2
              go_wp2
              go_meet
              exact ⟨below_drewN HBW.out nq, below_drewN (Below.refl _ _) nq, true, rfl, HK9.out⟩
            · have hli : ¬ (pw : Int) < zw := by omega
              have HK9 := Lib.hid (HAA.out false (fun h => by simp at h) (fun _ => by omega))
              have hld : decide (pw < zw) = false := decide_eq_false hlt2
              clear HAA hlt2
              go_wp2
              go_quiet (fail)
              clear e2
              go_wp2
              go_meet
              exact ⟨below_drewN HBW.out nq, below_drewN (Below.refl _ _) nq, false, rfl, HK9.out⟩
        case rest =>
        obtain ⟨hwy, hwxy, bb, rfl, hask⟩ := hcut
        rename World => wy
        have HWY := Lib.hid hwy
        clear hwy hwxy HBW HBR HPROW p0 p1
        cases bb with
        | true =>
          obtain ⟨hk0, hpw⟩ := hask.1 rfl
          obtain ⟨k', rfl⟩ : ∃ k', k = k' + 1 := ⟨k - 1, by omega⟩
          rw [Nat.add_sub_cancel] at hpw
          have HPW := Lib.hid hpw
          clear hask hpw hk0
          go_wp2
          go_roundw
          case rel => exact ⟨k', by omega, by go_num, fun j h1 h2 => by
            rcases Nat.lt_or_ge k' j with h | h
            · exact HAB.out j (by omega) h2
            · rw [show j = k' by omega]; exact HPW.out, HWY.out⟩
          case measure => simp [intOf]
        | false =>
          have HASK := Lib.hid (hask.2 rfl)
          clear hask
          have HBY := Lib.hid (HBX.out.trans (HWY.out.mono HBX.out.size))
          have HBW0 := Lib.hid (HB0.out.trans (HBY.out.mono HB0.out.size))
          have HOW := Lib.hid (CameAt.below (HZ.out.came fun _ => rfl) (by omega) HBY.out)
          have HHD := Lib.hid (CameAt.headOf HOW.out k hk)
          have HPA3 := Lib.hid (HPA.out.below HWY.out)
          have HPY := Lib.hid (((HWY.out).block pg HPLT.out).trans HROW.out)
          have HPY2 := Lib.hid (show pg < wy.heap.size by have := HWY.out.size; have := HPLT.out; omega)
          have HINS := Lib.hid (show (Z.take k ++ [p] ++ Z.drop k).map (·.x) = mergedTo XC XL (q + 1) by
            rw [HSU.out, ← HX.out, ← HPX.out, ins_at (Z.map (·.x)) HXX.out p.x k (by rw [List.length_map, HZL.out]; exact hk)]
            · simp
            · rcases HASK.out with h | h
              · exact .inl h
              · rcases Nat.eq_zero_or_pos k with h0 | h0
                · exact .inl h0
                · exact .inr ⟨_, map_getD Z _ rfl (k - 1) (by rw [HZL.out]; omega), h⟩
            · intro i x hi hx
              have hil : i < on := by have := (List.getElem?_eq_some_iff.1 hx).1; rw [List.length_map, HZL.out] at this; exact this
              have := map_getD Z _ rfl i (by rw [HZL.out]; exact hil)
              rw [hx] at this
              injection this with this
              rw [this]; exact HAB.out i hi hil)
          obtain ⟨tq, htr, htl⟩ := packs_tail N g on oc k hk HOW.out.2.1
          have HTL := Lib.hid htl
          have HTK := Lib.hid (show (Z.take k).length = k by rw [List.length_take, HZL.out]; omega)
          have HTD := Lib.hid (show (Z.drop k).length = on - k by rw [List.length_drop, HZL.out])
          have hocap : k ≤ oc := by have := HOW.out.2.1; omega
          have HTR := Lib.hid htr
          clear htl htr HASK HAB HSU HXX HROW HPLT HWY HBX HX
          go_upto_region 11 with (at_builtin; refine wpList_append_recs (f := packC N) rfl _ _ 44 rfl 47 i0 _ 2 32 Try.underlying44 hi0 hz0 hz1 hz2 rfl (by omega) _ [] rfl (Recs.nil _ _ _ _) ⟨g, 0, none⟩ k oc (Z.take k) rfl HTK.out (fun _ _ => rfl) (fun y _ => packC_one N y) (CameAt.read HHD.out (by omega)) (by unfold maxLen; simp; omega) (by simp; omega) ?_; intro v' wa hr hg hbk; obtain ⟨a1, c1, hv, hI1⟩ := OwnI.more0 (OwnI.nil wy) hr hg hbk; rw [HTK.out, Nat.zero_add] at hv hI1; subst hv; have HI1 := Lib.hid hI1; clear hr hg hbk hI1)
          have hpa : wa.heap[pg]? = some (.cells #[.int .i64 (p.x.w : Int), .slice p.a N p.cap] 47 (0, 0)) := ((HI1.out.2.2.2).block pg HPY2.out).trans HPY.out
          have HPA2 := Lib.hid hpa
          have HONE := Lib.hid (one_rec (f := packC N) (x := p) (w := wa.alloc (.cells #[.int .i64 (p.x.w : Int), .slice p.a N p.cap] 47)) (B := wa.heap.size) (t := 47) (fr := (0, 0)) (heap_alloc_new wa _))
          have HRA := Lib.hid (HI1.out.1.below ((Below.refl wa.heap.size wa).alloc (Nat.le_refl _) (.cells #[.int .i64 (p.x.w : Int), .slice p.a N p.cap] 47)))
          clear hpa
          go_upto_region 12 with (first
            | (refine wpList_load_row rfl 47 _ rfl pg rfl 47 #[.int .i64 (p.x.w : Int), .slice p.a N p.cap] (0, 0) _ HPA2.out Try.underlying47 rfl sizePack ?_)
            | (at_builtin; refine wpList_append_recs (f := packC N) rfl _ _ 44 rfl 47 i0 _ 2 32 Try.underlying44 hi0 hz0 hz1 hz2 rfl (by omega) _ ([] ++ Z.take k) rfl HRA.out ⟨wa.heap.size, 0, none⟩ 1 1 [p] rfl rfl (fun _ _ => rfl) (fun y _ => packC_one N y) HONE.out (by have := HTK.out; unfold maxLen; simp; omega) (by have := HTK.out; simp; omega) ?_; intro v' wb hr hg hbk; obtain ⟨a2, c2, hv, hI2⟩ := OwnI.more HI1.out hr hg hbk; rw [show ([p] : List PK).length = 1 from rfl] at hv hI2; subst hv; have HI2 := Lib.hid hI2; clear hr hg hbk hI2))
          have HTB := Lib.hid (HTL.out wb Z (CameAt.below HOW.out (by omega) HI2.out.2.2.2))
          have htr := HTR.out
          clear HRA HONE HPA2 HTL HTR
          go_wp2_with (at_builtin; refine wpList_append_recs (f := packC N) rfl _ _ 44 rfl 47 i0 _ 2 32 Try.underlying44 hi0 hz0 hz1 hz2 rfl (by omega) _ ([] ++ Z.take k ++ [p]) rfl HI2.out.1 tq (on - k) (oc - k) (Z.drop k) rfl HTD.out (fun _ _ => rfl) (fun y _ => packC_one N y) (CameAt.read HTB.out (by omega)) (by have := HTK.out; unfold maxLen; simp; omega) (by have := HTK.out; simp; omega) ?_; intro v' wd hr hg hbk; obtain ⟨a3, c3, hv, hI3⟩ := OwnI.more0 HI2.out hr hg hbk; rw [HTD.out, show k + 1 + (on - k) = on + 1 by omega] at hv hI3; subst hv; have HI3 := Lib.hid hI3; clear hr hg hbk hI3)
          go_roundw
          case rel => exact ⟨q + 1, K + 2, a3, on + 1, c3, by have := HK.out; omega, by have := HK1.out; omega, by have := HON.out; omega, by go_num, rfl, ⟨[] ++ Z.take k ++ [p] ++ Z.drop k, HI3.out.since HBW0.out, fun y hy => by
            have hbd := HI3.out.2.2.2
            rw [List.nil_append] at hy
            rcases List.mem_append.1 hy with hy | hy
            · rcases List.mem_append.1 hy with hy | hy
              · exact ((HG.out y (List.mem_of_mem_take hy)).below HBY.out).below hbd
              · have : y = p := by simpa using hy
                rw [this]
                exact HPA3.out.below hbd
            · exact ((HG.out y (List.mem_of_mem_drop hy)).below HBY.out).below hbd, by rw [List.nil_append]; exact HINS.out, fun y hy => by
            rw [List.nil_append] at hy
            rcases List.mem_append.1 hy with hy | hy
            · rcases List.mem_append.1 hy with hy | hy
              · exact HOR.out y (List.mem_of_mem_take hy)
              · have : y = p := by simpa using hy
                rw [this]; exact .inr HPQ.out
            · exact HOR.out y (List.mem_of_mem_drop hy)⟩⟩
          case measure => simp [intOf]; omega
    · have hKi : ¬ (K : Int) + 1 < ln := by omega
      have HF := Lib.hid (show mergedTo XC XL q = mergedI XC XL from HMA.out q (by rw [HXL.out]; omega))
      clear hK hon
      go_wp2
      go_ret
      rw [← HF.out]
      exact ⟨_, _, _, rfl, HM.out⟩
end Go.Proofs.Ytklfoafbgniogaa
