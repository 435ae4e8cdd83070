/-
  Package match: Find.
-/
import Derived.Test.YtonfppbijofapaaMkI
namespace Go.Proofs.Ytonfppbijofapaa
open Go.RowKit
set_option linter.unusedVariables false
set_option linter.unusedSimpArgs false
set_option maxRecDepth 100000

/-- how many octets the token at a place stands for -/
def nextE (b : List UInt8) (p : Nat) : Nat := if (bestM b p).1 = 0 then 1 else (bestM b p).1
theorem nextE_in (b : List UInt8) (p : Nat) (hp : p < b.length) : 1 ≤ nextE b p ∧ nextE b p ≤ 258 ∧ p + nextE b p ≤ b.length ∧ octT (tokE b p) = (nextE b p : Nat) := by
  unfold nextE octT tokE
  rcases bestM_spec b p hp with ⟨h, _⟩ | ⟨h1, h2, h3, _⟩
  · rw [h]
    exact ⟨Nat.le_refl _, by simp, by simp; omega, by simp⟩
  · generalize bestM b p = r at *
    have h0 : ¬ r.1 = 0 := by omega
    rw [if_neg h0, if_neg h0]
    refine ⟨by omega, h2, h3, ?_⟩
    rw [if_neg (by simp; omega)]
theorem findMF_step (b : List UInt8) (f p : Nat) (hp : p < b.length) : findMF b (f + 1) p = tokE b p :: findMF b f (p + nextE b p) := by
  rw [findMF, if_neg (by omega)]
  unfold tokE nextE
  by_cases h : (bestM b p).1 = 0
  · simp only [h, if_true]
  · simp only [h, if_false]
theorem OwnI.keepF {w wr w' : World} {a : Option Addr} {n cap : Nat} {L : List Tok} (h : TokI w wr a n cap L) (hb : Below w.heap.size wr w') (hk : KeepF wr w') : TokI w w' a n cap L :=
  ⟨h.1.keep fun k hkk => by
    obtain ⟨cur, hc⟩ := h.1.blk k hkk
    exact (hk k cur _ hc (by decide)).trans hc.symm, h.2.1, h.2.2.1, h.2.2.2.trans hb⟩
theorem TabS.grown {n0 M : Nat} {w w' : World} {E : Key3 → List Nat} {row : Option Nat} (h : TabS n0 w M E) (hg : w.grownBy w' row) (hr : ∀ k, row = some k → ∃ c, w.heap[k]? = some (.cells c 51 (0, 0))) : TabS n0 w' M E := by
  obtain ⟨L, h1, h2⟩ := h.tab
  have hM : w'.heap[M]? = w.heap[M]? := hg.block M h1.lt (fun e => by
    obtain ⟨es, c, hm⟩ := h1.isMap
    obtain ⟨cur, hc⟩ := hr M e.symm
    rw [hm] at hc; cases hc)
  refine ⟨⟨L, h1.keep hM, ⟨fun k => (h2.recs k).keep fun q hq => hg.block q ((h2.recs k).lt q hq) (fun e => ?_), h2.since, h2.apart⟩⟩, h.le⟩
  obtain ⟨cur, hc⟩ := hr q e.symm
  obtain ⟨cur2, hc2⟩ := (h2.recs k).blk q hq
  rw [hc] at hc2
  cases hc2

set_option maxHeartbeats 8000000 in
theorem matFind_any (a : Option Addr) (n cap : Nat) (b : List UInt8) (w : World) (h : BytesAt w a n cap b) :
    Calls Try.prog 12 #[.slice a n cap] w (FindTo b w) := by
  have hcapn := h.2.1
  have hmax := h.2.2.1
  unfold maxLen at hmax
  by_cases h1 : 65536 < n
  · have h1i : (65536 : Int) < n := by omega
    have HE := Lib.hid (show findE b = 5 by unfold findE; rw [h.1, if_pos h1])
    have HT := Lib.hid (show findT b = [] by unfold findT; rw [h.1, if_pos h1])
    clear h
    go_enter Try.func12, Try.ntmps12
    go_wp2
    go_ret2
    exact ⟨none, 0, 0, by rw [HE.out]; rfl, by rw [HT.out]; exact CameAt.nil _ _ _, Below.refl _ _⟩
  have h1i : ¬ (65536 : Int) < n := by omega
  obtain ⟨i0, hi0, hz0, hz1, hz2⟩ := info_parts infoTok
  have HE := Lib.hid (show findE b = 0 by unfold findE; rw [h.1, if_neg h1])
  have HFT := Lib.hid (show findT b = findM b by unfold findT; rw [h.1, if_neg h1])
  have HN := Lib.hid h.1
  have HFM := Lib.hid (show findM b = [] ++ findMF b n 0 by unfold findM; rw [h.1]; rfl)
  have HEND := Lib.hid (fun f p (hp : n ≤ p) => findMF_end b f p (by rw [h.1]; exact hp))
  have HSTEP := Lib.hid (fun f p (hp : p < n) => findMF_step b f p (by rw [h.1]; exact hp))
  have HNX := Lib.hid (fun p (hp : p < n) => nextE_in b p (by rw [h.1]; exact hp))
  have CN := Lib.hid (mkNew_any a n cap w)
  have CT := Lib.hid (fun M p (hp : p < n) u (hu : Below w.heap.size w u) (hT : TabS w.heap.size u M (fun k => offsM b k 0 p)) => mkToken_any w.heap.size a n cap b M 0 p p u (h.below hu) (by omega) hp hT (by omega) (by omega))
  have CA := Lib.hid (fun M p p2 u (hp : p ≤ p2) (hp2 : p2 ≤ n) (hu : Below w.heap.size w u) (hT : TabS w.heap.size u M (fun k => offsM b k 0 p)) => mkAdd_any w.heap.size a n cap b M 0 p p2 p p2 u h.1 (fun v hv => h.below (hu.trans hv)) (by omega) hT (by omega) (by omega) hp hp2)
  have CO := Lib.hid (fun t u => mkOctets_any t u)
  clear h
  unfold finC at *
  go_enter Try.func12, Try.ntmps12
  go_wp2_with fail
  refine CN.out.mono ?_
  rintro e w1 ⟨M, rfl, hT, hb1⟩
  have hs1 := hb1.size
  obtain ⟨w2, hw2⟩ : ∃ u, u = w1.alloc (.cells #[.slice a n cap, .map (some M)] 46) := ⟨_, rfl⟩
  have HB2 := Lib.hid (show Below w.heap.size w w2 by rw [hw2]; exact hb1.alloc hs1 _)
  have HT2 := Lib.hid (show TabS w.heap.size w2 M (fun k => offsM b k 0 0) by rw [hw2]; exact hT.below ((Below.refl _ _).alloc (Nat.le_refl _) _))
  have hrow : w2.heap[w1.heap.size]? = some (.cells #[.slice a n cap, .map (some M)] 46 (0, 0)) := by rw [hw2]; exact heap_alloc_new w1 _
  have HROW := Lib.hid hrow
  obtain ⟨q, hq⟩ : ∃ q, q = w1.heap.size := ⟨_, rfl⟩
  clear hT hb1 hs1
  rw [← hq] at HROW
  go_upto_region 4 with (fail)
  rw [← hw2, ← hq]
  clear hw2 hrow hq
  go_wp2
  go_loopw [5, 6, 7, 8] (fun sl sa sb sc wr => ∃ (p f k : Nat) (la : Option Addr) (lc : Nat) (D : List Tok), p ≤ n ∧ n ≤ p + f ∧ k ≤ p ∧ sa = .int .i64 (p : Int) ∧ sl = .slice la k lc ∧ TokI w wr la k lc D ∧ findM b = D ++ findMF b f p ∧ TabS w.heap.size wr M (fun k => offsM b k 0 p) ∧ wr.heap[q]? = some (.cells #[.slice a n cap, .map (some M)] 46 (0, 0))) (fun _ sa _ _ _ => n - (intOf sa).toNat)
  case atStart => exact ⟨0, n, 0, none, 0, [], by omega, by omega, Nat.zero_le _, rfl, rfl, ⟨Recs.nil _ _ _ _, rfl, fun k hk => by simp [Value.ownBlock] at hk, HB2.out⟩, HFM.out, HT2.out, HROW.out⟩
  case round =>
    obtain ⟨p, f, k, la, lc, D, hp, hf, hkp, rfl, rfl, hI, hfind, hT, hrow⟩ := hrel
    have HI := Lib.hid hI
    have HB := Lib.hid hI.2.2.2
    have HD := Lib.hid hI.2.1
    have HFD := Lib.hid hfind
    have HT := Lib.hid hT
    have HR := Lib.hid hrow
    have y0 := cell_of_row _ q 0 _ _ _ hrow
    have y1 := cell_of_row _ q 1 _ _ _ hrow
    change World.cell? _ ⟨q, 0, none⟩ = some (.slice a n cap) at y0
    change World.cell? _ ⟨q, 1, none⟩ = some (.map (some M)) at y1
    clear hI hfind hT hrow
    by_cases hlt : p < n
    · have hpi : (p : Int) < n := by omega
      obtain ⟨f, rfl⟩ : ∃ f', f = f' + 1 := ⟨f - 1, by omega⟩
      have hst := HSTEP.out f p hlt
      obtain ⟨nx1, nx2, nx3, nx4⟩ := HNX.out p hlt
      rw [HN.out] at nx3
      have CTT := Lib.hid (CT.out M p hlt wr HB.out HT.out)
      generalize nextE b p = N at *
      generalize tokE b p = T at *
      have HST := Lib.hid hst
      have HNO := Lib.hid nx4
      clear hst nx4
      go_wp2_with fail
      refine CTT.out.mono ?_
      rintro e w3 ⟨rfl, hb3⟩
      have COO := Lib.hid (fun u => CO.out T u)
      obtain ⟨lit, len, dist⟩ := T
      unfold tokC at *
      dsimp only at *
      generalize octT ⟨lit, len, dist⟩ = O at *
      obtain ⟨w4, hw4⟩ : ∃ u, u = w3.alloc (.cells #[.int .u8 (lit.toNat : Int), .int .i64 len, .int .i64 dist] 51) := ⟨_, rfl⟩
      have hb4 : Below wr.heap.size wr w4 := by rw [hw4]; exact hb3.alloc hb3.size _
      have hrowt : w4.heap[w3.heap.size]? = some (.cells #[.int .u8 (lit.toNat : Int), .int .i64 len, .int .i64 dist] 51 (0, 0)) := by rw [hw4]; exact heap_alloc_new w3 _
      have HROWT := Lib.hid hrowt
      have HI4 := Lib.hid (HI.out.below hb4)
      have HT4 := Lib.hid (HT.out.below hb4)
      have HR4 := Lib.hid ((hb4.block q (Array.getElem?_eq_some_iff.1 HR.out).1).trans HR.out)
      have HSZ := Lib.hid hb3.size
      clear hb3 hb4 CTT y0 y1
      go_upto_region 8 with (fail)
      rw [← hw4]
      clear hw4
      have t0 := cell_of_row _ w3.heap.size 0 _ _ _ hrowt
      have t1 := cell_of_row _ w3.heap.size 1 _ _ _ hrowt
      have t2 := cell_of_row _ w3.heap.size 2 _ _ _ hrowt
      change World.cell? _ ⟨w3.heap.size, 0, none⟩ = some (.int .u8 (lit.toNat : Int)) at t0
      change World.cell? _ ⟨w3.heap.size, 1, none⟩ = some (.int .i64 len) at t1
      change World.cell? _ ⟨w3.heap.size, 2, none⟩ = some (.int .i64 dist) at t2
      have HX := Lib.hid (one_rec (f := tokC) (x := (⟨lit, len, dist⟩ : Tok)) (w := w4.alloc (.cells (tokC ⟨lit, len, dist⟩).toArray 51)) (B := w4.heap.size) (t := 51) (fr := (0, 0)) (heap_alloc_new w4 _))
      have HAPP := Lib.hid (fun (w' : World) (hg : (w4.alloc (.cells #[.int .u8 (lit.toNat : Int), .int .i64 len, .int .i64 dist] 51)).grownBy w' (Value.slice la k lc).ownBlock) =>
        (⟨((HT4.out.below ((Below.refl _ _).alloc (Nat.le_refl _) _)).grown hg (fun j hj => (HI4.out.1.below ((Below.refl _ _).alloc (Nat.le_refl _) _)).blk j hj)),
          (hg.block q (by have := (Array.getElem?_eq_some_iff.1 HR4.out).1; simp; omega) (fun e => HI4.out.1.ne_of HR4.out (by decide) q e.symm rfl)).trans (((Below.refl w4.heap.size w4).alloc (Nat.le_refl _) _).block q (Array.getElem?_eq_some_iff.1 HR4.out).1 |>.trans HR4.out),
          (hg.block w3.heap.size (by have := (Array.getElem?_eq_some_iff.1 HROWT.out).1; simp; omega) (fun e => by have := HI.out.1.lt _ e.symm; have := HSZ.out; omega)).trans (((Below.refl w4.heap.size w4).alloc (Nat.le_refl _) _).block w3.heap.size (Array.getElem?_eq_some_iff.1 HROWT.out).1 |>.trans HROWT.out)⟩ :
          TabS w.heap.size w' M (fun k => offsM b k 0 p) ∧ w'.heap[q]? = some (.cells #[.slice a n cap, .map (some M)] 46 (0, 0)) ∧ w'.heap[w3.heap.size]? = some (.cells #[.int .u8 (lit.toNat : Int), .int .i64 len, .int .i64 dist] 51 (0, 0))))
      clear hrowt
      go_upto_region 9 with (at_builtin; refine wpList_append_recs (f := tokC) rfl _ _ 31 rfl 51 i0 (.agg #[.int .u8 0, .int .i64 0, .int .i64 0]) 3 24 Try.underlying31 hi0 hz0 hz1 hz2 rfl (by omega) _ D rfl (HI4.out.1.below ((Below.refl _ _).alloc (Nat.le_refl _) _)) ⟨w4.heap.size, 0, none⟩ 1 1 [⟨lit, len, dist⟩] rfl rfl (fun _ _ => rfl) (fun y _ => tokC_one y) HX.out (by rw [HD.out]; unfold maxLen; omega) (by rw [HD.out]; omega) ?_; intro v' w5 hr hg hbk; have hap := HAPP.out w5 hg; have HT5 := Lib.hid hap.1; have HR5 := Lib.hid hap.2.1; have HROWT5 := Lib.hid hap.2.2; obtain ⟨a', cap', rfl, hI5⟩ := OwnI.more HI4.out hr hg hbk; have HI5 := Lib.hid hI5; clear hr hg hbk hI5 hap)
      have s0 := cell_of_row _ w3.heap.size 0 _ _ _ HROWT5.out
      have s1 := cell_of_row _ w3.heap.size 1 _ _ _ HROWT5.out
      have s2 := cell_of_row _ w3.heap.size 2 _ _ _ HROWT5.out
      change World.cell? _ ⟨w3.heap.size, 0, none⟩ = some (.int .u8 (lit.toNat : Int)) at s0
      change World.cell? _ ⟨w3.heap.size, 1, none⟩ = some (.int .i64 len) at s1
      change World.cell? _ ⟨w3.heap.size, 2, none⟩ = some (.int .i64 dist) at s2
      clear t0 t1 t2 HAPP
      go_wp2_with fail
      refine (COO.out w5).mono ?_
      rintro e w6 ⟨rfl, hb6⟩
      rw [HNO.out]
      obtain ⟨p2, hp2⟩ : ∃ p2, p2 = p + N := ⟨_, rfl⟩
      have hpp : (p : Int) + (N : Int) = (p2 : Int) := by omega
      have HP2 := Lib.hid hp2
      have hp2n : p2 ≤ n := by omega
      have hpp2 : p < p2 := by omega
      have HI6 := Lib.hid (HI5.out.below hb6)
      have HT6 := Lib.hid (HT5.out.below hb6)
      have hrow6 := (hb6.block q (Array.getElem?_eq_some_iff.1 HR5.out).1).trans HR5.out
      have HR6 := Lib.hid hrow6
      have z0 := cell_of_row _ q 0 _ _ _ hrow6
      have z1 := cell_of_row _ q 1 _ _ _ hrow6
      change World.cell? _ ⟨q, 0, none⟩ = some (.slice a n cap) at z0
      change World.cell? _ ⟨q, 1, none⟩ = some (.map (some M)) at z1
      clear hp2 hb6 hrow6 s0 s1 s2
      go_wp2_with fail
      refine (CA.out M p p2 w6 (Nat.le_of_lt hpp2) hp2n HI6.out.2.2.2 HT6.out).mono ?_
      rintro e w7 ⟨rfl, hT7, hb7, hk7⟩
      have HT7 := Lib.hid hT7
      have HI7 := Lib.hid (HI6.out.keepF hb7 hk7)
      have HR7 := Lib.hid (hk7 _ _ _ HR6.out (by decide))
      have HF7 := Lib.hid (show findM b = (D ++ [⟨lit, len, dist⟩]) ++ findMF b f p2 by rw [HFD.out, HST.out, HP2.out, List.append_assoc]; rfl)
      clear hT7 hb7 hk7 z0 z1
      go_wp2
      go_roundw
      case rel => exact ⟨p2, f, k + 1, _, _, D ++ [⟨lit, len, dist⟩], hp2n, by omega, by omega, rfl, rfl, HI7.out, HF7.out, HT7.out, HR7.out⟩
      case measure => simp [intOf]; omega
    · have hpi : ¬ (p : Int) < n := by omega
      have HFF := Lib.hid (show findT b = D by rw [HFT.out, HFD.out, HEND.out f p (by omega), List.append_nil])
      go_wp2
      go_ret2
      exact ⟨_, _, _, by rw [HE.out]; rfl, by rw [HFF.out]; exact HI.out.came fun _ => rfl, HB.out⟩
end Go.Proofs.Ytonfppbijofapaa
