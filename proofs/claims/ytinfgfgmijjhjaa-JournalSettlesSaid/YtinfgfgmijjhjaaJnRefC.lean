/-
  The document's answer for layer 4: Format, home, Commit.
-/
import Derived.Test.YtinfgfgmijjhjaaJnRefB
namespace Go.Proofs.Ytinfgfgmijjhjaa
open Go.RowKit
set_option linter.unusedVariables false
set_option linter.unusedSimpArgs false

theorem pair_zero (r : Int × Dk) (h : r.1 = 0) : ((0 : Int), r.2) = r := by rw [← h]
theorem plays_one (s : Stp) (D : Dk) : plays [s] D = s.play D := by
  by_cases h : (s.play D).1 = 0
  · rw [plays_yes _ h]; exact pair_zero _ h
  · rw [plays_no _ h]
theorem wrsOf_one (p : Pt) (D : Dk) : wrsOf D [p] = wrOf D p.1 p.2.length p.2 := by
  by_cases h : (wrOf D p.1 p.2.length p.2).1 = 0
  · simp only [wrsOf]; rw [if_pos h]; exact pair_zero _ h
  · simp only [wrsOf]; rw [if_neg h]

def nextR (r : Int × Dk) (F : Dk → Int × Dk) : Int × Dk := if r.1 = 0 then F r.2 else r
theorem nextR_yes {r : Int × Dk} (F : Dk → Int × Dk) (h : r.1 = 0) : nextR r F = F r.2 := by unfold nextR; rw [if_pos h]
theorem nextR_no {r : Int × Dk} (F : Dk → Int × Dk) (h : r.1 ≠ 0) : nextR r F = r := by unfold nextR; rw [if_neg h]
theorem plays_next (s : Stp) (ts : List Stp) (D : Dk) : plays (s :: ts) D = nextR (s.play D) (plays ts) := rfl

def fmtOf (D : Dk) : Int × Dk := nextR (wrOf D 0 128 (sec 0)) flOf
theorem fmtOf_plays (D : Dk) : plays formatR D = fmtOf D := by
  unfold formatR fmtOf
  rw [plays_next, show (plays [Stp.flush]) = flOf from funext fun D => plays_one _ _]
  rw [show (Stp.write [((0 : Int), sec 0)]).play D = wrOf D 0 128 (sec 0) from by
    show wrsOf D [((0 : Int), sec 0)] = _
    rw [wrsOf_one]; dsimp only; rw [sec_length]]
def homeOf (L : List Pt) (D : Dk) : Int × Dk := nextR (wrsOf D L) fun D1 => nextR (flOf D1) fmtOf
theorem homeOf_plays (L : List Pt) (D : Dk) : plays (homeR L) D = homeOf L D := by
  unfold homeR homeOf
  rw [plays_next, show (Stp.write L).play D = wrsOf D L from rfl]
  congr 1
  funext D1
  rw [plays_next, show (Stp.flush).play D1 = flOf D1 from rfl]
  congr 1
  funext D2
  exact fmtOf_plays D2
def cmtOf (L : List Pt) (D : Dk) : Int × Dk := nextR (wrsOf D (copiesL L)) fun D1 => nextR (flOf D1) fun D2 => nextR (wrOf D2 0 (hdL L).length (hdL L)) fun D3 => nextR (flOf D3) (homeOf L)
theorem cmtOf_plays (L : List Pt) (D : Dk) : plays (commitR L) D = cmtOf L D := by
  unfold commitR cmtOf
  rw [plays_next, show (Stp.write (copiesL L)).play D = wrsOf D (copiesL L) from rfl]
  congr 1
  funext D1
  rw [plays_next, show (Stp.flush).play D1 = flOf D1 from rfl]
  congr 1
  funext D2
  rw [plays_next, show (Stp.write [((0 : Int), hdL L)]).play D2 = wrOf D2 0 (hdL L).length (hdL L) from wrsOf_one _ _]
  congr 1
  funext D3
  rw [plays_next, show (Stp.flush).play D3 = flOf D3 from rfl]
  congr 1
  funext D4
  exact homeOf_plays L D4

set_option maxHeartbeats 1000000 in
theorem rformat_any (g : Nat) (D : Dk) (S : Nat → Prop) (w : World) (h : RefAt w S g D) (hf : D.waits.length < 1073741824) :
    Calls Try.prog 23 #[.pointer (some ⟨g, 0, none⟩)] w (RefTo (.int .i64 (fmtOf D).1) S g (fmtOf D).2 w) := by
  have CW := Lib.hid (fun u (hb : Below w.heap.size w u) => rwrite_all g 0 D S 128 (sec 0) u (h.below hb) (sec_length 0) (by omega) hf)
  unfold fmtOf
  have hno := fun hz : (wrOf D 0 128 (sec 0)).1 ≠ 0 => nextR_no flOf hz
  have hye := fun hz : (wrOf D 0 128 (sec 0)).1 = 0 => nextR_yes flOf hz
  clear h hf
  generalize wrOf D 0 128 (sec 0) = r at *
  obtain ⟨r1, r2⟩ := r
  dsimp only at hno hye CW
  by_cases h0 : r1 = 0
  · subst h0
    rw [hye rfl]
    clear hno hye
    go_enter Try.func23, Try.ntmps23
    go_wp2_with fail
    refine (noughts_any w).mono ?_
    rintro e w1 ⟨rfl, hb1⟩
    have HB1 := Lib.hid hb1
    go_wp2_with fail
    refine (CW.out _ hb1).mono ?_
    rintro e w2 ⟨rfl, S2, hd2, ho2, hs2⟩
    have HO2 := Lib.hid ho2
    have HS2 := Lib.hid hs2
    have CF := Lib.hid (rflush_all g r2 S2 w2 hd2)
    clear hb1 hd2 ho2 hs2 CW
    go_wp2_with fail
    refine (CF.out).mono ?_
    rintro e w3 ⟨rfl, S3, hd3, ho3, hs3⟩
    go_wp2
    go_ret
    have hz := HO2.out.size
    have hz1 := HB1.out.size
    refine ⟨rfl, S3, hd3, (Only.of_below HB1.out).trans (HO2.out.trans ho3 (fun i hi h => (HS2.out i h).resolve_right (by omega))) (fun _ _ h => h), fun k hk => (hs3 k hk).elim (fun h => (HS2.out k h).imp_right fun h => by omega) (fun h => .inr (by omega))⟩
  · rw [hno h0]
    have hb0 : (r1 == 0) = false := by simpa using h0
    have hb1 : (r1 != 0) = true := by simpa using h0
    clear hno hye h0
    go_enter Try.func23, Try.ntmps23
    go_wp2_with fail
    refine (noughts_any w).mono ?_
    rintro e w1 ⟨rfl, hb1⟩
    have HB1 := Lib.hid hb1
    go_wp2_with fail
    refine (CW.out _ hb1).mono ?_
    rintro e w2 ⟨rfl, S2, hd2, ho2, hs2⟩
    clear CW
    go_wp2
    go_ret
    exact ⟨rfl, S2, hd2, (Only.of_below HB1.out).trans ho2 (fun _ _ h => h), fun k hk => (hs2 k hk).imp_right fun h => Nat.le_trans HB1.out.size h⟩

/-- the document's disk, since the world w -/
structure RefSt (w : World) (S : Nat → Prop) (g : Nat) (wi : World) (Si : Nat → Prop) (D : Dk) : Prop where
  ref : RefAt wi Si g D
  only : Only S w wi
  new : ∀ k, Si k → S k ∨ w.heap.size ≤ k
section
variable {w wi wj : World} {S Si Sj U : Nat → Prop} {g : Nat} {D D' : Dk}
theorem RefSt.start (h : RefAt w S g D) : RefSt w S g w S D := ⟨h, Only.refl _ _, fun k hk => .inl hk⟩
theorem RefSt.next (h : RefSt w S g wi Si D) (hd : RefAt wj Sj g D') (ho : Only Si wi wj) (hs : ∀ k, Sj k → Si k ∨ wi.heap.size ≤ k) : RefSt w S g wj Sj D' :=
  ⟨hd, h.only.trans ho (fun i hi hk => (h.new i hk).resolve_right (by omega)), fun k hk => (hs k hk).elim (h.new k) (fun hk => .inr (Nat.le_trans h.only.size hk))⟩
theorem RefSt.quiet (h : RefSt w S g wi Si D) (hb : Below wi.heap.size wi wj) : RefSt w S g wj Si D := h.next (h.ref.below hb) (Only.of_below hb) (fun k hk => .inl hk)
theorem RefSt.done (h : RefSt w S g wi Si D) (v : Value) : RefTo v S g D w (.returned v) wi := ⟨rfl, Si, h.ref, h.only, h.new⟩
theorem RefSt.puts {a : Option Addr} {n cap : Nat} {M : List PutM} (h : RefSt w S g wi Si D) (hp : PutsIn w U a n cap M) (hU : ∀ k, U k → ¬ S k) : PutsIn wi U a n cap M := hp.only h.only hU
theorem RefSt.off {a : Option Addr} {n cap : Nat} {M : List PutM} (h : RefSt w S g wi Si D) (hp : PutsIn w U a n cap M) (hU : ∀ k, U k → ¬ S k) : ∀ k, U k → ¬ Si k := fun k hk hS => (h.new k hS).elim (hU k hk) (fun hk2 => by have := hp.lt k hk; omega)
end

theorem wrsOf_step (D : Dk) (M : List PutM) (k : Nat) (hk : k < M.length) :
    wrsOf D ((M.map PutM.pt).drop k) = nextR (wrOf D (M.getD k default).at_ (M.getD k default).b.length (M.getD k default).b) (fun D' => wrsOf D' ((M.map PutM.pt).drop (k + 1))) := by
  rw [pts_drop M k hk]; rfl

set_option maxHeartbeats 4000000 in
set_option maxRecDepth 100000 in
theorem rhome_any (g : Nat) (D : Dk) (S U : Nat → Prop) (a : Option Addr) (n cap : Nat) (M : List PutM) (w : World) (h : RefAt w S g D) (hU : ∀ k, U k → ¬ S k) (hp : PutsIn w U a n cap M) (h128 : ∀ x ∈ M, x.b.length = 128) (hf : D.waits.length + n ≤ 1073741000) :
    Calls Try.prog 42 #[.pointer (some ⟨g, 0, none⟩), .slice a n cap] w (RefTo (.int .i64 (homeOf (M.map PutM.pt) D).1) S g (homeOf (M.map PutM.pt) D).2 w) := by
  have hn := hp.len
  have HP := Lib.hid hp
  have HU := Lib.hid hU
  have HR := Lib.hid (RefSt.start h)
  have HML := Lib.hid hp.mlen
  have H128 := Lib.hid h128
  clear hp hU h h128
  have HOM : homeOf (M.map PutM.pt) D = nextR (wrsOf D (M.map PutM.pt)) fun D1 => nextR (flOf D1) fmtOf := rfl
  have HOME := Lib.hid HOM
  clear HOM
  generalize homeOf (M.map PutM.pt) D = res at *
  go_enter Try.func42, Try.ntmps42
  go_wp2
  go_loopw [5] (fun i wr => ∃ (k : Nat) (D' : Dk) (S' : Nat → Prop), k ≤ n ∧ i = .int .i64 k ∧ RefSt w S g wr S' D' ∧ wrsOf D (M.map PutM.pt) = wrsOf D' ((M.map PutM.pt).drop k) ∧ D'.waits.length ≤ D.waits.length + k) (fun i _ => n - (intOf i).toNat)
  case atStart => exact ⟨0, D, S, Nat.zero_le _, rfl, HR.out, rfl, Nat.le_refl _⟩
  case round =>
    obtain ⟨k, D', S', hk, rfl, hd', he, hw'⟩ := hrel
    have HD' := Lib.hid hd'
    by_cases hlt : k < n
    · have hpr := hd'.puts HP.out HU.out
      have hoff := hd'.off HP.out HU.out
      obtain ⟨b, off, rfl, hUb, hcell⟩ := hpr.at (by omega)
      obtain ⟨c0, c1, _⟩ := hcell k hlt
      have HPR := Lib.hid hpr
      have HOFF := Lib.hid hoff
      have hbb := hpr.bytes _ (hpr.mem k hlt)
      have hbU := hpr.inB _ (hpr.mem k hlt)
      have hx128 := H128.out _ (hpr.mem k hlt)
      have hki : (k : Int) < (n : Int) := by omega
      rw [wrsOf_step D' M k (by rw [HML.out]; exact hlt)] at he
      clear hcell hpr hoff hd'
      generalize M.getD k default = x at *
      obtain ⟨xi, xa, xn, xc, xb⟩ := x
      dsimp only at c0 c1 hbb hbU hx128 he
      obtain rfl : xn = 128 := by rw [← hbb.1]; exact hx128
      rw [hx128] at he
      have HBB := Lib.hid hbb
      have HBU := Lib.hid hbU
      have CW := Lib.hid (rwrite_all g xi D' S' 128 xb wr.drew (HD'.out.ref.below ((Below.refl _ _).drew)) hx128 (by omega) (by omega))
      have hwl := wrOf_waits D' xi 128 xb
      have hcv : ∀ u, BytesAt u xa 128 xc xb → (convert 24 9 (.slice xa 128 xc)).run Try.prog u = .ok (.string ⟨xb.toArray⟩) u := fun u hu => hu.conv
      generalize wrOf D' xi 128 xb = r at *
      obtain ⟨r1, r2⟩ := r
      have HE := Lib.hid he
      dsimp only at CW hwl
      clear hbb hbU hx128 he
      have hS0 : wr.drew.cell? ⟨b, off + k * 2, none⟩ = some (.int .i64 xi) ∧ wr.drew.cell? ⟨b, off + k * 2 + 1, none⟩ = some (.slice xa 128 xc) ∧ BytesAt wr.drew xa 128 xc xb := ⟨c0, c1, HBB.out.below ((Below.refl _ _).drew)⟩
      have HS0 := Lib.hid hS0
      clear c0 c1 hS0
      go_wp2_with fail
      refine region_head 13 [0, 1, 2, 3, 4, 5, 6, 7, 8, 9, 10, 11, 12] [12] (fun u => u.cell? ⟨b, off + k * 2, none⟩ = some (.int .i64 xi) ∧ u.cell? ⟨b, off + k * 2 + 1, none⟩ = some (.slice xa 128 xc) ∧ BytesAt u xa 128 xc xb) (by kernel_rfl) (by kernel_rfl) HS0.out ?_
      simp only [pickO, List.append_eq, List.cons_append, List.nil_append, List.filterMap_cons, List.filterMap_nil, List.getElem?_cons_zero, List.getElem?_cons_succ, Option.map_some, List.drop_succ_cons, List.drop_zero]
      iterate 11
        refine seqH_readG _ rfl (by rfl) (by rintro u ⟨hu1, hu2, hu3⟩; go_simp; with_reducible rfl) ?_
        try simp only [Act.put, List.setIfInBounds_toArray, List.set_cons_zero, List.set_cons_succ]
      refine seqH_readG _ rfl (by rfl) (by rintro u ⟨hu1, hu2, hu3⟩; have hc := hcv u hu3; go_simp; with_reducible rfl) ?_
      try simp only [Act.put, List.setIfInBounds_toArray, List.set_cons_zero, List.set_cons_succ]
      refine seqH_moveG rfl (by rfl) (fun K hK => ?_)
      go_simp
      refine (CW.out).mono ?_
      rintro e w2 ⟨rfl, S2, hd2, ho2, hs2⟩
      have hbS := HOFF.out b hUb
      have hblk := ho2.block b (by simpa using HPR.out.lt b hUb) hbS
      have N2 := Lib.hid ((HD'.out.quiet ((Below.refl _ _).drew)).next hd2 ho2 hs2)
      have hs2' : w2.cell? ⟨b, off + k * 2, none⟩ = some (.int .i64 xi) ∧ w2.cell? ⟨b, off + k * 2 + 1, none⟩ = some (.slice xa 128 xc) ∧ BytesAt w2 xa 128 xc xb :=
        ⟨(World.cell?_of_block (w := wr.drew) hblk).trans HS0.out.1, (World.cell?_of_block (w := wr.drew) hblk).trans HS0.out.2.1, HS0.out.2.2.only ho2 (fun p hp => HOFF.out _ (HBU.out p hp))⟩
      refine hK _ _ hs2' ?_
      clear hK K hd2 ho2 hs2 hs2' hblk CW HS0 HBB HBU HPR HOFF hcv
      try simp only [Act.put, List.setIfInBounds_toArray, List.set_cons_zero, List.set_cons_succ]
      refine seqH_nil ?_
      by_cases h0 : r1 = 0
      · subst h0
        have HE2 := Lib.hid (show wrsOf D (M.map PutM.pt) = wrsOf r2 ((M.map PutM.pt).drop (k + 1)) by rw [HE.out, nextR_yes _ rfl])
        clear HE
        go_wp2
        go_roundw
        case rel => exact ⟨k + 1, r2, S2, by omega, by go_num, N2.out, HE2.out, by omega⟩
        case measure => simp [intOf]; omega
      · have HE2 := Lib.hid (show res = (r1, r2) by
          have e1 : wrsOf D (M.map PutM.pt) = (r1, r2) := HE.out.trans (nextR_no (r := (r1, r2)) _ h0)
          rw [HOME.out, e1]
          exact nextR_no (r := (r1, r2)) _ h0)
        have hb0 : (r1 == 0) = false := by simpa using h0
        have hb1 : (r1 != 0) = true := by simpa using h0
        clear h0 HE
        go_wp2
        go_ret
        rw [HE2.out]
        exact N2.out.done _
    · obtain rfl : k = n := by omega
      rw [List.drop_of_length_le (by rw [List.length_map, HML.out]; omega)] at he
      have he2 : wrsOf D (M.map PutM.pt) = (0, D') := he
      have HE := Lib.hid (show res = nextR (flOf D') fmtOf by rw [HOME.out, he2, nextR_yes _ rfl])
      have CF := Lib.hid (rflush_all g D' S' wr hd'.ref)
      have hfl := flOf_waits D'
      clear he he2 hd' HOME
      generalize flOf D' = r at *
      obtain ⟨r1, r2⟩ := r
      dsimp only at CF hfl
      by_cases h0 : r1 = 0
      · subst h0
        have HE2 := Lib.hid (show res = fmtOf r2 by rw [HE.out, nextR_yes _ rfl])
        clear HE
        go_wp2_with fail
        refine (CF.out).mono ?_
        rintro e w2 ⟨rfl, S2, hd2, ho2, hs2⟩
        have N2 := Lib.hid (HD'.out.next hd2 ho2 hs2)
        have CFM := Lib.hid (rformat_any g r2 S2 w2 hd2 (by omega))
        clear hd2 ho2 hs2 CF
        go_wp2_with fail
        refine (CFM.out).mono ?_
        rintro e w3 ⟨rfl, S3, hd3, ho3, hs3⟩
        go_wp2
        go_ret
        rw [HE2.out]
        exact (N2.out.next hd3 ho3 hs3).done _
      · have HE2 := Lib.hid (show res = (r1, r2) by rw [HE.out, nextR_no _ h0])
        have hb0 : (r1 == 0) = false := by simpa using h0
        have hb1 : (r1 != 0) = true := by simpa using h0
        clear h0 HE
        go_wp2_with fail
        refine (CF.out).mono ?_
        rintro e w2 ⟨rfl, S2, hd2, ho2, hs2⟩
        go_wp2
        go_ret
        rw [HE2.out]
        exact (HD'.out.next hd2 ho2 hs2).done _

open Go.RowKit
def cF3 (L : List Pt) (D : Dk) : Int × Dk := nextR (flOf D) (homeOf L)
def cF2 (L : List Pt) (D : Dk) : Int × Dk := nextR (wrOf D 0 (hdL L).length (hdL L)) (cF3 L)
def cF1 (L : List Pt) (D : Dk) : Int × Dk := nextR (flOf D) (cF2 L)
theorem cmtOf_F (L : List Pt) (D : Dk) : cmtOf L D = nextR (wrsOf D (copiesL L)) (cF1 L) := rfl

theorem copiesL_step (D : Dk) (M : List PutM) (k : Nat) (hk : k < M.length) :
    wrsOf D ((copiesL (M.map PutM.pt)).drop k) = nextR (wrOf D ((k : Int) + 1) (M.getD k default).b.length (M.getD k default).b) (fun D' => wrsOf D' ((copiesL (M.map PutM.pt)).drop (k + 1))) := by
  have h : (copiesL (M.map PutM.pt))[k]? = some ((1 : Int) + k, (M.getD k default).b) := by
    simp [copiesL, List.getElem?_zipIdx, List.getElem?_eq_getElem hk, PutM.pt]
  have hl := (List.getElem?_eq_some_iff.1 h).1
  rw [List.drop_eq_getElem_cons hl, (List.getElem?_eq_some_iff.1 h).2, Int.add_comm (1 : Int)]
  rfl

set_option maxHeartbeats 4000000 in
set_option maxRecDepth 100000 in
theorem rcommit_any (g : Nat) (D : Dk) (S U : Nat → Prop) (a : Option Addr) (n cap : Nat) (M : List PutM) (size : Int) (w : World) (h : RefAt w S g D) (hU : ∀ k, U k → ¬ S k) (hp : PutsIn w U a n cap M) (hm : mayB (M.map PutM.pt) size = true) (hsz : size ≤ 65536) (hf : D.waits.length ≤ 1073740000) :
    Calls Try.prog 14 #[.pointer (some ⟨g, 0, none⟩), .slice a n cap] w (RefTo (.int .i64 (cmtOf (M.map PutM.pt) D).1) S g (cmtOf (M.map PutM.pt) D).2 w) := by
  have hmay := (may_iff _ _).1 hm
  have hn : n ≤ 40 := by rw [← hp.mlen]; have := hmay.few; simpa using this
  have h128 : ∀ x ∈ M, x.b.length = 128 := fun x hx => (hmay.at x.pt (List.mem_map.2 ⟨x, hx, rfl⟩)).2.2
  have HHL := Lib.hid (hdL_length (M.map PutM.pt) hmay.few)
  have HP := Lib.hid hp
  have HU := Lib.hid hU
  have HR := Lib.hid (RefSt.start h)
  have HML := Lib.hid hp.mlen
  have H128 := Lib.hid h128
  have HM := Lib.hid hm
  have HCL := Lib.hid (show (copiesL (M.map PutM.pt)).length = n by rw [copiesL_length, List.length_map, hp.mlen])
  have HOME := Lib.hid (cmtOf_F (M.map PutM.pt) D)
  clear hp hU h h128 hmay hm
  generalize cmtOf (M.map PutM.pt) D = res at *
  go_enter Try.func14, Try.ntmps14
  go_wp2
  go_loopw [5] (fun i wr => ∃ (k : Nat) (D' : Dk) (S' : Nat → Prop), k ≤ n ∧ i = .int .i64 k ∧ RefSt w S g wr S' D' ∧ wrsOf D (copiesL (M.map PutM.pt)) = wrsOf D' ((copiesL (M.map PutM.pt)).drop k) ∧ D'.waits.length ≤ D.waits.length + k) (fun i _ => n - (intOf i).toNat)
  case atStart => exact ⟨0, D, S, Nat.zero_le _, rfl, HR.out, rfl, Nat.le_refl _⟩
  case round =>
    obtain ⟨k, D', S', hk, rfl, hd', he, hw'⟩ := hrel
    have HD' := Lib.hid hd'
    by_cases hlt : k < n
    · have hpr := hd'.puts HP.out HU.out
      obtain ⟨b, off, rfl, hUb, hcell⟩ := hpr.at (by omega)
      obtain ⟨_, c1, _⟩ := hcell k hlt
      have hbb := hpr.bytes _ (hpr.mem k hlt)
      have hx128 := H128.out _ (hpr.mem k hlt)
      have hki : (k : Int) < (n : Int) := by omega
      rw [copiesL_step D' M k (by rw [HML.out]; exact hlt)] at he
      clear hcell hpr hd'
      generalize M.getD k default = x at *
      obtain ⟨xi, xa, xn, xc, xb⟩ := x
      dsimp only at c1 hbb hx128 he
      obtain rfl : xn = 128 := by rw [← hbb.1]; exact hx128
      rw [hx128] at he
      have hcv := hbb.conv
      have CW := Lib.hid (rwrite_all g ((k : Int) + 1) D' S' 128 xb wr HD'.out.ref hx128 (by omega) (by omega))
      have hwl := wrOf_waits D' ((k : Int) + 1) 128 xb
      generalize wrOf D' ((k : Int) + 1) 128 xb = r at *
      obtain ⟨r1, r2⟩ := r
      have HE := Lib.hid he
      dsimp only at CW hwl
      clear hbb hx128 he
      go_wp2_with fail
      refine (CW.out).mono ?_
      rintro e w2 ⟨rfl, S2, hd2, ho2, hs2⟩
      have N2 := Lib.hid (HD'.out.next hd2 ho2 hs2)
      clear hd2 ho2 hs2 CW c1 hcv
      by_cases h0 : r1 = 0
      · subst h0
        have HE2 := Lib.hid (show wrsOf D (copiesL (M.map PutM.pt)) = wrsOf r2 ((copiesL (M.map PutM.pt)).drop (k + 1)) by rw [HE.out, nextR_yes _ rfl])
        clear HE
        go_wp2
        go_roundw
        case rel => exact ⟨k + 1, r2, S2, by omega, by go_num, N2.out, HE2.out, by omega⟩
        case measure => simp [intOf]; omega
      · have HE2 := Lib.hid (show res = (r1, r2) by
          have e1 : wrsOf D (copiesL (M.map PutM.pt)) = (r1, r2) := HE.out.trans (nextR_no (r := (r1, r2)) _ h0)
          rw [HOME.out, e1]
          exact nextR_no (r := (r1, r2)) _ h0)
        have hb0 : (r1 == 0) = false := by simpa using h0
        have hb1 : (r1 != 0) = true := by simpa using h0
        clear h0 HE
        go_wp2
        go_ret
        rw [HE2.out]
        exact N2.out.done _
    · obtain rfl : k = n := by omega
      rw [List.drop_of_length_le (by rw [HCL.out]; omega)] at he
      have he2 : wrsOf D (copiesL (M.map PutM.pt)) = (0, D') := he
      have HE := Lib.hid (show res = nextR (flOf D') (cF2 (M.map PutM.pt)) by rw [HOME.out, he2, nextR_yes _ rfl]; rfl)
      have CF := Lib.hid (rflush_all g D' S' wr hd'.ref)
      have hfl := flOf_waits D'
      clear he he2 hd' HOME
      generalize flOf D' = r at *
      obtain ⟨r1, r2⟩ := r
      dsimp only at CF hfl
      by_cases h0 : r1 = 0
      · subst h0
        have HE2 := Lib.hid (show res = nextR (wrOf r2 0 128 (hdL (M.map PutM.pt))) (cF3 (M.map PutM.pt)) by rw [HE.out, nextR_yes _ rfl]; unfold cF2; rw [HHL.out])
        clear HE
        go_wp2_with fail
        refine (CF.out).mono ?_
        rintro e w2 ⟨rfl, S2, hd2, ho2, hs2⟩
        have N2 := Lib.hid (HD'.out.next hd2 ho2 hs2)
        have CH := Lib.hid (rhead_any U a k cap M size w2 (N2.out.puts HP.out HU.out) HM.out hsz)
        clear hd2 ho2 hs2 CF HD'
        go_wp2_with fail
        refine (CH.out).mono ?_
        rintro e w3 ⟨rfl, hb3⟩
        have N3 := Lib.hid (N2.out.quiet hb3)
        have CW := Lib.hid (rwrite_all g 0 r2 S2 128 (hdL (M.map PutM.pt)) w3 N3.out.ref HHL.out (by omega) (by omega))
        have hwl := wrOf_waits r2 0 128 (hdL (M.map PutM.pt))
        generalize wrOf r2 0 128 (hdL (M.map PutM.pt)) = q at *
        obtain ⟨q1, q2⟩ := q
        dsimp only at CW hwl
        clear hb3 CH N2
        go_wp2_with fail
        refine (CW.out).mono ?_
        rintro e w4 ⟨rfl, S4, hd4, ho4, hs4⟩
        have N4 := Lib.hid (N3.out.next hd4 ho4 hs4)
        clear hd4 ho4 hs4 CW N3
        by_cases h0 : q1 = 0
        · subst h0
          have HE3 := Lib.hid (show res = nextR (flOf q2) (homeOf (M.map PutM.pt)) by rw [HE2.out, nextR_yes _ rfl]; rfl)
          have CF := Lib.hid (rflush_all g q2 S4 w4 N4.out.ref)
          have hfl2 := flOf_waits q2
          clear HE2
          generalize flOf q2 = p at *
          obtain ⟨p1, p2⟩ := p
          dsimp only at CF hfl2
          by_cases h0 : p1 = 0
          · subst h0
            have HE4 := Lib.hid (show res = homeOf (M.map PutM.pt) p2 by rw [HE3.out, nextR_yes _ rfl])
            clear HE3
            go_wp2_with fail
            refine (CF.out).mono ?_
            rintro e w5 ⟨rfl, S5, hd5, ho5, hs5⟩
            have N5 := Lib.hid (N4.out.next hd5 ho5 hs5)
            have CHM := Lib.hid (rhome_any g p2 S5 U a k cap M w5 hd5 (N5.out.off HP.out HU.out) (N5.out.puts HP.out HU.out) H128.out (by omega))
            clear hd5 ho5 hs5 CF N4
            go_wp2_with fail
            refine (CHM.out).mono ?_
            rintro e w6 ⟨rfl, S6, hd6, ho6, hs6⟩
            go_wp2
            go_ret
            rw [HE4.out]
            exact (N5.out.next hd6 ho6 hs6).done _
          · have HE4 := Lib.hid (show res = (p1, p2) by rw [HE3.out]; exact nextR_no (r := (p1, p2)) _ h0)
            have hb0 : (p1 == 0) = false := by simpa using h0
            have hb1 : (p1 != 0) = true := by simpa using h0
            clear h0 HE3
            go_wp2_with fail
            refine (CF.out).mono ?_
            rintro e w5 ⟨rfl, S5, hd5, ho5, hs5⟩
            go_wp2
            go_ret
            rw [HE4.out]
            exact (N4.out.next hd5 ho5 hs5).done _
        · have HE3 := Lib.hid (show res = (q1, q2) by rw [HE2.out]; exact nextR_no (r := (q1, q2)) _ h0)
          have hb0 : (q1 == 0) = false := by simpa using h0
          have hb1 : (q1 != 0) = true := by simpa using h0
          clear h0 HE2
          go_wp2
          go_ret
          rw [HE3.out]
          exact N4.out.done _
      · have HE2 := Lib.hid (show res = (r1, r2) by rw [HE.out]; exact nextR_no (r := (r1, r2)) _ h0)
        have hb0 : (r1 == 0) = false := by simpa using h0
        have hb1 : (r1 != 0) = true := by simpa using h0
        clear h0 HE
        go_wp2_with fail
        refine (CF.out).mono ?_
        rintro e w2 ⟨rfl, S2, hd2, ho2, hs2⟩
        go_wp2
        go_ret
        rw [HE2.out]
        exact (HD'.out.next hd2 ho2 hs2).done _

end Go.Proofs.Ytinfgfgmijjhjaa
