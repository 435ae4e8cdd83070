/-
  The document's answer for layer 4: Told.
-/
import Derived.Test.YtinfgfgmijjhjaaJnRefC
import Derived.Test.YtinfgfgmijjhjaaPutRow
namespace Go.Proofs.Ytinfgfgmijjhjaa
open Go.RowKit
set_option linter.unusedVariables false
set_option linter.unusedSimpArgs false

/-- the k-th put that these sectors name -/
def nameAt (R : List (List UInt8)) (k : Nat) : Pt := ((le (((R.getD 0 []).drop (10 + 2 * k)).take 2) : Nat), R.getD (1 + k) [])
theorem namedL_take (R : List (List UInt8)) (c : Nat) (hc : c = le (((R.getD 0 []).drop 4).take 2)) (h : c ≤ 40) (k : Nat) (hk : k < c) : (namedL R).take (k + 1) = (namedL R).take k ++ [nameAt R k] := by
  have hn : namedL R = (List.range c).map (nameAt R) := by
    unfold namedL; rw [if_neg (by omega), ← hc]; rfl
  rw [hn, List.take_succ_eq_append_getElem (by simpa using hk)]
  simp
theorem namedL_length (R : List (List UInt8)) (c : Nat) (hc : c = le (((R.getD 0 []).drop 4).take 2)) (h : c ≤ 40) : (namedL R).length = c := by
  unfold namedL; rw [if_neg (by omega), ← hc]; simp
theorem begunL_none (R : List (List UInt8)) (size : Int) (h : le (((R.getD 0 []).drop 4).take 2) < 1 ∨ 40 < le (((R.getD 0 []).drop 4).take 2)) : begunL R size = [] := by
  have h0 : (namedL R).length < 1 := by
    rcases h with h | h
    · rw [namedL_length R _ rfl (by omega)]; exact h
    · unfold namedL; rw [if_pos h]; simp
  have hm : mayB (namedL R) size = false := may_not _ _ (by omega)
  unfold begunL
  rw [hm]; rfl

def ToldTo (A : List Pt) (b : Bool) (w : World) (e : Ending) (w' : World) : Prop :=
  ∃ (a : Option Addr) (n cap : Nat) (M : List PutM), e = .returned (.tuple #[.slice a n cap, .bool b]) ∧ PutsIn w' (fun k => w.heap.size ≤ k ∧ k < w'.heap.size) a n cap M ∧ M.map PutM.pt = A ∧ Below w.heap.size w w'
theorem told_none {w w' : World} (hb : Below w.heap.size w w') : ToldTo [] false w (.returned (.tuple #[.slice none 0 0, .bool false])) w' := ⟨none, 0, 0, [], rfl, PutsIn.nil _ _ (fun k hk => hk.2), rfl, hb⟩

set_option maxHeartbeats 4000000 in
set_option maxRecDepth 100000 in
theorem rtold_any (g : Nat) (D : Dk) (S : Nat → Prop) (w : World) (h : RefAt w S g D) (hs : 41 < D.secs.length) (hp : D.power = true) :
    Calls Try.prog 54 #[.pointer (some ⟨g, 0, none⟩)] w (ToldTo (begunL (rowsL D) D.secs.length) (!(begunL (rowsL D) D.secs.length).isEmpty) w) := by
  have hok := h.ok
  have hR0 := rowsL_head D
  have hL : (D.content 0).length = 128 := hok.content 0 (by omega)
  have HRK := Lib.hid (show ∀ k, k < 41 → (rowsL D).getD k [] = D.content k ∧ (D.content k).length = 128 from fun k hk => ⟨by simp [rowsL, List.getD, hk], hok.content k (by omega)⟩)
  have CR := Lib.hid (rread_yes g 0 D S w h (by omega) hp)
  have CN := Lib.hid (fun u (k : Nat) (hk : k + 2 ≤ 128) => rnum_ok ⟨(D.content 0).toArray⟩ k 2 u (by omega) (by omega) (by show k + 2 ≤ (D.content 0).length; omega) (by show (D.content 0).length ≤ _; omega))
  have hnone := begunL_none (rowsL D) D.secs.length
  have hnt := namedL_take (rowsL D)
  have hnl := namedL_length (rowsL D)
  rw [hR0] at hnone hnt hnl
  have HNONE := Lib.hid hnone
  have HNT := Lib.hid hnt
  have HNL := Lib.hid hnl
  have HR := Lib.hid h
  have HS := Lib.hid hs
  have HP := Lib.hid hp
  have HMANY := Lib.hid hok.many
  have hv4 := le2_lt (D.content 0) 4
  have HV := Lib.hid (fun k => le2_lt (D.content 0) k)
  have HL0 := Lib.hid hL
  have HB0 := Lib.hid (show begunL (rowsL D) D.secs.length = pickL (mayB (namedL (rowsL D)) D.secs.length && hdL (namedL (rowsL D)) == D.content 0) (namedL (rowsL D)) by rw [begunL_pick, hR0])
  clear hok hnone hnt hnl h hs hp hL hR0
  generalize begunL (rowsL D) D.secs.length = A at *
  go_enter Try.func54, Try.ntmps54
  go_wp2_with fail
  refine (CR.out).mono ?_
  rintro e w1 ⟨rfl, rfl⟩
  go_wp2_with fail
  refine (CN.out w 4 (by omega)).mono ?_
  rintro e w1 ⟨rfl, rfl⟩
  obtain ⟨c, hc⟩ : ∃ c, le (((D.content 0).drop 4).take 2) = c := ⟨_, rfl⟩
  have hcc : le ((((⟨(D.content 0).toArray⟩ : ByteArray).data.toList.drop 4).take 2)) = c := by rw [← hc]
  rw [hcc]
  have HC := Lib.hid hc
  rw [hc] at hv4
  rw [hc] at HNONE
  clear hc hcc CR
  by_cases hlo : c < 1
  · have HA := Lib.hid (HNONE.out (.inl hlo))
    obtain rfl : c = 0 := by omega
    go_wp2
    go_ret2
    rw [HA.out]
    exact told_none (Below.refl _ _)
  by_cases hhi : 40 < c
  · have HA := Lib.hid (HNONE.out (.inr hhi))
    have e1 : decide ((c : Int) < 1) = false := by simp; omega
    have e2 : (40 : Int) < (c : Int) := by omega
    go_wp2
    go_ret2
    rw [HA.out]
    exact told_none (Below.refl _ _)
  have e1 : decide ((c : Int) < 1) = false := by simp; omega
  have e2 : decide ((40 : Int) < (c : Int)) = false := by simp; omega
  have e3 : (c : Int) ≤ 40 := by omega
  have HNT2 := Lib.hid (HNT.out c HC.out.symm (by omega))
  have HNL2 := Lib.hid (HNL.out c HC.out.symm (by omega))
  obtain ⟨i0, hi, hz0, hz1, hz2⟩ := info_parts infoPut
  have HI := Lib.hid (And.intro hi (And.intro hz0 (And.intro hz1 hz2)))
  clear HNONE HNT HNL hi hz0 hz1 hz2
  go_wp2
  clear e1 e2
  go_loopw [8, 9] (fun v i wr => ∃ (k : Nat) (a : Option Addr) (cap : Nat) (M : List PutM), k ≤ c ∧ i = .int .i64 k ∧ v = .slice a k cap ∧ M.length = k ∧ PutRow w wr (.slice a k cap) M ∧ M.map PutM.pt = (namedL (rowsL D)).take k) (fun _ i _ => c - (intOf i).toNat)
  case atStart => exact ⟨0, none, 0, [], Nat.zero_le _, rfl, rfl, rfl, PutRow.nil w, rfl⟩
  case round =>
    obtain ⟨k, a, cap, M, hk, rfl, rfl, hMl, hpr, hM⟩ := hrel
    have HPR := Lib.hid hpr
    have HM := Lib.hid hM
    have HMl := Lib.hid hMl
    clear hpr hM hMl
    by_cases hlt : k < c
    · have hnt := HNT2.out k hlt
      obtain ⟨hrk, hlk⟩ := HRK.out (1 + k) (by omega)
      have hr0 := (HRK.out 0 (by omega)).1
      unfold nameAt at hnt
      rw [hrk, hr0] at hnt
      have hv := HV.out (10 + 2 * k)
      have CN1 := Lib.hid (CN.out wr (10 + 2 * k) (by omega))
      have CR1 := Lib.hid (rread_yes g (1 + k) D S wr (HR.out.below HPR.out.below) (by have := HS.out; omega) HP.out)
      obtain ⟨G, w5, hcv, hsr⟩ := str_bytes wr (D.content (1 + k)) (by omega)
      rw [hlk] at hcv
      have hat := hsr.at_
      rw [hlk] at hat
      generalize le (((D.content 0).drop (10 + 2 * k)).take 2) = v at *
      generalize D.content (1 + k) = l at *
      have HNT3 := Lib.hid hnt
      have HAT := Lib.hid hat
      have HSR := Lib.hid hsr
      have hki : (k : Int) < (c : Int) := by omega
      have hk40 : k < 40 := by omega
      clear hnt hrk hlk hr0 hat hsr
      have a1 : ((10 + 2 * k : Nat) : Int) = 10 + 2 * (k : Int) := by omega
      have a2 : ((1 + k : Nat) : Int) = 1 + (k : Int) := by omega
      rw [a1] at CN1
      rw [a2] at CR1
      clear a1 a2
      go_wp2_with fail
      refine (CN1.out).mono ?_
      rintro e w3 ⟨rfl, rfl⟩
      go_wp2_with fail
      refine (CR1.out).mono ?_
      rintro e w3 ⟨rfl, rfl⟩
      have B5 := Lib.hid HSR.out.below
      have HBP : Below w5.heap.size w5 (w5.alloc (.cells (putV (v : Int) (some ⟨wr.heap.size, 0, none⟩) 128 G) 69)) := (Below.refl _ _).alloc (Nat.le_refl _) _
      have HBPH := Lib.hid HBP
      clear HBP
      go_wp2_with (first
        | (refine wpList_buildSliceV rfl 22 1 _ rfl #[(0, .agg (putV (v : Int) (some ⟨wr.heap.size, 0, none⟩) 128 G))] (by simp [go_sem, putV]) _ _ (built_put (v : Int) _ _ _ _) ?_)
        | (at_builtin; refine wpList_append_recs (f := putC) rfl _ _ 22 rfl 69 i0 (.agg #[.int .i64 0, .slice none 0 0]) 2 32 Try.underlying22 HI.out.1 HI.out.2.1 HI.out.2.2.1 HI.out.2.2.2 rfl (by omega) (.slice a k cap) M rfl (((HPR.out.quiet B5.out).quiet HBPH.out).recs) ⟨w5.heap.size, 0, none⟩ 1 1 [⟨(v : Int), some ⟨wr.heap.size, 0, none⟩, 128, G, l⟩] rfl rfl (fun y hy => rfl) (fun y hy => putC_one y) (put_news (heap_alloc_new w5 _)) (by rw [HMl.out]; unfold maxLen; omega) (by rw [HMl.out]; omega) ?_; intro v7 w7 hr7 hg7 hv7))
      obtain ⟨a7, c7, rfl, _, _⟩ := hr7.form
      have HROW := Lib.hid (HPR.out.snoc (B5.out.trans (HBPH.out.mono B5.out.size)) ⟨(v : Int), some ⟨wr.heap.size, 0, none⟩, 128, G, l⟩ (HAT.out.below HBPH.out) (fun p hp => by cases hp; exact ⟨Nat.le_refl _, by have := HSR.out.lt; simp; omega⟩) hr7 hg7 hv7)
      rw [List.length_append, HMl.out, List.length_singleton] at HROW
      have hl7 : (M ++ [(⟨(v : Int), some ⟨wr.heap.size, 0, none⟩, 128, G, l⟩ : PutM)]).length = k + 1 := by rw [List.length_append, HMl.out, List.length_singleton]
      rw [hl7]
      have HL7 := Lib.hid hl7
      clear hr7 hg7 hv7 hl7 hcv
      go_wp2
      go_roundw
      case rel => exact ⟨k + 1, a7, c7, _, by omega, by go_num, rfl, HL7.out, HROW.out, by rw [HNT3.out, List.map_append, HM.out]; rfl⟩
      case measure => simp [intOf]; omega
    · obtain rfl : k = c := by omega
      rw [List.take_of_length_le (by rw [HNL2.out]; omega)] at HM
      have HPI := Lib.hid HPR.out.puts
      have HRW := Lib.hid (HR.out.below HPR.out.below)
      have HBW := Lib.hid HPR.out.below
      obtain ⟨vs, vw, hri⟩ := HRW.out
      obtain ⟨d0, _, _, _, _⟩ := ref_cells hri.blk
      obtain ⟨asec, csec, rfl, _, _⟩ := hri.secs.form
      have CM := Lib.hid (rmay_any _ a k cap M D.secs.length wr HPI.out)
      rw [HM.out] at CM
      clear hri HPR HNT2 HNL2 HRK CN HV
      cases hm : mayB (namedL (rowsL D)) D.secs.length with
      | false =>
        rw [hm] at CM HB0
        rw [Bool.false_and, pick_no] at HB0
        clear hm
        go_wp2_with fail
        refine (CM.out).mono ?_
        rintro e w3 ⟨rfl, hb3⟩
        go_wp2
        go_ret2
        rw [HB0.out]
        exact told_none (HBW.out.trans (hb3.mono HBW.out.size))
      | true =>
        have CH := Lib.hid (fun u (hb : Below wr.heap.size wr u) => rhead_any _ a k cap M D.secs.length u (HPI.out.below hb) (by rw [HM.out]; exact hm) (by have := HMANY.out; omega))
        rw [HM.out] at CH
        rw [hm] at CM HB0
        rw [Bool.true_and] at HB0
        clear hm
        cases hq : (hdL (namedL (rowsL D)) == D.content 0) with
        | false =>
          rw [hq, pick_no] at HB0
          have hq2 : (hdL (namedL (rowsL D)) != D.content 0) = true := by simp only [bne, hq]; rfl
          go_wp2_with fail
          refine (CM.out).mono ?_
          rintro e w3 ⟨rfl, hb3⟩
          go_wp2_with fail
          refine (CH.out _ hb3).mono ?_
          rintro e w4 ⟨rfl, hb4⟩
          go_wp2
          go_ret2
          rw [HB0.out]
          exact told_none (HBW.out.trans ((hb3.trans (hb4.mono hb3.size)).mono HBW.out.size))
        | true =>
          rw [hq, pick_yes] at HB0
          have hq2 : (hdL (namedL (rowsL D)) != D.content 0) = false := by simp only [bne, hq]; rfl
          go_wp2_with fail
          refine (CM.out).mono ?_
          rintro e w3 ⟨rfl, hb3⟩
          go_wp2_with fail
          refine (CH.out _ hb3).mono ?_
          rintro e w4 ⟨rfl, hb4⟩
          go_wp2
          go_ret2
          have hb5 := hb3.trans (hb4.mono hb3.size)
          have hne : (!A.isEmpty) = true := by
            rw [HB0.out, ← HM.out]
            cases M with
            | nil => have := HMl.out; simp at this; omega
            | cons y ys => rfl
          rw [hne]
          exact ⟨a, k, cap, M, rfl, (HPI.out.below hb5).more (fun j hj => ⟨hj.1, Nat.lt_of_lt_of_le hj.2 hb5.size⟩) (fun j hj => hj.2), by rw [HM.out, HB0.out], HBW.out.trans (hb5.mono HBW.out.size)⟩

open Go.RowKit
theorem hdL_ne (L : List Pt) : hdL L ≠ sec 0 := by
  intro h
  have h1 : (hdL L)[0]? = some 116 := by simp [hdL, sealL, hdRaw, markL]
  rw [h] at h1
  simp [sec] at h1
theorem recR_some {A : List Pt} (h : A ≠ []) : recR A = homeR A := by unfold recR; rw [if_neg h]; rfl
theorem recoverOf_home {D : Dk} (h : 41 < D.secs.length) (hp : D.power = true) {A : List Pt} (hA : begunL (rowsL D) D.secs.length = A) (hne : A ≠ []) :
    recoverOf D = (if (homeOf A D).1 = 0 then (A.length : Int) else 0, homeOf A D) := by
  have hc : D.content 0 ≠ sec 0 := by
    have := (begunL_may (rowsL D) D.secs.length (by rw [hA]; exact hne)).2
    rw [rowsL_head] at this
    rw [← this]; exact hdL_ne _
  rw [recoverOf_some h hp hc, hA, recR_some hne, homeOf_plays]
theorem recoverOf_fmt {D : Dk} (h : 41 < D.secs.length) (hp : D.power = true) (hA : begunL (rowsL D) D.secs.length = []) (hc : D.content 0 ≠ sec 0) : recoverOf D = (0, fmtOf D) := by
  rw [recoverOf_some h hp hc, hA, show recR [] = formatR from rfl, fmtOf_plays]
  simp

def RRecTo (S : Nat → Prop) (g : Nat) (x : Int × Int × Dk) (w : World) : Ending → World → Prop := RefTo (.tuple #[.int .i64 x.1, .int .i64 x.2.1]) S g x.2.2 w

set_option maxHeartbeats 4000000 in
set_option maxRecDepth 100000 in
theorem rrecover_any (g : Nat) (D : Dk) (S : Nat → Prop) (w : World) (h : RefAt w S g D) (hs : 41 < D.secs.length) (hf : D.waits.length ≤ 1073740000) :
    Calls Try.prog 17 #[.pointer (some ⟨g, 0, none⟩)] w (RRecTo S g (recoverOf D) w) := by
  cases hp : D.power with
  | false =>
    rw [recoverOf_off hs hp]
    have CR := Lib.hid (rread_off g 0 D S w h (by omega) hp)
    have HR := Lib.hid (RefSt.start h)
    clear h hs hp
    go_enter Try.func17, Try.ntmps17
    go_wp2_with fail
    refine (CR.out).mono ?_
    rintro e w1 ⟨rfl, rfl⟩
    go_wp2
    go_ret2
    exact HR.out.done _
  | true =>
    have CR := Lib.hid (rread_yes g 0 D S w h (by omega) hp)
    have CT := Lib.hid (rtold_any g D S w h hs hp)
    have HR := Lib.hid (RefSt.start h)
    have hmany := h.ok.many
    by_cases hA : begunL (rowsL D) D.secs.length = []
    · rw [hA] at CT
      by_cases hc : D.content 0 = sec 0
      · rw [recoverOf_none hs hp hc]
        have hne : (D.content 0 == sec 0) = true := by rw [hc]; simp
        clear h hs hp hA hc
        go_enter Try.func17, Try.ntmps17
        go_wp2_with fail
        refine (CR.out).mono ?_
        rintro e w1 ⟨rfl, rfl⟩
        go_wp2_with fail
        refine (CT.out).mono ?_
        rintro e w1 ⟨a, n, cap, M, rfl, _, _, hb1⟩
        have N1 := Lib.hid (HR.out.quiet hb1)
        clear hb1 CT CR
        dsimp only [List.isEmpty, Bool.not_true]
        go_wp2_with fail
        refine (noughts_any w1).mono ?_
        rintro e w2 ⟨rfl, hb2⟩
        go_wp2
        go_ret2
        exact (N1.out.quiet hb2).done _
      · rw [recoverOf_fmt hs hp hA hc]
        have hne : (D.content 0 == sec 0) = false := by simpa using hc
        clear h hs hp hA hc
        go_enter Try.func17, Try.ntmps17
        go_wp2_with fail
        refine (CR.out).mono ?_
        rintro e w1 ⟨rfl, rfl⟩
        go_wp2_with fail
        refine (CT.out).mono ?_
        rintro e w1 ⟨a, n, cap, M, rfl, _, _, hb1⟩
        have N1 := Lib.hid (HR.out.quiet hb1)
        clear hb1 CT CR
        dsimp only [List.isEmpty, Bool.not_true]
        go_wp2_with fail
        refine (noughts_any w1).mono ?_
        rintro e w2 ⟨rfl, hb2⟩
        have N2 := Lib.hid (N1.out.quiet hb2)
        clear hb2
        go_wp2_with fail
        refine (rformat_any g D S w2 N2.out.ref (by omega)).mono ?_
        rintro e w3 ⟨rfl, S3, hd3, ho3, hs3⟩
        go_wp2
        go_ret2
        exact (N2.out.next hd3 ho3 hs3).done _
    · have hbm := (begunL_may (rowsL D) D.secs.length hA).1
      obtain ⟨A, hAe⟩ : ∃ A, begunL (rowsL D) D.secs.length = A := ⟨_, rfl⟩
      rw [recoverOf_home hs hp hAe (by rw [← hAe]; exact hA)]
      rw [hAe] at CT hbm hA
      have hie : (!A.isEmpty) = true := by cases A with | nil => exact absurd rfl hA | cons _ _ => rfl
      rw [hie] at CT
      have hmay := (may_iff _ _).1 hbm
      have HA128 := Lib.hid (show ∀ p ∈ A, p.2.length = 128 from fun p hp => (hmay.at p hp).2.2)
      have hfew := hmay.few
      have HSLT := Lib.hid (show ∀ k, S k → k < w.heap.size from fun k hk => h.lt k hk)
      obtain ⟨N, hN⟩ : ∃ N : Int, (if (homeOf A D).1 = 0 then (A.length : Int) else 0) = N := ⟨_, rfl⟩
      rw [hN]
      have HN := Lib.hid hN
      obtain ⟨r1, r2, hr⟩ : ∃ r1 r2, homeOf A D = (r1, r2) := ⟨_, _, rfl⟩
      have HRR := Lib.hid hr
      rw [hr] at HN ⊢
      clear h hs hp hA hbm hAe hie hN hr hmay
      dsimp only at HN ⊢
      go_enter Try.func17, Try.ntmps17
      go_wp2_with fail
      refine (CR.out).mono ?_
      rintro e w1 ⟨rfl, rfl⟩
      go_wp2_with fail
      refine (CT.out).mono ?_
      rintro e w1 ⟨a, n, cap, M, rfl, hpi, hM, hb1⟩
      have N1 := Lib.hid (HR.out.quiet hb1)
      have hn : n = A.length := by rw [← hpi.mlen, ← List.length_map (f := PutM.pt), hM]
      subst hn
      have CH := Lib.hid (rhome_any g D S _ a A.length cap M w1 N1.out.ref (fun k hk hS => by have := HSLT.out k hS; omega) hpi (fun x hx => HA128.out x.pt (by rw [← hM]; exact List.mem_map.2 ⟨x, hx, rfl⟩)) (by omega))
      rw [hM, HRR.out] at CH
      clear hpi hM hb1 CT CR
      dsimp only at CH
      by_cases h0 : r1 = 0
      · subst h0
        obtain rfl : N = (A.length : Int) := by simpa using HN.out.symm
        clear HN
        go_wp2_with fail
        refine (CH.out).mono ?_
        rintro e w2 ⟨rfl, S2, hd2, ho2, hs2⟩
        go_wp2
        go_ret2
        exact (N1.out.next hd2 ho2 hs2).done _
      · have hb0 : (r1 == 0) = false := by simpa using h0
        have hb1 : (r1 != 0) = true := by simpa using h0
        obtain rfl : N = 0 := by simpa [h0] using HN.out.symm
        clear h0 HN
        go_wp2_with fail
        refine (CH.out).mono ?_
        rintro e w2 ⟨rfl, S2, hd2, ho2, hs2⟩
        go_wp2
        go_ret2
        exact (N1.out.next hd2 ho2 hs2).done _

end Go.Proofs.Ytinfgfgmijjhjaa
