/-
  JournalAll: all or nothing: whatever stood ahead, whenever the power fails within a commit, and however often within recovering, whatever cuts keep. For every input.
-/
import Derived.Test.YtinfgfgmijjhjaaAwake04
import Derived.Test.YtinfgfgmijjhjaaJnAll
import Derived.Deep.DeepCutAuto
import Derived.Deep.CutBlock
namespace Go.Proofs.Ytinfgfgmijjhjaa.journalAll
open Go.Proofs.Ytinfgfgmijjhjaa Go.ChangeShapes Go.WideShapes Go.ChangeAt Go.RowKit Go.Deep
open Go.ChangeMaps (open_string shut_string)
set_option linter.unusedVariables false
set_option linter.unusedSimpArgs false

/-- what is to be at home: the old, the new -/
def PO (s0 s : List (List UInt8)) : Prop := ∀ j, 41 ≤ j → j < 60 → s.getD j [] = s0.getD j []
def PN (A : List Pt) (s0 s : List (List UInt8)) : Prop := ∀ j, 41 ≤ j → j < 60 → s.getD j [] = Dk.over (asW A) j (s0.getD j [])
theorem done_or {e : Int} {A : List Pt} {s0 s : List (List UInt8)} (h60 : s0.length = 60) (h : DoneS e A s0 s) : s.length = 60 ∧ (PN A s0 s ∨ (e ≠ 0 ∧ PO s0 s)) := by
  rcases h with h | ⟨he, h⟩
  · exact ⟨h.len.trans h60, .inl fun j h1 h2 => h.home j h1 (by omega)⟩
  · exact ⟨h.len.trans h60, .inr ⟨he, fun j h1 h2 => h.home j h1⟩⟩
theorem loose_settled {e : Int} {A : List Pt} {s0 : List (List UInt8)} {D : Dk} (h60 : s0.length = 60) (h : Loose e A s0 D) : ∃ s1, D.on = ⟨s1, [], true, -1⟩ ∧ ClsS e A s0 s1 ∧ s1.length = 60 := by
  have hc := h fun _ => false
  refine ⟨_, rfl, hc, ?_⟩
  rcases hc with hc | ⟨_, hc | hc⟩
  · exact hc.len.trans h60
  · exact hc.len.trans h60
  · exact hc.len.trans h60
theorem rem100 (n : Nat) (h : n ≤ 65535) : ((n % 100 : Nat) : Int) ≤ 99 := by omega
theorem over_take (A : List Pt) (m k : Nat) (hm : m < A.length) (s : List UInt8) : Dk.over (asW (A.take (m + 1))) k s = if (A.getD m (0, [])).1.toNat = k then (A.getD m (0, [])).2 else Dk.over (asW (A.take m)) k s := by
  have : asW (A.take (m + 1)) = asW (A.take m) ++ [((A.getD m (0, [])).1.toNat, (A.getD m (0, [])).2)] := by
    rw [List.take_succ_eq_append_getElem hm]
    show List.map _ (_ ++ [_]) = _
    rw [List.map_append, List.map_singleton, List.getD, List.getElem?_eq_getElem hm]
    rfl
  rw [this, Dk.over_snoc]

set_option maxRecDepth 100000 in
set_option maxHeartbeats 8000000 in
theorem walk (a0 : Option Addr) (n0 c0 : Nat) (L0 : List PutM) (a1 : Option Addr) (n1 c1 : Nat) (L1 : List PutM) (a2 : Option Addr) (n2 c2 : Nat) (F : List FailM) (w : World)
    (h0 : CameAt putC 2 w a0 n0 c0 L0) (g0 : ∀ x ∈ L0, x.Good w) (h1 : CameAt putC 2 w a1 n1 c1 L1) (g1 : ∀ x ∈ L1, x.Good w) (h2 : CameAt failC 2 w a2 n2 c2 F) (g2 : ∀ x ∈ F, x.Good w) :
    Calls Try.prog 5 #[.slice a0 n0 c0, .slice a1 n1 c1, .slice a2 n2 c2] w fun e w' => e = .returned (.bool true) ∧ Below w.heap.size w w' := by
  have hm2 : n2 ≤ 9223372036854775807 := by have := h2.2.1; have := h2.2.2.1; unfold maxLen at *; omega
  have H2 := Lib.hid h2
  have G2 := Lib.hid g2
  have CFA := Lib.hid (fun u (hb : Below w.heap.size w u) => jfew_any a0 n0 c0 L0 u (PutsCame.below ⟨h0, g0⟩ hb))
  have CFB := Lib.hid (fun u (hb : Below w.heap.size w u) => jfew_any a1 n1 c1 L1 u (PutsCame.below ⟨h1, g1⟩ hb))
  clear h0 g0 h1 g1 h2 g2
  generalize fewL (L0.map PutM.pt) = A0 at *
  generalize fewL (L1.map PutM.pt) = A at *
  go_enter Try.func5, Try.ntmps5
  go_wp2_with fail
  refine (made_any 60 w (by omega) (by omega)).mono ?_
  rintro e w1 ⟨g, S1, rfl, hd1, hb1, hn1⟩
  have R1 := Lib.hid (Run.mk hd1 hb1 hn1)
  clear hd1 hb1 hn1
  dsimp only [id]
  go_wp2_with fail
  refine (CFA.out w1 R1.out.below).mono ?_
  rintro e w2 ⟨p0, m0, d0, M0, rfl, hp, hM0, hb⟩
  have R2 := Lib.hid (R1.out.quiet hb)
  have SA0 := Lib.hid (SceneA.mk' R1.out hb hp (fun j hj => hj.1))
  have HM0 := Lib.hid hM0
  clear hp hM0 hb R1
  go_wp2_with fail
  refine (CFB.out w2 R2.out.below).mono ?_
  rintro e w3 ⟨p1, m1, d1, M1, rfl, hp, hM1, hb⟩
  have SA1 := Lib.hid (SceneA.mk' R2.out hb hp (fun j hj => hj.1))
  have SB0 := Lib.hid (SA0.out.quiet hb)
  have HM1 := Lib.hid hM1
  clear hp hM1 hb R2 SA0 CFA CFB
  generalize (fun k => w2.heap.size ≤ k ∧ k < w3.heap.size) = U at *
  generalize (fun k => w1.heap.size ≤ k ∧ k < w2.heap.size) = U0 at *
  go_upto_region 5 with fail
  go_cut [39] (fun s39 wx => s39 = .bool false ∧ ∃ (s : List (List UInt8)) (S : Nat → Prop), SceneA w wx S g ⟨s, [], true, -1⟩ U p1 m1 d1 M1 ∧ BaseS 60 s)
  case first =>
    have CM := Lib.hid (rmay_any _ p0 m0 d0 M0 60 w3 SB0.out.puts)
    rw [HM0.out] at CM
    cases hm : mayB A0 60 with
    | false =>
      rw [hm] at CM
      clear hm
      go_wp2_with fail
      refine (CM.out).mono ?_
      rintro e w4 ⟨rfl, hb⟩
      have SZ := Lib.hid (SA1.out.quiet hb)
      clear hb CM SA1 SB0
      go_wp2
      go_meet
      exact ⟨rfl, (Dk.new 60).secs, S1, SZ.out, base_new 60 (by omega)⟩
    | true =>
      rw [hm] at CM
      obtain ⟨s', hc, hbase⟩ := base_commit 60 A0 _ (base_new 60 (by omega)) (by omega) hm
      have HC := Lib.hid (show commitOf (Dk.new 60) A0 = (0, ⟨s', [], true, -1⟩) from hc)
      have HB := Lib.hid hbase
      clear hm hc hbase
      go_wp2_with fail
      refine (CM.out).mono ?_
      rintro e w4 ⟨rfl, hb⟩
      have SZ := Lib.hid (SA1.out.quiet hb)
      have SY := Lib.hid (SB0.out.quiet hb)
      have CC := Lib.hid (commit_any g (Dk.new 60) S1 U0 p0 m0 d0 M0 w4 SY.out.run.disk SY.out.offU SY.out.puts (by simp [Dk.new]))
      rw [HM0.out, HC.out] at CC
      clear hb CM SA1 SB0 SY
      go_wp2_with fail
      refine (CC.out).mono ?_
      rintro e w5 ⟨rfl, S5, hd, ho, hs⟩
      have SX := Lib.hid (SZ.out.disk hd ho hs)
      clear hd ho hs CC SZ
      go_wp2
      go_meet
      exact ⟨rfl, s', S5, SX.out, HB.out⟩
  case rest =>
  obtain ⟨rfl, s0, S, hsc, hbase⟩ := hcut
  obtain ⟨wa, rfl⟩ : ∃ wa : World, wa = wc := ⟨_, rfl⟩
  have SC := Lib.hid hsc
  have HL60 := Lib.hid hbase.len
  have HZ := Lib.hid hbase.head
  clear hsc hbase SA1 SB0 HM0
  have CM := Lib.hid (rmay_any _ p1 m1 d1 M1 60 wa SC.out.puts)
  rw [HM1.out] at CM
  have HMQ := Lib.hid (show ((s0.length : Nat) : Int) = 60 by rw [HL60.out]; rfl)
  cases hm : mayB A 60 with
  | false =>
    rw [hm] at CM
    have HC := Lib.hid (show commitOf ⟨s0, [], true, -1⟩ A = (1, ⟨s0, [], true, -1⟩) by unfold commitOf; rw [if_neg]; show ¬ mayB A (s0.length : Nat) = true; rw [HMQ.out, hm]; simp)
    clear hm
    go_wp2_with fail
    refine (CM.out).mono ?_
    rintro e w4 ⟨rfl, hb⟩
    have SZ := Lib.hid (SC.out.quiet hb)
    have CC := Lib.hid (commit_any g _ S U p1 m1 d1 M1 w4 SZ.out.run.disk SZ.out.offU SZ.out.puts (by simp))
    rw [HM1.out, HC.out] at CC
    clear hb CM SC
    go_wp2_with fail
    refine (CC.out).mono ?_
    rintro e w5 ⟨rfl, S5, hd, ho, hs⟩
    have SX := Lib.hid (SZ.out.disk hd ho hs)
    clear hd ho hs CC SZ
    go_wp2_with fail
    refine (awake04 _).mono ?_
    rintro e w6 ⟨rfl, hb⟩
    go_wp2
    go_ret
    exact ⟨rfl, SX.out.run.below.trans (hb.mono SX.out.run.below.size)⟩
  | true =>
  rw [hm] at CM
  have HMB := Lib.hid (show mayB A (s0.length : Nat) = true by rw [HMQ.out]; exact hm)
  have hml := ((may_iff _ _).1 hm).few
  clear hm
  go_wp2_with fail
  refine (CM.out).mono ?_
  rintro e w4 ⟨rfl, hb⟩
  have SD := Lib.hid (SceneS.start (SC.out.quiet hb))
  have HA1 := Lib.hid (show A.length = m1 by rw [← HM1.out, List.length_map]; exact SC.out.puts.mlen)
  have hm1b : m1 ≤ 40 := by rw [← HA1.out]; exact hml
  clear hb CM SC HMQ
  go_upto_block 0 with (fail)
  go_cut [8, 9] (fun s8 s9 wx => ∃ (aw : Option Addr) (cw : Nat), s8 = .slice aw 60 cw ∧ SceneS w wx S g ⟨s0, [], true, -1⟩ U p1 m1 d1 M1 (.slice aw 60 cw) s0)
  case first =>
    go_wp2
    go_loopw [8, 9] (fun s8 s9 wr => ∃ (k : Nat) (R : List (List UInt8)), k ≤ 60 ∧ s9 = .int .i64 k ∧ R = s0.take k ∧ SceneS w wr S g ⟨s0, [], true, -1⟩ U p1 m1 d1 M1 s8 R) (fun _ s9 _ => 60 - (intOf s9).toNat)
    case atStart => exact ⟨0, [], by omega, rfl, by simp, SD.out⟩
    case round =>
      obtain ⟨k, R, hk, rfl, hR, hsc⟩ := hrel
      have HI := Lib.hid hsc
      have HR := Lib.hid hR
      obtain ⟨aw, cw, rfl, _, _⟩ := hsc.strs.recs.form
      have hRl : R.length ≤ 60 := by rw [hR, List.length_take]; omega
      clear hsc hR SD
      by_cases h4 : k < 60
      · have h4i : (k : Int) < 60 := by omega
        go_wp2_with fail
        refine (read_yes g k _ S _ HI.out.sc.run.disk (by rw [HL60.out]; exact h4) rfl).mono ?_
        rintro e w5 ⟨a4, c4, rfl, hr, hb, hn⟩
        rw [content_still] at hr
        have hgd : s0.take (k + 1) = s0.take k ++ [s0.getD k []] := by
          have : k < s0.length := by rw [HL60.out]; exact h4
          rw [List.take_succ_eq_append_getElem this, List.getD, List.getElem?_eq_getElem this]; rfl
        have HGD := Lib.hid hgd
        have v4 := hr.conv
        have HB4 := Lib.hid hb
        obtain ⟨i0, hi0, hz0, hz1, hz2⟩ := info_parts infoStr
        have Hi0 := Lib.hid hi0
        have Hz0 := Lib.hid hz0
        have Hz1 := Lib.hid hz1
        have Hz2 := Lib.hid hz2
        clear hr hb hn hgd hi0 hz0 hz1 hz2
        generalize s0.getD k [] = l4 at *
        go_wp2_with (at_builtin; refine wpList_append_recs (f := strC) rfl _ _ 48 rfl 9 i0 _ 1 16 Try.underlying48 Hi0.out Hz0.out Hz1.out Hz2.out rfl (by omega) _ R rfl (HI.out.strs.recs.below (HB4.out.alloc (Below.size HB4.out) _)) ⟨w5.heap.size, 0, none⟩ 1 1 [l4] rfl rfl (fun _ _ => rfl) (fun y _ => strC_one y) (one_rec (heap_alloc_new w5 _)) (by unfold maxLen; omega) (by omega) ?_; intro v' w6 hr' hg' hv'; obtain ⟨av5, cv5, rfl, _, _⟩ := hr'.form)
        go_roundw
        case rel =>
          have hm := HI.out.more (HB4.out.alloc (Below.size HB4.out) _) hr' hg' hv'
          rw [List.length_append, List.length_singleton] at hm
          exact ⟨k + 1, R ++ [l4], by omega, by go_num, by rw [HGD.out, ← HR.out], hm⟩
        case measure => simp [intOf]; omega
      · obtain rfl : k = 60 := by omega
        go_wp2
        go_meet
        have hRs : R = s0 := by rw [HR.out, List.take_of_length_le (by rw [HL60.out]; omega)]
        have hst := HI.out
        rw [hRs, HL60.out] at hst
        exact ⟨aw, cw, by rw [hRs, HL60.out], hst⟩
  case rest =>
  obtain ⟨aw, cw, rfl, hsc⟩ := hcut
  obtain ⟨wb, rfl⟩ : ∃ wb : World, wb = wc := ⟨_, rfl⟩
  have SE := Lib.hid hsc
  clear hsc SD
  go_upto_if 67 with (fail)
  go_cut [8] (fun s8 wx => s8 = .slice aw 60 cw ∧ ∃ (S : Nat → Prop) (b : Int), SceneS w wx S g ⟨s0, [], true, b⟩ U p1 m1 d1 M1 (.slice aw 60 cw) s0)
  case first =>
    by_cases hn : 0 < n2
    · have hni : (0 : Int) < (n2 : Int) := by omega
      have hL := H2.out.below (by omega) SE.out.sc.run.below
      obtain ⟨b2, off2, rfl, hbl, hcell⟩ := hL.at (by omega) (by omega)
      obtain ⟨x, hx⟩ : ∃ x, F[0]? = some x := ⟨F[0]'(by have := hL.1; omega), List.getElem?_eq_getElem _⟩
      have hc0 := hcell 0 0 x hx (by omega)
      have hfew := (G2.out x (List.mem_of_getElem? hx)).few
      simp only [Nat.zero_mul, Nat.add_zero, failC, List.getElem?_cons_zero] at hc0
      clear hL hcell hx hbl
      go_wp2_with fail
      refine (budget_yes g ((x.n % 100 : Nat) : Int) _ S _ SE.out.sc.run.disk (by omega) (by omega)).mono ?_
      rintro e w5 ⟨rfl, S5, hd, ho, hs⟩
      have SX := Lib.hid (SE.out.disk hd ho hs)
      clear hd ho hs
      go_wp2
      go_meet
      exact ⟨rfl, S5, _, SX.out⟩
    · obtain rfl : n2 = 0 := by omega
      go_wp2
      go_meet
      exact ⟨rfl, S, _, SE.out⟩
  case rest =>
  obtain ⟨rfl, S6, b6, hsc⟩ := hcut
  obtain ⟨wd, rfl⟩ : ∃ wd : World, wd = wc := ⟨_, rfl⟩
  have SF := Lib.hid hsc
  clear hsc SE
  have CC := Lib.hid (commit_any g _ S6 U p1 m1 d1 M1 wd SF.out.sc.run.disk SF.out.sc.offU SF.out.sc.puts (by simp))
  rw [HM1.out] at CC
  have HLO := Lib.hid (loose_commit A s0 b6 HMB.out (by rw [HL60.out]; omega) HZ.out)
  have HFI := Lib.hid (show Fit 60 200 (commitOf ⟨s0, [], true, b6⟩ A).2 from (Fit.commit (show Fit 60 0 ⟨s0, [], true, b6⟩ from ⟨HL60.out, Nat.le_refl _⟩) A).le (by omega))
  generalize commitOf ⟨s0, [], true, b6⟩ A = z at *
  obtain ⟨e0, D0⟩ := z
  dsimp only at CC HLO HFI
  go_wp2_with fail
  refine (CC.out).mono ?_
  rintro e w7 ⟨rfl, S7, hd, ho, hs⟩
  have SG := Lib.hid (SF.out.disk hd ho hs)
  clear hd ho hs CC SF
  go_upto_block 2 with (fail)
  go_cut [13] (fun s13 wx => ∃ (S : Nat → Prop) (D : Dk), SceneS w wx S g D U p1 m1 d1 M1 (.slice aw 60 cw) s0 ∧ Loose e0 A s0 D ∧ Fit 60 200 D)
  case first =>
    go_wp2
    go_loopw [13] (fun s13 wr => ∃ (k : Nat) (S : Nat → Prop) (D : Dk), k ≤ n2 ∧ k ≤ 6 ∧ s13 = .int .i64 k ∧ SceneS w wr S g D U p1 m1 d1 M1 (.slice aw 60 cw) s0 ∧ Loose e0 A s0 D ∧ Fit 60 200 D) (fun s13 _ => n2 - (intOf s13).toNat)
    case atStart => exact ⟨0, S7, D0, Nat.zero_le _, by omega, rfl, SG.out, HLO.out, HFI.out⟩
    case round =>
      obtain ⟨k, S, D, hk, hk6, rfl, hsc, hlo, hfi⟩ := hrel
      have SI := Lib.hid hsc
      have HL := Lib.hid hlo
      have HFit := Lib.hid hfi
      clear hsc hlo hfi SG HLO HFI
      by_cases hgo : k < n2 ∧ k < 6
      · obtain ⟨hlt, h6⟩ := hgo
        have hlti : (k : Int) < (n2 : Int) := by omega
        have h6i : (k : Int) < 6 := by omega
        have hL := H2.out.below (by omega) SI.out.sc.run.below
        obtain ⟨b2, off2, rfl, hbl, hcell⟩ := hL.at (by omega) (by omega)
        have hbw : b2 < w.heap.size := by
          obtain ⟨b', off', he, hb', _⟩ := H2.out.at (by omega) (by omega)
          cases he; exact hb'
        have HCE := Lib.hid (show ∀ u, Below w.heap.size w u → ∀ i j x, F[i]? = some x → j < 2 → u.cell? ⟨b2, off2 + (i * 2 + j), none⟩ = (failC x)[j]? from fun u hu i j x hi hj => by
          obtain ⟨b', off', he, _, hc'⟩ := (H2.out.below (by omega) hu).at (by omega) (by omega)
          cases he
          exact hc' i j x hi hj)
        have HFL := Lib.hid (show F.length = n2 from H2.out.1)
        clear hL hcell hbl
        obtain ⟨x, hx⟩ : ∃ x, F[k]? = some x := ⟨F[k]'(by have := HFL.out; omega), List.getElem?_eq_getElem _⟩
        have hkc := (HCE.out _ SI.out.sc.run.below k 1 x hx (by omega))
        rw [← Nat.add_assoc] at hkc
        simp only [failC, List.getElem?_cons_succ, List.getElem?_cons_zero] at hkc
        have hgx := (G2.out x (List.mem_of_getElem? hx)).keep
        have hkb : BoolsAt _ x.ka x.kn x.kc x.keep := CameAt.below hgx (by omega) SI.out.sc.run.below
        have hks : ∀ p, x.ka = some p → 0 < x.kn → ¬ S p.block := fun p hp hn hS => by
          obtain ⟨b', off', he, hb', _⟩ := BoolsAt.cell hgx hn
          rw [he] at hp; cases hp
          have := SI.out.sc.run.new _ hS; dsimp only at this; omega
        clear hgx hx
        go_wp2_with fail
        refine (cut_any g D S x.ka x.kn x.kc x.keep _ SI.out.sc.run.disk hkb hks).mono ?_
        rintro e w8 ⟨rfl, S8, hd, ho, hs⟩
        have SJ := Lib.hid (SI.out.disk hd ho hs)
        clear hd ho hs hkb hks hkc
        go_wp2_with fail
        refine (on_any g _ S8 _ SJ.out.sc.run.disk).mono ?_
        rintro e w9 ⟨rfl, S9, hd, ho, hs⟩
        have SK := Lib.hid (SJ.out.disk hd ho hs)
        clear hd ho hs SJ SI
        obtain ⟨s1, hs1, hcls, hl1⟩ := loose_settled HL60.out (loose_cut HL.out x.keep)
        rw [hs1] at SK
        have HCL := Lib.hid hcls
        have HL1 := Lib.hid hl1
        clear hs1 hcls hl1 HL HFit
        by_cases hgo : k + 1 < n2 ∧ k < 5
        · obtain ⟨hlt1, h5⟩ := hgo
          have hlt1i : (k : Int) + 1 < (n2 : Int) := by omega
          have h5i : (k : Int) < 5 := by omega
          obtain ⟨y, hy⟩ : ∃ y, F[k + 1]? = some y := ⟨F[k + 1]'(by have := HFL.out; omega), List.getElem?_eq_getElem _⟩
          have hyc := (HCE.out _ SK.out.sc.run.below (k + 1) 0 y hy (by omega))
          simp only [failC, List.getElem?_cons_zero, Nat.add_zero] at hyc
          have hfew := (G2.out y (List.mem_of_getElem? hy)).few
          clear hy
          go_wp2_with fail
          refine (budget_yes g ((y.n % 100 : Nat) : Int) _ S9 _ SK.out.sc.run.disk (by omega) (by omega)).mono ?_
          rintro e w10 ⟨rfl, S10, hd, ho, hs⟩
          have SL := Lib.hid (SK.out.disk hd ho hs)
          clear hd ho hs SK hyc
          have CR := Lib.hid (recover_any g _ S10 w10 SL.out.sc.run.disk (by simp))
          have HLR := Lib.hid (loose_recover (b := ((y.n % 100 : Nat) : Int)) HMB.out (by rw [HL60.out]; omega) (by rw [HL60.out]; omega) HCL.out)
          have HFR := Lib.hid (show Fit 60 200 (recoverOf ⟨s1, [], true, ((y.n % 100 : Nat) : Int)⟩).2.2 from (Fit.recover (show Fit 60 0 ⟨s1, [], true, ((y.n % 100 : Nat) : Int)⟩ from ⟨HL1.out, Nat.le_refl _⟩)).le (by omega))
          dsimp only at CR
          unfold RecTo at CR
          generalize recoverOf ⟨s1, [], true, ((y.n % 100 : Nat) : Int)⟩ = z at *
          obtain ⟨z0, z1, z2⟩ := z
          dsimp only at CR HLR HFR
          go_wp2_with fail
          refine (CR.out).mono ?_
          rintro e w11 ⟨rfl, S11, hd, ho, hs⟩
          have SM := Lib.hid (SL.out.disk hd ho hs)
          clear hd ho hs CR SL
          go_wp2
          go_roundw
          case rel => exact ⟨k + 1, S11, z2, by omega, by omega, by go_num, SM.out, HLR.out, HFR.out⟩
          case measure => simp [intOf]; omega
        · have HFR := Lib.hid (show Fit 60 200 ⟨s1, [], true, -1⟩ from ⟨HL1.out, Nat.zero_le _⟩)
          by_cases hlt1 : k + 1 < n2
          · obtain rfl : k = 5 := by omega
            have hlt1i : (5 : Int) + 1 < (n2 : Int) := by omega
            clear hgo
            go_wp2
            go_roundw
            case rel => exact ⟨6, S9, _, by omega, by omega, by go_num, SK.out, loose_still HCL.out, HFR.out⟩
            case measure => simp [intOf]; omega
          · have hlt1i : ¬ (k : Int) + 1 < (n2 : Int) := by omega
            clear hgo
            go_wp2
            go_roundw
            case rel => exact ⟨k + 1, S9, _, by omega, by omega, by go_num, SK.out, loose_still HCL.out, HFR.out⟩
            case measure => simp [intOf]; omega
      · by_cases hlt : k < n2
        · obtain rfl : k = 6 := by omega
          have hlti : (6 : Int) < (n2 : Int) := by omega
          clear hgo
          go_wp2
          go_meet
          exact ⟨S, D, SI.out, HL.out, HFit.out⟩
        · obtain rfl : k = n2 := by omega
          clear hgo hlt
          go_wp2
          go_meet
          exact ⟨S, D, SI.out, HL.out, HFit.out⟩
  case rest =>
  obtain ⟨S8, D8, hsc, hlo, hfi⟩ := hcut
  obtain ⟨we, rfl⟩ : ∃ we : World, we = wc := ⟨_, rfl⟩
  have SN := Lib.hid hsc
  have HL := Lib.hid hlo
  clear hsc hlo hfi SG HLO HFI
  go_wp2_with fail
  refine (on_any g _ S8 _ SN.out.sc.run.disk).mono ?_
  rintro e w8 ⟨rfl, S9, hd, ho, hs⟩
  have SO := Lib.hid (SN.out.disk hd ho hs)
  clear hd ho hs SN
  obtain ⟨s1, hs1, hcls, hl1⟩ := loose_settled HL60.out HL.out
  rw [hs1] at SO
  obtain ⟨y, s2, hr1, hr2, hdn⟩ := loose_done HMB.out (by rw [HL60.out]; omega) (by rw [HL60.out]; omega) hcls
  have CR := Lib.hid (recover_any g _ S9 w8 SO.out.sc.run.disk (by simp))
  unfold RecTo at CR
  rw [hr1] at CR
  dsimp only at CR
  have HR2 := Lib.hid hr2
  obtain ⟨hl2, hor⟩ := done_or HL60.out hdn
  have HL2 := Lib.hid hl2
  have HOR := Lib.hid hor
  clear hs1 hcls hl1 hr1 hr2 hdn hl2 hor HL
  go_wp2_with fail
  refine (CR.out).mono ?_
  rintro e w9 ⟨rfl, S10, hd, ho, hs⟩
  have SP := Lib.hid (SO.out.disk hd ho hs)
  clear hd ho hs SO CR
  have CR := Lib.hid (recover_any g _ S10 w9 SP.out.sc.run.disk (by simp))
  unfold RecTo at CR
  rw [HR2.out] at CR
  dsimp only at CR
  go_wp2_with fail
  refine (CR.out).mono ?_
  rintro e w10 ⟨rfl, S11, hd, ho, hs⟩
  have SQ := Lib.hid (SP.out.disk hd ho hs)
  clear hd ho hs SP CR HR2
  go_wp2
  go_loopw [18, 19, 20] (fun s18 s19 s20 wr => ∃ (k : Nat) (o nw : Bool), 41 ≤ k ∧ k ≤ 60 ∧ s20 = .int .i64 k ∧ s18 = .bool o ∧ s19 = .bool nw ∧ (PO s0 s2 → o = true) ∧ (PN A s0 s2 → nw = true) ∧ SceneS w wr S11 g ⟨s2, [], true, -1⟩ U p1 m1 d1 M1 (.slice aw 60 cw) s0) (fun _ _ s20 _ => 60 - (intOf s20).toNat)
  case atStart => exact ⟨41, true, true, by omega, by omega, rfl, rfl, rfl, fun _ => rfl, fun _ => rfl, SQ.out⟩
  case round =>
    obtain ⟨k, o, nw, hk1, hk2, rfl, rfl, rfl, hpo, hpn, hsc⟩ := hrel
    have HPO := Lib.hid hpo
    have HPN := Lib.hid hpn
    have SR := Lib.hid hsc
    clear hpo hpn hsc SQ
    by_cases h60 : k < 60
    · have h60i : (k : Int) < 60 := by omega
      go_wp2_with fail
      refine (read_yes g k _ S11 _ SR.out.sc.run.disk (by rw [HL2.out]; exact h60) rfl).mono ?_
      rintro e w11 ⟨a9, c9, rfl, hr, hb, hn⟩
      rw [content_still] at hr
      have ST := Lib.hid (SR.out.quiet hb)
      have HC9 := Lib.hid hr
      obtain ⟨gw, cw', hvw, hcw⟩ := ST.out.strs.cell (by rw [HL60.out]; omega)
      rw [HL60.out] at hvw
      simp only [Value.slice.injEq, true_and] at hvw
      obtain ⟨rfl, rfl⟩ := hvw
      have cwk := hcw k (by rw [HL60.out]; exact h60)
      have HWI := Lib.hid (show s0.getD k [] = s0[k]'(by rw [HL60.out]; exact h60) by rw [List.getD, List.getElem?_eq_getElem]; rfl)
      have HPO' := Lib.hid (show PO s0 s2 → s2.getD k [] = s0[k]'(by rw [HL60.out]; exact h60) from fun h => by rw [h k hk1 h60, HWI.out])
      have HPN' := Lib.hid (show PN A s0 s2 → s2.getD k [] = Dk.over (asW (A.take m1)) k (s0[k]'(by rw [HL60.out]; exact h60)) from fun h => by rw [h k hk1 h60, HWI.out, List.take_of_length_le (by rw [HA1.out]; exact Nat.le_refl _)])
      clear hr hb hn hcw HWI SR
      generalize s2.getD k [] = c at *
      generalize s0[k]'(by rw [HL60.out]; exact h60) = wi at *
      go_wp2
      have CWK := Lib.hid cwk
      clear cwk
      go_loopw [23, 24] (fun s23 s24 wr => ∃ (m : Nat), m ≤ m1 ∧ s24 = .int .i64 m ∧ s23 = .string ⟨(Dk.over (asW (A.take m)) k wi).toArray⟩ ∧ wr = w11) (fun _ s24 _ => m1 - (intOf s24).toNat)
      case atStart => exact ⟨0, Nat.zero_le _, rfl, rfl, rfl⟩
      case round =>
        obtain ⟨m, hm, rfl, rfl, rfl⟩ := hrel
        by_cases hlt : m < m1
        · have hlti : (m : Int) < (m1 : Int) := by omega
          obtain ⟨b3, off3, rfl, _, hcell⟩ := ST.out.sc.puts.at (by omega)
          obtain ⟨d0c, d1c, _⟩ := hcell m hlt
          rw [Nat.add_zero] at d0c
          have hmem := ST.out.sc.puts.mem m hlt
          have hby := ST.out.sc.puts.bytes _ hmem
          have hpt : A.getD m (0, []) = (M1.getD m default).pt := by rw [← HM1.out]; exact pts_getD M1 m (by rw [ST.out.sc.puts.mlen]; exact hlt)
          have HOV := Lib.hid (over_take A m k (by rw [HA1.out]; exact hlt) wi)
          rw [hpt] at HOV
          have hvb := hby.conv
          clear hcell hmem hpt
          generalize M1.getD m default = x at *
          by_cases hat : x.at_ = (k : Int)
          · have hab : (x.at_ == (k : Int)) = true := by simpa using hat
            have HOV2 := Lib.hid (show Dk.over (asW (A.take (m + 1))) k wi = x.b by rw [HOV.out]; exact if_pos (by show x.at_.toNat = k; omega))
            clear hat
            go_wp2
            go_roundw
            case rel => exact ⟨m + 1, by omega, by go_num, by rw [HOV2.out], trivial⟩
            case measure => simp [intOf]; omega
          · have hab : (x.at_ == (k : Int)) = false := by simpa using hat
            have HOV2 := Lib.hid (show Dk.over (asW (A.take (m + 1))) k wi = Dk.over (asW (A.take m)) k wi by rw [HOV.out]; exact if_neg (by show ¬ x.at_.toNat = k; omega))
            clear hat
            go_wp2
            go_roundw
            case rel => exact ⟨m + 1, by omega, by go_num, by rw [HOV2.out], trivial⟩
            case measure => simp [intOf]; omega
        · obtain rfl : m = m1 := by omega
          clear hlt
          have HQN := HPN'
          clear HPN'
          generalize Dk.over (asW (A.take m)) k wi = want at *
          cases o with
          | true =>
            go_wp2
            refine region_head 11 [0, 1, 2, 3, 4, 5, 6, 7, 8, 9, 10] [] (fun u : World => BytesAt u a9 128 c9 c ∧ u.cell? ⟨gw, k, none⟩ = some (.string ⟨wi.toArray⟩)) (by kernel_rfl) (by kernel_rfl) ⟨HC9.out, CWK.out⟩ ?_
            simp only [pickO, List.append_eq, List.cons_append, List.nil_append, List.filterMap_cons, List.filterMap_nil, List.getElem?_cons_zero, List.getElem?_cons_succ, Option.map_some, List.drop_succ_cons, List.drop_zero]
            iterate 11
              refine seqH_readG _ rfl (by rfl) (by rintro u ⟨hu0, hu1⟩; have vb := hu0.conv; clear hu0; go_simp; with_reducible rfl) ?_
              try simp only [Act.put, List.setIfInBounds_toArray, List.set_cons_zero, List.set_cons_succ]
            refine seqH_nil ?_
            cases nw with
            | true =>
              have hvz := (HC9.out.below ((Below.refl _ _).drew)).conv
              go_wp2
              go_roundw
              case rel => exact ⟨k + 1, (c == wi), (c == want), by omega, by omega, by go_num, rfl, rfl, fun h => beq_iff_eq.2 (HPO'.out h), fun h => beq_iff_eq.2 (HQN.out h), ST.out.quiet ((Below.refl _ _).drew)⟩
              case measure => simp [intOf]; omega
            | false =>
              have hvz := (HC9.out.below ((Below.refl _ _).drew)).conv
              go_wp2
              go_roundw
              case rel => exact ⟨k + 1, (c == wi), false, by omega, by omega, by go_num, rfl, rfl, fun h => beq_iff_eq.2 (HPO'.out h), HPN.out, ST.out.quiet ((Below.refl _ _).drew)⟩
              case measure => simp [intOf]; omega
          | false =>
            go_wp2
            refine region_head 11 [0, 1, 2, 3, 4, 5, 6, 7, 8, 9, 10] [] (fun u : World => BytesAt u a9 128 c9 c ∧ u.cell? ⟨gw, k, none⟩ = some (.string ⟨wi.toArray⟩)) (by kernel_rfl) (by kernel_rfl) ⟨HC9.out, CWK.out⟩ ?_
            simp only [pickO, List.append_eq, List.cons_append, List.nil_append, List.filterMap_cons, List.filterMap_nil, List.getElem?_cons_zero, List.getElem?_cons_succ, Option.map_some, List.drop_succ_cons, List.drop_zero]
            iterate 2
              refine seqH_readG _ rfl (by rfl) (by rintro u ⟨hu0, hu1⟩; have vb := hu0.conv; clear hu0; go_simp; with_reducible rfl) ?_
              try simp only [Act.put, List.setIfInBounds_toArray, List.set_cons_zero, List.set_cons_succ]
            iterate 7
              refine seqH_skip rfl (by rfl) ?_
              try simp only [Act.put, List.setIfInBounds_toArray, List.set_cons_zero, List.set_cons_succ]
            iterate 2
              refine seqH_readG _ rfl (by rfl) (by rintro u ⟨hu0, hu1⟩; have vb := hu0.conv; clear hu0; go_simp; with_reducible rfl) ?_
              try simp only [Act.put, List.setIfInBounds_toArray, List.set_cons_zero, List.set_cons_succ]
            refine seqH_nil ?_
            cases nw with
            | true =>
              have hvz := (HC9.out.below ((Below.refl _ _).drew)).conv
              go_wp2
              go_roundw
              case rel => exact ⟨k + 1, false, (c == want), by omega, by omega, by go_num, rfl, rfl, HPO.out, fun h => beq_iff_eq.2 (HQN.out h), ST.out.quiet ((Below.refl _ _).drew)⟩
              case measure => simp [intOf]; omega
            | false =>
              have hvz := (HC9.out.below ((Below.refl _ _).drew)).conv
              go_wp2
              go_roundw
              case rel => exact ⟨k + 1, false, false, by omega, by omega, by go_num, rfl, rfl, HPO.out, HPN.out, ST.out.quiet ((Below.refl _ _).drew)⟩
              case measure => simp [intOf]; omega
    · obtain rfl : k = 60 := by omega
      rcases HOR.out with hN | ⟨he, hO⟩
      · obtain rfl : nw = true := HPN.out hN
        clear hN HOR
        go_wp2_with fail
        refine (awake04 _).mono ?_
        rintro e w12 ⟨rfl, hb⟩
        go_wp2
        go_ret
        exact ⟨rfl, SR.out.sc.run.below.trans (hb.mono SR.out.sc.run.below.size)⟩
      · obtain rfl : o = true := HPO.out hO
        have heb : (e0 == 0) = false := by simpa using he
        have he' : ¬ e0 = 0 := he
        clear hO he HOR
        cases nw with
        | true =>
          go_wp2_with fail
          refine (awake04 _).mono ?_
          rintro e w12 ⟨rfl, hb⟩
          go_wp2
          go_ret
          exact ⟨rfl, SR.out.sc.run.below.trans (hb.mono SR.out.sc.run.below.size)⟩
        | false =>
          go_wp2_with fail
          refine (awake04 _).mono ?_
          rintro e w12 ⟨rfl, hb⟩
          go_wp2
          go_ret
          exact ⟨by show Ending.returned (.bool (e0 != 0)) = _; rw [show (e0 != 0) = true from bne_iff_ne.2 he'], SR.out.sc.run.below.trans (hb.mono SR.out.sc.run.below.size)⟩

theorem own : ownKnob Try.prog.godebug = none := by kernel_rfl
theorem laidOut : laidOutB Try.prog = true := by kernel_rfl

set_option maxRecDepth 100000 in
theorem lifted (os : Os) (started : os.Started) (H : Type) (enc : TypeId × Value → H) :
    ReturnsInHanded {} Try.checked os 5 .any (Rows.journalAllSpec.pre6 enc Try.prog Try.f5 Rows.journalAllRow.domain false) (Rows.journalAllSpec.post enc Try.prog Try.f5 false true false false) := by
  refine returnsInHanded_of_change (C := Try.checked) own started (by kernel_rfl) Try.func5
    (ChangeSpec.witness6 (enc := enc) (C := Try.checked) false ⟨#[], #[.slice none 0 0, .slice none 0 0, .slice none 0 0], []⟩ 8 (by kernel_rfl) (by kernel_rfl) (by kernel_rfl) (by kernel_rfl)) ?_
  intro W base args ds gs before hval0 hW hcnd _
  have hval : ∀ (j : Nat) t v, Try.f5.params[j]? = some t → args[j]? = some v → Value.okWide Try.prog W .any base t v := hval0
  have hW' := hW
  obtain ⟨p, q, hA0, hV, rfl, hfz, hnd⟩ := hW
  have hA : DataW.TrodAll enc Try.prog W 0 (fun _ => true) true Try.f5.params.toList args.toList ds p := hA0
  rw [Try.params5] at hA hval
  obtain ⟨v0, vs0, d0, ds0, p0, q0, hargs, rfl, rfl, h0, r0⟩ := trodAll_cons hA
  obtain ⟨v1, vs1, d1, ds1, p1, q1, rfl, rfl, rfl, h1, r1⟩ := trodAll_cons r0
  obtain ⟨v2, vs2, d2, ds2, p2, q2, rfl, rfl, rfl, h2, r2⟩ := trodAll_cons r1
  obtain ⟨rfl, rfl, rfl⟩ := trodAll_nil r2
  obtain rfl : args = #[v0, v1, v2] := by cases args; simp_all
  obtain ⟨rfl, rfl⟩ := trodVars_none hV
  have k0 := h0
  have lt0 : ∀ x ∈ p0, x.block < W.heap.size := by obtain ⟨m, hm⟩ := k0; exact DataW.trod_lt m _ _ _ hm
  obtain ⟨a0, len0, cap0, l0, rfl, w0, g0⟩ := puts_of (hval 0 22 v0 rfl rfl) h0
  have k1 := h1
  have lt1 : ∀ x ∈ p1, x.block < W.heap.size := by obtain ⟨m, hm⟩ := k1; exact DataW.trod_lt m _ _ _ hm
  obtain ⟨a1, len1, cap1, l1, rfl, w1, g1⟩ := puts_of (hval 1 22 v1 rfl rfl) h1
  have k2 := h2
  have lt2 : ∀ x ∈ p2, x.block < W.heap.size := by obtain ⟨m, hm⟩ := k2; exact DataW.trod_lt m _ _ _ hm
  obtain ⟨a2, len2, cap2, l2, rfl, w2, g2⟩ := fails_of (hval 2 62 v2 rfl rfl) h2
  clear hA0 hval0
  refine (walk a0 len0 cap0 l0 a1 len1 cap1 l1 a2 len2 cap2 l2 W w0 g0 w1 g1 w2 g2).mono fun e W' ⟨he, bel⟩ => ?_
  subst he
  exact ⟨_, rfl, _, _, _, [], _, [], hW', trodAll_mk1 (shut_bool Try.underlying4 _), (trodAll_cons_mk (Below.trod laidOut (by kernel_rfl) (of_decide_eq_true (by kernel_rfl)) k0 bel lt0) (trodAll_cons_mk (Below.trod laidOut (by kernel_rfl) (of_decide_eq_true (by kernel_rfl)) k1 bel lt1) (trodAll_cons_mk (Below.trod laidOut (by kernel_rfl) (of_decide_eq_true (by kernel_rfl)) k2 bel lt2) trodAll_mk0))), rfl, bel.frame _, fun h => by cases h⟩

theorem proved : Rows.JournalAllSaid :=
  OpenClaim.holds_of_wide 5 Try.f5 rfl rfl rfl rfl rfl rfl rfl ⟨rfl, rfl, rfl, rfl, rfl⟩ rfl rfl rfl rfl rfl (by kernel_rfl) Try.func5 (by kernel_rfl)
    (of_decide_eq_true (by kernel_rfl)) (by unfold Func.isWrapper; first | (rw [if_pos (by decide +kernel)]; kernel_rfl) | (rw [if_neg (by decide +kernel)]; exact ⟨rfl, rfl⟩))
    (fun os started H enc _ => lifted os started H enc)
end Go.Proofs.Ytinfgfgmijjhjaa.journalAll
