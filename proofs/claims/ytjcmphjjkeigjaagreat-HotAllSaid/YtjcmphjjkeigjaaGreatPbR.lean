/-
  All or nothing: whatever batches went ahead, whenever the power fails within one, and however often while it is opened, whatever cuts keep: what is opened has all its changes, or none (P7.4).
  No condition: every slice of changes and of failures.
-/
import Derived.Test.YtjcmphjjkeigjaaGreatPbI
import Derived.Test.YtjcmphjjkeigjaaGreatPbN
import Derived.Test.YtjcmphjjkeigjaaGreatPbQ
import Derived.Deep.DeepCutAuto
import Derived.Deep.CutBlock

namespace Go.Proofs.YtjcmphjjkeigjaaGreat
set_option linter.unusedVariables false
set_option linter.unusedSimpArgs false

abbrev dkB (s : List (List UInt8)) (b : Int) : Dk := ⟨s, [], true, b⟩

/-! ### what a commit may answer -/
def Code10 (x : Int × Dk) : Prop := x.1 = 0 ∨ x.1 = 10
theorem pair_code (L : List Pt) (r : List Stp) (s : List (List UInt8)) (b : Int) (hf : Fits L s.length) (hr : ∀ b', Code10 (plays r ⟨lay L s, [], true, b'⟩)) : Code10 (plays (.write L :: .flush :: r) ⟨s, [], true, b⟩) := by
  obtain ⟨k, q, p, b', he, hc⟩ := wrs_any L s [] b hf
  have hw : (Stp.write L).play ⟨s, [], true, b⟩ = (q, ⟨s, asW (L.take k), p, b'⟩) := by show wrsOf _ _ = _; rw [he]; rfl
  rcases hc with ⟨rfl, rfl, rfl⟩ | rfl
  · rw [plays_yes _ (by rw [hw]), hw]
    rw [List.take_length]
    by_cases hb : b' = 0
    · have hfl : (Stp.flush).play ⟨s, asW L, true, b'⟩ = (10, ⟨s, asW L, false, b'⟩) := fl_rec_off _ _ _ _ (.inr hb)
      rw [plays_no _ (by rw [hfl]; simp), hfl]
      exact .inr rfl
    · have hfl : (Stp.flush).play ⟨s, asW L, true, b'⟩ = (0, ⟨lay L s, [], true, pay b'⟩) := fl_rec _ _ _ hb
      rw [plays_yes _ (by rw [hfl]), hfl]
      exact hr _
  · rw [plays_no _ (by rw [hw]; simp), hw]
    exact .inr rfl
theorem commit_code (l : List Pt) (s0 : List (List UInt8)) (b : Int) (hm : mayB l s0.length = true) (hn : 41 < s0.length) : Code10 (commitOf (dkB s0 b) l) := by
  have hmp := (may_iff _ _).1 hm
  have hfew := hmp.few
  unfold commitOf
  rw [if_pos hm]
  unfold commitR
  refine pair_code _ _ _ _ (fits_copies hmp hn) fun b1 => pair_code _ _ _ _ (by rw [lay_len]; exact fits_head l _ hfew hn) fun b2 => pair_code _ _ _ _ (by rw [lay_len, lay_len]; exact fits_may hmp) fun b3 => pair_code _ _ _ _ (by rw [lay_len, lay_len, lay_len]; exact fits_zero _ hn) fun b4 => .inl rfl

/-! ### what a store is, whatever the budget -/
theorem stored_dkB {n : Nat} {s : List (List UInt8)} {h : Ht} (k : Lies n s h) (b : Int) (q : Nat) : getOf (dkB s b) h q = match atL h.at_ q with
    | none => (6, [])
    | some x => (0, x.data) := get_stored (D := dkB s b) k.ok (show StoredB (dkB s b).content h from k.st.b) rfl q
theorem reads_budget {n : Nat} {s : List (List UInt8)} {h : Ht} (k : Lies n s h) {L : List KD} (hL : L.Perm (kdL h)) (b : Int) : readsB (dkB s b) h L = true := by
  rw [← reads_lies k hL]
  unfold readsB
  have : (fun x : KD => getOf (dkB s b) h x.1 == (0, x.2)) = fun x => getOf (dkS s) h x.1 == (0, x.2) := funext fun x => by rw [stored_dkB k b, lies_get k]; cases atL h.at_ x.fst <;> rfl
  rw [this]

/-- a batch, on any budget -/
theorem lies_budget {n : Nat} {s : List (List UInt8)} {h : Ht} (k : Lies n s h) (b : Int) (l : List Chg) (hid : ∀ c ∈ l, c.id < 18446744073709551616) :
    ∃ e D' h', batchOf (dkB s b) h l = (e, D', h') ∧
      (((e = 1 ∨ e = 5 ∨ e = 6) ∧ D' = dkB s b ∧ h' = h) ∨ ((e = 0 ∨ e = 10) ∧ ∃ x P q, Planned h l P x q ∧ mayC l = true ∧ noneC h.at_ l = false ∧ Loose e q s D' ∧ mayB q (n : Int) = true)) := by
  unfold batchOf
  by_cases hm : mayC l = false
  · rw [if_pos hm]
    exact ⟨1, _, h, rfl, .inl ⟨.inl rfl, rfl, rfl⟩⟩
  · rw [if_neg hm]
    have hm : mayC l = true := by simpa using hm
    by_cases hno : noneC h.at_ l = true
    · rw [if_pos hno]
      exact ⟨6, _, h, rfl, .inl ⟨.inr (.inr rfl), rfl, rfl⟩⟩
    · rw [if_neg hno]
      have hno : noneC h.at_ l = false := by simpa using hno
      cases hpl : planOf h l with
      | none => exact ⟨5, _, h, rfl, .inl ⟨.inr (.inl rfl), rfl, rfl⟩⟩
      | some x =>
        obtain ⟨x, q⟩ := x
        obtain ⟨P, hP⟩ := plan_ok k.ok.pre hm hno hid hpl
        have hmay := hP.may hm
        rw [k.len] at hmay
        have hlow := k.low
        have hc := commit_code q s b (by rw [k.base.len]; exact hmay) (by rw [k.base.len]; omega)
        have hl := loose_commit q s b (by rw [k.base.len]; exact hmay) (by rw [k.base.len]; omega) k.base.head
        exact ⟨_, _, _, rfl, .inr ⟨hc, x, P, q, hP, hm, hno, hl, hmay⟩⟩
theorem loose_len {e : Int} {q : List Pt} {s : List (List UInt8)} {D : Dk} (h : Loose e q s D) : D.secs.length = s.length := by
  have h1 := h fun _ => false
  have h2 : (Dk.laid (fun _ => false) D.waits D.secs).length = D.secs.length := Dk.laid_length _ _ _
  rcases h1 with h1 | ⟨_, h1 | h1⟩
  · rw [← h2]; exact h1.len
  · rw [← h2]; exact h1.len
  · rw [← h2]; exact h1.len
theorem loose_open {e : Int} {q : List Pt} {s s1 : List (List UInt8)} {b : Int} (hm : mayB q s.length = true) (hn : 41 < s.length) (hs : s.length ≤ 2048) (h : ClsS e q s s1) : Loose e q s (openOf (dkB s1 b)).2.2 := by
  have hr := loose_recover (b := b) hm hn hs h
  unfold openOf
  split
  · exact loose_still h
  · split
    · exact hr
    · split
      · exact hr
      · exact hr
/-- what is opened, when all is on again: all the changes, or none -/
theorem lies_after {n : Nat} {s s1 : List (List UInt8)} {h x : Ht} {l : List Chg} {P : List Nat} {q : List Pt} {e : Int} (k : Lies n s h) (hP : Planned h l P x q) (hm : mayC l = true) (hc : ClsS e q s s1) :
    ∃ h2 s2, openOf (dkS s1) = (0, some h2, dkS s2) ∧ Lies n s2 h2 ∧ (h2 = x ∨ (e ≠ 0 ∧ h2 = h)) := by
  have hmay := hP.may hm
  rw [k.len] at hmay
  have hlow := k.low
  have hhigh := k.high
  have hsl := k.base.len
  obtain ⟨m, s2, hr, _, hd⟩ := loose_done (by rw [hsl]; exact hmay) (by omega) (by omega) hc
  have hopen : ∀ h2, Lies n s2 h2 → openOf (dkS s1) = (0, some h2, dkS s2) := fun h2 k2 => by
    have hload : loadOf (dkS s2) = some h2 := load_stored (D := dkS s2) k2.ok (show Stored (dkS s2).content h2 from k2.st) (by show h2.used.length + 42 = s2.length; rw [k2.len, k2.base.len])
    have h1 : s1.length = n := by
      have := loose_len (loose_still (p := true) (b := 0) hc)
      rw [← hsl]; exact this
    unfold openOf
    rw [if_neg (by show ¬ s1.length < 44; omega), show recoverOf (dkS s1) = (m, 0, dkS s2) from hr]
    dsimp only
    rw [if_neg (by simp), hload]
  rcases hd with hd | ⟨he, hd⟩
  · have hl2 : Lies n s2 x := ⟨⟨hd.len.trans hsl, hd.head⟩, hP.ok, by rw [hP.len]; exact k.len, hP.stored k.ok.pre hm k.st.b fun j h1 h2 => hd.home j h1 (by rw [hsl, ← k.len]; exact h2), k.low, k.high⟩
    exact ⟨x, s2, hopen x hl2, hl2, .inl rfl⟩
  · have hl2 : Lies n s2 h := ⟨⟨hd.len.trans hsl, hd.head⟩, k.ok, k.len, ⟨⟨fun y hy j hj => (hd.home _ (by omega)).trans (k.st.b.blob y hy j hj), k.st.b.sum⟩, (hd.home _ (by omega)).trans k.st.super, fun j hj => (hd.home _ (by omega)).trans (k.st.dir j hj), k.st.few⟩, k.low, k.high⟩
    exact ⟨h, s2, hopen h hl2, hl2, .inr ⟨he, rfl⟩⟩
end Go.Proofs.YtjcmphjjkeigjaaGreat

namespace Go.Proofs.YtjcmphjjkeigjaaGreat
open Go.RowKit
set_option linter.unusedVariables false
set_option linter.unusedSimpArgs false
set_option maxRecDepth 100000

theorem loose_on1 {e : Int} {q : List Pt} {s : List (List UInt8)} {D : Dk} (h : Loose e q s D) : ∃ s1, D.on = dkS s1 ∧ ClsS e q s s1 := ⟨_, rfl, h fun _ => false⟩
/-- blocks that stay as they are while a disk is at work -/
structure Fz (V : Nat → Prop) (wc w : World) (S : Nat → Prop) : Prop where
  lt : ∀ q, V q → q < wc.heap.size
  size : wc.heap.size ≤ w.heap.size
  same : ∀ q, V q → w.heap[q]? = wc.heap[q]?
  off : ∀ q, S q → ¬ V q
section
variable {V S S' : Nat → Prop} {wc w w' : World}
theorem Fz.quiet (k : Fz V wc w S) (hb : Below w.heap.size w w') : Fz V wc w' S := ⟨k.lt, Nat.le_trans k.size hb.size, fun q hq => (hb.block q (Nat.lt_of_lt_of_le (k.lt q hq) k.size)).trans (k.same q hq), k.off⟩
theorem Fz.next {T : Nat → Prop} (k : Fz V wc w S) (ho : Only T w w') (hT : ∀ q, T q → ¬ V q) (hs : ∀ q, S' q → S q ∨ w.heap.size ≤ q) : Fz V wc w' S' := by
  refine ⟨k.lt, Nat.le_trans k.size ho.size, fun q hq => (ho.block q (Nat.lt_of_lt_of_le (k.lt q hq) k.size) fun e => hT q e hq).trans (k.same q hq), fun q hq hV => ?_⟩
  rcases hs q hq with e | e
  · exact k.off q e hV
  · have := k.lt q hV; have := k.size; omega
end
section
variable {w w' : World} {S U S' : Nat → Prop} {g gd : Nat} {D D' : Dk} {h : Ht}
theorem HotAt.redisk2 (k : HotAt w S U g gd D h) (hd : DiskAt w' S' gd D') (hl : D'.secs.length = D.secs.length) (ho : Only S w w') (hs : ∀ q, S' q → S q ∨ w.heap.size ≤ q) : HotAt w' S' U g gd D' h := by
  obtain ⟨mb, da, dn, dc, ba, bn, bc, M, hg, hv⟩ := k.ex
  refine ⟨hd, ⟨mb, da, dn, dc, ba, bn, bc, M, (ho.block g k.lt k.offS).trans hg, hv.only ho k.apart⟩, fun q hq hq' => ?_, fun hq => ?_, k.offU, by rw [hl]; exact k.size⟩
  · rcases hs q hq' with h1 | h1
    · exact k.apart q hq h1
    · have := hv.lt q hq; omega
  · rcases hs g hq with h1 | h1
    · exact k.offS h1
    · have := k.lt; omega
end
set_option maxHeartbeats 8000000 in
theorem hotall_any (a : Option Addr) (n cap : Nat) (P : List (List ChgM)) (a1 : Option Addr) (n1 c1 : Nat) (M1 : List ChgM) (a2 : Option Addr) (n2 c2 : Nat) (F : List FailM) (w : World) (hP : GrpsC w a n cap P) (hM1 : ChgsR w a1 n1 c1 M1) (h2 : CameAt failC 2 w a2 n2 c2 F) (g2 : ∀ x ∈ F, x.Good w) :
    Calls Tryz.prog 4 #[.slice a n cap, .slice a1 n1 c1, .slice a2 n2 c2] w fun e w' => e = .returned (.bool true) ∧ Below w.heap.size w w' := by
  have HP := Lib.hid hP
  have CW := Lib.hid (fun u => awake07 u)
  have hnl := hP.len
  have H2' := Lib.hid h2
  have G2 := Lib.hid g2
  have hm2 : n2 ≤ 9223372036854775807 := by have := h2.2.1; have := h2.2.2.1; unfold maxLen at *; omega
  have CFL := Lib.hid (fun u (hu : Below w.heap.size w u) => few7_any a1 n1 c1 M1 u (hM1.below hu))
  have hlc : (fewC (M1.map (·.c))).length ≤ 12 := by unfold fewC; rw [List.length_map, List.length_take]; omega
  have HLC := Lib.hid hlc
  clear hP hM1 h2 g2 hlc
  generalize fewC (M1.map (·.c)) = C1 at *
  go_enter Tryz.func4, Tryz.ntmps4
  go_wp2_with fail
  refine (new_yes 90 w (by omega) (by omega)).mono ?_
  rintro e w1 ⟨gd, S1, rfl, hd1, hb1, hn1⟩
  have CF := Lib.hid (hs_format (w0 := w) hd1 (by omega) (by omega) hn1 hb1)
  clear hd1 hb1 hn1
  go_wp2_with fail
  refine CF.out.mono ?_
  rintro e w2 ⟨g, S, U, s, rfl, hh⟩
  have H2 := Lib.hid hh
  clear CF hh
  have hfk : (fmtH 90).at_ = [] := by rfl
  have hlp : ([] : List KD).Perm (kdL (fmtH 90)) := by unfold kdL; rw [hfk]; exact List.Perm.refl _
  have HLP := Lib.hid hlp
  clear hlp hfk
  go_upto_block 0 with (fail)
  go_cut [11] (fun s11 wx => ∃ (S U : Nat → Prop) (s : List (List UInt8)) (h : Ht) (av : Option Addr) (cv : Nat) (L : List KD), s11 = .slice av L.length cv ∧ Hs w wx 90 S U g gd s h ∧ Recs blobC wx 81 4 (.slice av L.length cv) L ∧ L.Perm (kdL h) ∧ (∀ q, (Value.slice av L.length cv).ownBlock = some q → ¬ S q ∧ q ≠ g ∧ w.heap.size ≤ q))
  case first =>
    go_wp2
    go_loopw [11, 12] (fun s11 s12 wr => ∃ (j : Nat) (S U : Nat → Prop) (s : List (List UInt8)) (h : Ht) (av : Option Addr) (cv : Nat) (L : List KD), s12 = .int .i64 j ∧ j ≤ n ∧ s11 = .slice av L.length cv ∧ Hs w wr 90 S U g gd s h ∧ Recs blobC wr 81 4 (.slice av L.length cv) L ∧ L.Perm (kdL h) ∧ (∀ q, (Value.slice av L.length cv).ownBlock = some q → ¬ S q ∧ q ≠ g ∧ w.heap.size ≤ q)) (fun _ s12 _ => n - (intOf s12).toNat)
    case atStart => exact ⟨0, S, U, s, fmtH 90, none, 0, [], rfl, Nat.zero_le _, rfl, H2.out, Recs.nil _ _ _ _, HLP.out, fun q hq => by simp [Value.ownBlock] at hq⟩
    case round =>
      clear HLP H2
      obtain ⟨j, S, U, s, h, av, cv, L, rfl, hj, rfl, hH, hR, hL, hown⟩ := hrel
      have H := Lib.hid hH
      have HR := Lib.hid hR
      have HL := Lib.hid hL
      have HOW := Lib.hid hown
      clear hH hR hL hown
      by_cases hlt : j < n ∧ j < 5
      · obtain ⟨hltn, hlt6⟩ := hlt
        have hji : (j : Int) < (n : Int) := by omega
        have hji6 : (j : Int) < (5 : Int) := by omega
        obtain ⟨b, off, rfl, hbl0, hcs⟩ := HP.out.at [] (by omega)
        have hcap := HP.out.caps
        have hcm := hcap.2
        unfold maxLen at hcm
        obtain ⟨⟨ra, rn, rc⟩, hcell, hE⟩ := hcs j hltn
        dsimp only at hcell hE
        generalize P.getD j [] = M at *
        have CFW := Lib.hid (fun u (hu : Below w.heap.size w u) => few7_any ra rn rc M u (hE.below hu))
        have HCE := Lib.hid (fun u (hu : Below w.heap.size w u) => show u.cell? ⟨b, off + j, none⟩ = some (.slice ra rn rc) from by rw [hu.cell (by exact hbl0)]; exact hcell)
        have hfc : (fewC (M.map (·.c))).length ≤ 12 := by unfold fewC; rw [List.length_map, List.length_take]; omega
        generalize fewC (M.map (·.c)) = C at *
        have x0 := HCE.out wr H.out.below
        clear hcs hE hcell
        go_wp2_with fail
        refine (CFW.out wr H.out.below).mono ?_
        rintro e w3 ⟨ca, cc, N, rfl, hNC, hNO, hb3⟩
        have HNC := Lib.hid hNC
        have H3 := Lib.hid (H.out.quiet hb3)
        have HR3 := Lib.hid (HR.out.below hb3)
        have hn12 : N.length ≤ 12 := by rw [← hNC, List.length_map] at hfc; exact hfc
        have CB := Lib.hid (hs_batch H3.out (hNO.into rfl) (by omega) (by intro c hc; obtain ⟨x, hx, rfl⟩ := List.mem_map.1 hc; exact hNO.id x hx))
        rw [hNC] at CB
        clear hNO hb3 hNC HNC x0
        generalize N.length = m at *
        go_wp2_with fail
        refine CB.out.mono ?_
        rintro e w5 ⟨r, s5, h5, S5, U5, rfl, hbo, hH5, hon, hs5, hu5, hor⟩
        have H5 := Lib.hid hH5
        have hR5 : Recs blobC w5 81 4 (.slice av L.length cv) L := HR3.out.keep fun q hq => hon.block q (HR3.out.lt q hq) (by rintro (e | e); exact (HOW.out q hq).2.1 e; exact (HOW.out q hq).1 e)
        have hown5 : ∀ q, (Value.slice av L.length cv).ownBlock = some q → ¬ S5 q ∧ q ≠ g ∧ w.heap.size ≤ q := fun q hq => ⟨fun e => by
          rcases hs5 q e with e | e
          · exact (HOW.out q hq).1 e
          · have := HR3.out.lt q hq; omega, (HOW.out q hq).2⟩
        have HR5 := Lib.hid hR5
        have HOW5 := Lib.hid hown5
        have HLF := Lib.hid (has_few H3.out.lies.ok HL.out)
        clear CB hbo hH5 hon hs5 hu5 hR5 hown5 H HR HOW H3 HR3
        rcases hor with ⟨rfl, hmy, hno, Pp, qq, hpl⟩ | ⟨hr0, rfl, rfl, _⟩
        · have HPM := Lib.hid (has_planned hpl hmy HL.out)
          clear hmy hno hpl
          have x0 := HCE.out w5 H5.out.below
          go_wp2_with fail
          refine (CFW.out w5 H5.out.below).mono ?_
          rintro e w6 ⟨ca2, cc2, N2, rfl, hNC2, hNO2, hb6⟩
          have H6 := Lib.hid (H5.out.quiet hb6)
          have HR6 := Lib.hid (HR5.out.below hb6)
          have hn13 : N2.length ≤ 12 := by rw [← hNC2, List.length_map] at hfc; exact hfc
          have CH := Lib.hid (hasB_any av cv L ca2 N2.length cc2 N2 w6 HR6.out HLF.out (hNO2.read rfl) hn13)
          rw [hNC2] at CH
          clear hNO2 hb6 H5 HR5 hNC2 x0
          generalize hasOf L C = L' at *
          generalize N2.length = m2 at *
          go_wp2_with fail
          refine CH.out.mono ?_
          rintro e w7 ⟨a6, c6, rfl, hr6, hb7, hw6⟩
          have H7 := Lib.hid (H6.out.quiet hb7)
          have HR7 := Lib.hid hr6
          have HW7 := Lib.hid hw6
          clear hr6 hb7 hw6
          go_wp2
          go_roundw
          case rel =>
            refine ⟨j + 1, S5, U5, s5, h5, a6, c6, L', by go_num, by omega, rfl, H7.out, HR7.out, HPM.out, fun q hq => ?_⟩
            rcases HW7.out q hq with e | e
            · refine ⟨fun e1 => ?_, ?_, ?_⟩
              · have := H6.out.hot.disk.lt q e1; omega
              · have := H6.out.hot.lt; omega
              · have := H6.out.below.size; omega
            · exact HOW5.out q e
          case measure => simp only [intOf]; omega
        · go_wp2
          go_roundw
          case rel => exact ⟨j + 1, S5, U5, s5, h5, av, cv, L, by go_num, by omega, rfl, H5.out, HR5.out, HL.out, HOW5.out⟩
          case measure => simp only [intOf]; omega
      · by_cases hltn : j < n
        · have hji : (j : Int) < (n : Int) := by omega
          have hji6 : ¬ (j : Int) < (5 : Int) := by omega
          go_wp2
          go_meet
          exact ⟨S, U, s, h, av, cv, L, rfl, H.out, HR.out, HL.out, HOW.out⟩
        · have hji : ¬ (j : Int) < (n : Int) := by omega
          go_wp2
          go_meet
          exact ⟨S, U, s, h, av, cv, L, rfl, H.out, HR.out, HL.out, HOW.out⟩
  case rest =>
    clear HLP H2 HP
    obtain ⟨S, U, s, h, av, cv, L, rfl, hH, hR, hL, hown⟩ := hcut
    obtain ⟨wa, hwa⟩ : ∃ x : World, x = wc := ⟨_, rfl⟩
    rw [← hwa] at hH hR ⊢
    have H := Lib.hid hH
    have HR := Lib.hid hR
    have HL := Lib.hid hL
    have HOW := Lib.hid hown
    clear hH hR hL hown hwa
    have CRD := Lib.hid (reads_any H.out.hot H.out.lies.ok av cv L HR.out (has_few H.out.lies.ok HL.out) (key_lt H.out.lies.ok HL.out))
    rw [reads_lies H.out.lies HL.out] at CRD
    go_wp2_with fail
    refine CRD.out.mono ?_
    rintro e w3 ⟨rfl, hb3⟩
    have H3 := Lib.hid (H.out.quiet hb3)
    have HR3 := Lib.hid (HR.out.below hb3)
    clear hb3 CRD H HR
    go_wp2_with fail
    refine (CFL.out w3 H3.out.below).mono ?_
    rintro e w4 ⟨la, lc, N, rfl, hNC, hNO, hb4⟩
    have H4 := Lib.hid (H3.out.quiet hb4)
    have HR4 := Lib.hid (HR3.out.below hb4)
    have hn12 : N.length ≤ 12 := by have := HLC.out; rw [← hNC, List.length_map] at this; exact this
    have HNC := Lib.hid hNC
    have HNO := Lib.hid hNO
    obtain ⟨V, hV⟩ : ∃ V : Nat → Prop, V = fun q => (Value.slice av L.length cv).ownBlock = some q ∨ (w3.heap.size ≤ q ∧ q < w4.heap.size) := ⟨_, rfl⟩
    have hfz : Fz V w4 w4 S := by
      refine ⟨fun q hq => ?_, Nat.le_refl _, fun _ _ => rfl, fun q hq hv => ?_⟩
      · rw [hV] at hq
        rcases hq with hq | hq
        · exact HR4.out.lt q hq
        · exact hq.2
      · rw [hV] at hv
        rcases hv with hv | hv
        · exact (HOW.out q hv).1 hq
        · have := H3.out.hot.disk.lt q hq; omega
    have hgV : ¬ V g := by
      rw [hV]
      rintro (hv | hv)
      · exact (HOW.out g hv).2.1 rfl
      · have := H3.out.hot.lt; omega
    have HVL := Lib.hid (show ∀ q, (Value.slice av L.length cv).ownBlock = some q → V q from fun q hq => by rw [hV]; exact .inl hq)
    have HVN := Lib.hid (show ∀ q, w3.heap.size ≤ q → q < w4.heap.size → V q from fun q h1 h2 => by rw [hV]; exact .inr ⟨h1, h2⟩)
    have HFZ := Lib.hid hfz
    have HGV := Lib.hid hgV
    have HWB := Lib.hid (show w.heap.size ≤ w3.heap.size from H3.out.below.size)
    have HGB := Lib.hid (show w.heap.size ≤ g from H4.out.nG)
    clear hfz hgV hV hNC hNO hb4 H3 HR3 CFL
    have HLIES := Lib.hid H4.out.lies
    generalize hnl : N.length = m at *
    have HNL := Lib.hid hnl
    clear hnl
    go_upto_if 71 with (fail)
    go_cut [] (fun wx => ∃ (S : Nat → Prop) (b : Int), HotAt wx S U g gd (dkB s b) h ∧ Run w wx S gd (dkB s b) ∧ Fz V w4 wx S)
    case first =>
      have R4 := Lib.hid (Run.mk H4.out.hot.disk H4.out.below H4.out.nS)
      by_cases hn : 0 < n2
      · have hni : (0 : Int) < (n2 : Int) := by omega
        have hL2 := H2'.out.below (by omega) H4.out.below
        obtain ⟨b2, off2, rfl, hbl, hcell⟩ := hL2.at (by omega) (by omega)
        obtain ⟨x, hx⟩ : ∃ x, F[0]? = some x := ⟨F[0]'(by have := hL2.1; omega), List.getElem?_eq_getElem _⟩
        have hc0 := hcell 0 0 x hx (by omega)
        have hfew := (G2.out x (List.mem_of_getElem? hx)).few
        simp only [Nat.zero_mul, Nat.add_zero, failC, List.getElem?_cons_zero] at hc0
        clear hL2 hcell hx hbl
        go_wp2_with fail
        refine (budget_yes gd ((x.n % 100 : Nat) : Int) _ S _ R4.out.disk (by omega) (by omega)).mono ?_
        rintro e w5 ⟨rfl, S5, hd, ho, hs⟩
        have R5 := Lib.hid (R4.out.to hd ho hs)
        have F5 := Lib.hid (HFZ.out.next ho HFZ.out.off hs)
        have K5 := Lib.hid (H4.out.hot.redisk2 hd rfl ho hs)
        clear hd ho hs
        go_wp2
        go_meet
        exact ⟨S5, _, K5.out, R5.out, F5.out⟩
      · obtain rfl : n2 = 0 := by omega
        go_wp2
        go_meet
        exact ⟨S, -1, H4.out.hot, R4.out, HFZ.out⟩
    case rest =>
      obtain ⟨S5, b5, hk5, hr5, hf5⟩ := hcut
      obtain ⟨wb, hwb⟩ : ∃ x : World, x = wc := ⟨_, rfl⟩
      rw [← hwb] at hk5 hr5 hf5 ⊢
      have K5 := Lib.hid hk5
      have R5 := Lib.hid hr5
      have F5 := Lib.hid hf5
      clear hk5 hr5 hf5 hwb HFZ
      have hNk : ChgsO wb w3.heap.size (.slice la m lc) N := ⟨HNO.out.recs.keep fun q hq => F5.out.same q (HVN.out q (HNO.out.own q hq) (HNO.out.recs.lt q hq)), HNO.out.own, fun x hx => (HNO.out.oct x hx).keep fun q hq => F5.out.same q (HVN.out q (HNO.out.octB x hx q hq) ((HNO.out.oct x hx).lt q hq)), HNO.out.octB, HNO.out.id⟩
      have CB := Lib.hid (batch_any K5.out (hNk.into rfl) HLIES.out.ok.pre (dir_few HLIES.out.ok) (by omega) (by show (0 : Nat) ≤ _; omega))
      rw [HNC.out] at CB
      obtain ⟨e0, D0, h0, hbo, hor⟩ := lies_budget HLIES.out b5 C1 (by rw [← HNC.out]; intro c hc; obtain ⟨x, hx, rfl⟩ := List.mem_map.1 hc; exact HNO.out.id x hx)
      rw [hbo] at CB
      have HOR := Lib.hid hor
      clear hNk hbo hor H4
      go_wp2_with fail
      refine CB.out.mono ?_
      rintro e w7 ⟨rfl, S7, U7, hk7, ho7, hs7, hu7⟩
      dsimp only at hk7
      have F7 := Lib.hid (F5.out.next ho7 (fun q hq => by rcases hq with rfl | hq; exact HGV.out; exact F5.out.off q hq) hs7)
      have R7 := Lib.hid (show Run w w7 S7 gd D0 from ⟨hk7.disk, R5.out.below.trans (ho7.below R5.out.below.size fun i hi hq => by
        rcases hq with rfl | hq
        · have := HGB.out; omega
        · have := R5.out.new i hq; omega), fun q hq => by
        rcases hs7 q hq with e | e
        · exact R5.out.new q e
        · have := R5.out.below.size; omega⟩)
      have K7 := Lib.hid hk7
      have HR7 := Lib.hid (show Recs blobC w7 81 4 (.slice av L.length cv) L from HR4.out.keep fun q hq => F7.out.same q (HVL.out q hq))
      clear hk7 ho7 hs7 hu7 CB K5 R5 F5
      rcases HOR.out with ⟨he, rfl, rfl⟩ | ⟨he, x, PP, q, hpl, hmy, hno, hlo, hmayq⟩
      · have CRD := Lib.hid (reads_any K7.out HLIES.out.ok av cv L HR7.out (has_few HLIES.out.ok HL.out) (key_lt HLIES.out.ok HL.out))
        rw [reads_budget HLIES.out HL.out] at CRD
        have HE := Lib.hid he
        clear HOR he
        go_upto_region 19 with (fail)
        go_cut [88] (fun s88 wx => wx = w7 ∧ s88 = .bool true)
        case first =>
          rcases HE.out with rfl | rfl | rfl
          · go_wp2
            go_meet
            exact ⟨rfl, rfl⟩
          · go_wp2
            go_meet
            exact ⟨rfl, rfl⟩
          · go_wp2
            go_meet
            exact ⟨rfl, rfl⟩
        case rest =>
          obtain ⟨hwc, rfl⟩ := hcut
          rw [hwc]
          clear hwc
          go_wp2_with fail
          refine CRD.out.mono ?_
          rintro e w8 ⟨rfl, hb8⟩
          have HB8 := Lib.hid (R7.out.below.trans (hb8.mono R7.out.below.size))
          clear hb8 CRD
          go_wp2_with fail
          refine (CW.out w8).mono ?_
          rintro e w9 ⟨rfl, hb9⟩
          go_wp2
          go_ret
          exact ⟨rfl, HB8.out.trans (hb9.mono HB8.out.size)⟩
      · have HPL := Lib.hid hpl
        have HMY := Lib.hid hmy
        have HLO := Lib.hid hlo
        have HMQ := Lib.hid hmayq
        have HE := Lib.hid he
        have HPM := Lib.hid (has_planned hpl hmy HL.out)
        clear hpl hmy hno hlo hmayq HOR he K7 HR7
        go_upto_region 19 with (fail)
        go_cut [88] (fun s88 wx => wx = w7 ∧ s88 = .bool false)
        case first =>
          rcases HE.out with rfl | rfl
          · go_wp2
            go_meet
            exact ⟨rfl, rfl⟩
          · go_wp2
            go_meet
            exact ⟨rfl, rfl⟩
        case rest =>
          obtain ⟨hwc, rfl⟩ := hcut
          rw [hwc]
          clear hwc
          go_upto_block 2 with (fail)
          go_cut [14] (fun s14 wx => ∃ (S : Nat → Prop) (D : Dk), Run w wx S gd D ∧ Loose e0 q s D ∧ Fz V w4 wx S)
          case first =>
            go_wp2
            go_loopw [14] (fun s14 wr => ∃ (k : Nat) (S : Nat → Prop) (D : Dk), k ≤ n2 ∧ k ≤ 5 ∧ s14 = .int .i64 k ∧ Run w wr S gd D ∧ Loose e0 q s D ∧ Fz V w4 wr S) (fun s14 _ => n2 - (intOf s14).toNat)
            case atStart => exact ⟨0, S7, D0, Nat.zero_le _, by omega, rfl, R7.out, HLO.out, F7.out⟩
            case round =>
              obtain ⟨k, S, D, hk, hk6, rfl, hrn, hlo, hfz⟩ := hrel
              have SI := Lib.hid hrn
              have HLS := Lib.hid hlo
              have FZ := Lib.hid hfz
              clear hrn hlo hfz R7 HLO F7
              by_cases hgo : k < n2 ∧ k < 5
              · obtain ⟨hlt, h6⟩ := hgo
                have hlti : (k : Int) < (n2 : Int) := by omega
                have h6i : (k : Int) < 5 := by omega
                obtain ⟨b2, off2, rfl, hbw, hcell⟩ := H2'.out.at (by omega) (by omega)
                have hc2 := H2'.out.2.1
                have hc3 := H2'.out.2.2.1
                unfold maxLen at hc3
                have HCE := Lib.hid (show ∀ u, Below w.heap.size w u → ∀ i j x, F[i]? = some x → j < 2 → u.cell? ⟨b2, off2 + (i * 2 + j), none⟩ = (failC x)[j]? from fun u hu i j x hi hj => by rw [hu.cell (by exact hbw)]; exact hcell i j x hi hj)
                have HFL := Lib.hid (show F.length = n2 from H2'.out.1)
                clear hcell
                obtain ⟨y, hy⟩ : ∃ y, F[k]? = some y := ⟨F[k]'(by have := HFL.out; omega), List.getElem?_eq_getElem _⟩
                have hkc := (HCE.out _ SI.out.below k 1 y hy (by omega))
                rw [← Nat.add_assoc] at hkc
                simp only [failC, List.getElem?_cons_succ, List.getElem?_cons_zero] at hkc
                have hgx := (G2.out y (List.mem_of_getElem? hy)).keep
                have hkb : BoolsAt _ y.ka y.kn y.kc y.keep := CameAt.below hgx (by omega) SI.out.below
                have hks : ∀ p, y.ka = some p → 0 < y.kn → ¬ S p.block := fun p hp hn hS => by
                  obtain ⟨b', off', he, hb', _⟩ := BoolsAt.cell hgx hn
                  rw [he] at hp; cases hp
                  have := SI.out.new _ hS; dsimp only at this; omega
                clear hgx hy
                go_wp2_with fail
                refine (cut_any gd D S y.ka y.kn y.kc y.keep _ SI.out.disk hkb hks).mono ?_
                rintro e w8 ⟨rfl, S8, hd, ho, hs⟩
                have SJ := Lib.hid (SI.out.to hd ho hs)
                have FJ := Lib.hid (FZ.out.next ho FZ.out.off hs)
                clear hd ho hs hkb hks hkc
                go_wp2_with fail
                refine (on_any gd _ S8 _ SJ.out.disk).mono ?_
                rintro e w9 ⟨rfl, S9, hd, ho, hs⟩
                have SK := Lib.hid (SJ.out.to hd ho hs)
                have FK := Lib.hid (FJ.out.next ho FJ.out.off hs)
                clear hd ho hs SJ SI FJ FZ
                obtain ⟨s1, hs1, hcls⟩ := loose_on1 (loose_cut HLS.out y.keep)
                rw [hs1] at SK
                have HCL := Lib.hid hcls
                clear hs1 hcls HLS
                by_cases hgo : k + 1 < n2 ∧ k < 4
                · obtain ⟨hlt1, h5⟩ := hgo
                  have hlt1i : (k : Int) + 1 < (n2 : Int) := by omega
                  have h5i : (k : Int) < 4 := by omega
                  obtain ⟨z, hz⟩ : ∃ y, F[k + 1]? = some y := ⟨F[k + 1]'(by have := HFL.out; omega), List.getElem?_eq_getElem _⟩
                  have hyc := (HCE.out _ SK.out.below (k + 1) 0 z hz (by omega))
                  simp only [failC, List.getElem?_cons_zero, Nat.add_zero] at hyc
                  have hfew := (G2.out z (List.mem_of_getElem? hz)).few
                  clear hz
                  go_wp2_with fail
                  refine (budget_yes gd ((z.n % 100 : Nat) : Int) _ S9 _ SK.out.disk (by omega) (by omega)).mono ?_
                  rintro e w10 ⟨rfl, S10, hd, ho, hs⟩
                  have SL := Lib.hid (SK.out.to hd ho hs)
                  have FL := Lib.hid (FK.out.next ho FK.out.off hs)
                  clear hd ho hs SK FK hyc
                  have CO := Lib.hid (open_any gd _ S10 w10 SL.out.disk (by show (0 : Nat) ≤ _; omega))
                  have HLR := Lib.hid (loose_open (b := ((z.n % 100 : Nat) : Int)) (by rw [HLIES.out.base.len]; exact HMQ.out) (by rw [HLIES.out.base.len]; omega) (by rw [HLIES.out.base.len]; omega) HCL.out)
                  dsimp only at CO
                  generalize openOf (dkB s1 ((z.n % 100 : Nat) : Int)) = zz at *
                  obtain ⟨z0, z1, z2⟩ := zz
                  dsimp only at CO HLR
                  go_wp2_with fail
                  refine (CO.out).mono ?_
                  rintro e w11 ⟨S11, ho, hs, hor⟩
                  have hd : DiskAt w11 S11 gd z2 := by
                    rcases hor with ⟨_, _, hd⟩ | ⟨_, _, _, _, _, hd, _⟩
                    · exact hd
                    · exact hd.disk
                  have SM := Lib.hid (SL.out.to hd ho hs)
                  have FM := Lib.hid (FL.out.next ho FL.out.off hs)
                  clear hd ho hs CO SL FL
                  rcases hor with ⟨_, rfl, _⟩ | ⟨_, _, _, _, rfl, _⟩
                  · go_wp2
                    go_roundw
                    case rel => exact ⟨k + 1, S11, z2, by omega, by omega, by go_num, SM.out, HLR.out, FM.out⟩
                    case measure => simp [intOf]; omega
                  · go_wp2
                    go_roundw
                    case rel => exact ⟨k + 1, S11, z2, by omega, by omega, by go_num, SM.out, HLR.out, FM.out⟩
                    case measure => simp [intOf]; omega
                · by_cases hlt1 : k + 1 < n2
                  · obtain rfl : k = 4 := by omega
                    have hlt1i : (4 : Int) + 1 < (n2 : Int) := by omega
                    clear hgo
                    go_wp2
                    go_roundw
                    case rel => exact ⟨5, S9, _, by omega, by omega, by go_num, SK.out, loose_still HCL.out, FK.out⟩
                    case measure => simp [intOf]; omega
                  · have hlt1i : ¬ (k : Int) + 1 < (n2 : Int) := by omega
                    clear hgo
                    go_wp2
                    go_roundw
                    case rel => exact ⟨k + 1, S9, _, by omega, by omega, by go_num, SK.out, loose_still HCL.out, FK.out⟩
                    case measure => simp [intOf]; omega
              · by_cases hlt : k < n2
                · obtain rfl : k = 5 := by omega
                  have hlti : (5 : Int) < (n2 : Int) := by omega
                  clear hgo
                  go_wp2
                  go_meet
                  exact ⟨S, D, SI.out, HLS.out, FZ.out⟩
                · obtain rfl : k = n2 := by omega
                  have hlti : ¬ (k : Int) < (k : Int) := by omega
                  clear hgo hlt
                  go_wp2
                  go_meet
                  exact ⟨S, D, SI.out, HLS.out, FZ.out⟩
          case rest =>
            obtain ⟨S8, D8, hrn, hlo, hfz⟩ := hcut
            obtain ⟨we, hwe⟩ : ∃ we : World, we = wc := ⟨_, rfl⟩
            rw [← hwe] at hrn hfz ⊢
            have SN := Lib.hid hrn
            have HLS := Lib.hid hlo
            have FN := Lib.hid hfz
            clear hrn hlo hfz hwe R7 HLO F7
            go_wp2_with fail
            refine (on_any gd _ S8 _ SN.out.disk).mono ?_
            rintro e w8 ⟨rfl, S9, hd, ho, hs⟩
            have SO := Lib.hid (SN.out.to hd ho hs)
            have FO := Lib.hid (FN.out.next ho FN.out.off hs)
            clear hd ho hs SN FN
            obtain ⟨s1, hs1, hcls⟩ := loose_on1 HLS.out
            rw [hs1] at SO
            obtain ⟨h2, s2, hop, hl2, hwh⟩ := lies_after HLIES.out HPL.out HMY.out hcls
            have CO := Lib.hid (open_any gd _ S9 w8 SO.out.disk (by show (0 : Nat) ≤ _; omega))
            rw [hop] at CO
            have HL2 := Lib.hid hl2
            have HWH := Lib.hid hwh
            clear hs1 hcls HLS hop hl2 hwh
            go_wp2_with fail
            refine CO.out.mono ?_
            rintro e w9 ⟨S10, ho, hs, hor⟩
            rcases hor with ⟨h1, _⟩ | ⟨h2', g2, U2, h1, rfl, hh, hg, hu⟩
            · cases h1
            · dsimp only at h1 hh
              obtain rfl : h2 = h2' := Option.some.inj h1
              have SP := Lib.hid (SO.out.to hh.disk ho hs)
              have FP := Lib.hid (FO.out.next ho FO.out.off hs)
              have K9 := Lib.hid hh
              have HR9 := Lib.hid (show Recs blobC w9 81 4 (.slice av L.length cv) L from HR4.out.keep fun q hq => FP.out.same q (HVL.out q hq))
              have HN9 := Lib.hid (show ChgsO w9 w3.heap.size (.slice la m lc) N from ⟨HNO.out.recs.keep fun q hq => FP.out.same q (HVN.out q (HNO.out.own q hq) (HNO.out.recs.lt q hq)), HNO.out.own, fun x hx => (HNO.out.oct x hx).keep fun q hq => FP.out.same q (HVN.out q (HNO.out.octB x hx q hq) ((HNO.out.oct x hx).lt q hq)), HNO.out.octB, HNO.out.id⟩)
              have CH := Lib.hid (hasB_any av cv L la m lc N w9 HR9.out (has_few HLIES.out.ok HL.out) (HN9.out.read rfl) hn12)
              rw [HNC.out] at CH
              clear hh ho hs hg hu h1 CO SO FO
              have HIF := Lib.hid (show readsB (dkS s2) h2 (hasOf L C1) = false → e0 ≠ 0 ∧ h2 = h from fun hf => by
                rcases HWH.out with rfl | ⟨h1, h2⟩
                · rw [reads_lies HL2.out HPM.out] at hf; cases hf
                · exact ⟨h1, h2⟩)
              generalize hLn : hasOf L C1 = L' at *
              clear hLn
              go_wp2_with fail
              refine CH.out.mono ?_
              rintro e w10 ⟨a6, c6, rfl, hr10, hb10, _⟩
              have SQ := Lib.hid (SP.out.quiet hb10)
              have CR1 := Lib.hid (reads_any (K9.out.below hb10) HL2.out.ok a6 c6 L' hr10 (has_few HPL.out.ok HPM.out) (key_lt HPL.out.ok HPM.out))
              have K10 := Lib.hid (K9.out.below hb10)
              have HR10 := Lib.hid (HR9.out.below hb10)
              clear hr10 hb10 CH HN9 SP K9 HR9
              generalize readsB (dkS s2) h2 L' = B1 at *
              go_wp2_with fail
              refine CR1.out.mono ?_
              rintro e w11 ⟨rfl, hb11⟩
              have SR := Lib.hid (SQ.out.quiet hb11)
              cases B1 with
              | true =>
                go_wp2_with fail
                refine (CW.out w11).mono ?_
                rintro e w12 ⟨rfl, hb12⟩
                go_wp2
                go_ret
                exact ⟨rfl, SR.out.below.trans (hb12.mono SR.out.below.size)⟩
              | false =>
                obtain ⟨he0, rfl⟩ := HIF.out rfl
                have CR2 := Lib.hid (reads_any (K10.out.below hb11) HL2.out.ok av cv L (HR10.out.below hb11) (has_few HLIES.out.ok HL.out) (key_lt HLIES.out.ok HL.out))
                rw [reads_lies HL2.out HL.out] at CR2
                rcases HE.out with rfl | rfl
                · exact absurd rfl he0
                · clear hb11
                  go_wp2_with fail
                  refine CR2.out.mono ?_
                  rintro e w12 ⟨rfl, hb12⟩
                  have ST := Lib.hid (SR.out.quiet hb12)
                  go_wp2_with fail
                  refine (CW.out w12).mono ?_
                  rintro e w13 ⟨rfl, hb13⟩
                  go_wp2
                  go_ret
                  exact ⟨rfl, ST.out.below.trans (hb13.mono ST.out.below.size)⟩
end Go.Proofs.YtjcmphjjkeigjaaGreat

namespace Go.Proofs.YtjcmphjjkeigjaaGreat.hotAll
open Go.ChangeShapes Go.WideShapes Go.ChangeAt Go.RowKit
set_option linter.unusedVariables false
set_option linter.unusedSimpArgs false
set_option maxRecDepth 100000

theorem own : ownKnob Tryz.prog.godebug = none := by kernel_rfl
theorem laidOut : laidOutB Tryz.prog = true := by kernel_rfl

set_option maxRecDepth 100000 in
theorem lifted (os : Os) (started : os.Started) (H : Type) (enc : TypeId × Value → H) :
    ReturnsInHanded {} Tryz.checked os 4 .any (Rows.hotAllSpec.pre6 enc Tryz.prog Tryz.f4 Rows.hotAllRow.domain false) (Rows.hotAllSpec.post enc Tryz.prog Tryz.f4 false true false false) := by
  refine returnsInHanded_of_change (C := Tryz.checked) own started (by kernel_rfl) Tryz.func4
    (ChangeSpec.witness6 (enc := enc) (C := Tryz.checked) false ⟨#[], #[.slice none 0 0, .slice none 0 0, .slice none 0 0], []⟩ 8 (by kernel_rfl) (by kernel_rfl) (by kernel_rfl) (by kernel_rfl)) ?_
  intro W base args ds gs before hval0 hW hcnd _
  have hval : ∀ (j : Nat) t v, Tryz.f4.params[j]? = some t → args[j]? = some v → Value.okWide Tryz.prog W .any base t v := hval0
  have hW' := hW
  obtain ⟨p, q, hA0, hV, rfl, hfz, hnd⟩ := hW
  have hA : DataW.TrodAll enc Tryz.prog W 0 (fun _ => true) true Tryz.f4.params.toList args.toList ds p := hA0
  rw [Tryz.params4] at hA hval
  obtain ⟨v0, vs0, d0, ds0, p0, q0, hargs, rfl, rfl, h0, r0⟩ := trodAll_cons hA
  obtain ⟨v1, vs1, d1, ds1, p1, q1, rfl, rfl, rfl, h1, r1⟩ := trodAll_cons r0
  obtain ⟨v2, vs2, d2, ds2, p2, q2, rfl, rfl, rfl, h2, r2⟩ := trodAll_cons r1
  obtain ⟨rfl, rfl, rfl⟩ := trodAll_nil r2
  obtain rfl : args = #[v0, v1, v2] := by cases args; simp_all
  obtain ⟨rfl, rfl⟩ := trodVars_none hV
  have k0 := h0
  have lt0 : ∀ x ∈ p0, x.block < W.heap.size := by obtain ⟨m, hm⟩ := k0; exact DataW.trod_lt m _ _ _ hm
  have k1 := h1
  have lt1 : ∀ x ∈ p1, x.block < W.heap.size := by obtain ⟨m, hm⟩ := k1; exact DataW.trod_lt m _ _ _ hm
  have k2 := h2
  have lt2 : ∀ x ∈ p2, x.block < W.heap.size := by obtain ⟨m, hm⟩ := k2; exact DataW.trod_lt m _ _ _ hm
  obtain ⟨a2, len2, cap2, l2, rfl, w2, g2⟩ := fails_of (hval 2 67 v2 rfl rfl) h2
  clear hA0 hval0
  obtain ⟨a0, len0, cap0, rfl⟩ := okWide_slice Tryz.underlying66 (hval 0 66 v0 rfl rfl)
  obtain ⟨fl0, hf0⟩ := h0
  obtain ⟨A0, n0, c0, P0, hcs0, hr0⟩ := grps_of hf0
  simp [Value.cells] at hcs0
  obtain ⟨rfl, rfl, rfl⟩ := hcs0
  obtain ⟨a1, len1, cap1, rfl⟩ := okWide_slice Tryz.underlying37 (hval 1 37 v1 rfl rfl)
  obtain ⟨fl1, hf1⟩ := h1
  obtain ⟨A1, n1, c1, M1, hcs1, hr1⟩ := chgs_of hf1
  simp [Value.cells] at hcs1
  obtain ⟨rfl, rfl, rfl⟩ := hcs1
  refine (hotall_any _ _ _ P0 _ _ _ M1 a2 len2 cap2 l2 W hr0 hr1 w2 g2).mono fun e W' ⟨he, bel⟩ => ?_
  subst he
  exact ⟨_, rfl, _, _, _, [], _, [], hW', trodAll_mk1 (shut_bool Tryz.underlying4 _), (trodAll_cons_mk (Below.trod laidOut (by kernel_rfl) (of_decide_eq_true (by kernel_rfl)) k0 bel lt0) (trodAll_cons_mk (Below.trod laidOut (by kernel_rfl) (of_decide_eq_true (by kernel_rfl)) k1 bel lt1) (trodAll_cons_mk (Below.trod laidOut (by kernel_rfl) (of_decide_eq_true (by kernel_rfl)) k2 bel lt2) trodAll_mk0))), rfl, bel.frame _, fun h => by cases h⟩

theorem proved : Rows.HotAllSaid :=
  OpenClaim.holds_of_wide 4 Tryz.f4 rfl rfl rfl rfl rfl rfl rfl ⟨rfl, rfl, rfl, rfl, rfl⟩ rfl rfl rfl rfl rfl (by kernel_rfl) Tryz.func4 (by kernel_rfl)
    (of_decide_eq_true (by kernel_rfl)) (by unfold Func.isWrapper; first | (rw [if_pos (by decide +kernel)]; kernel_rfl) | (rw [if_neg (by decide +kernel)]; exact ⟨rfl, rfl⟩))
    (fun os started H enc _ => lifted os started H enc)

end Go.Proofs.YtjcmphjjkeigjaaGreat.hotAll
