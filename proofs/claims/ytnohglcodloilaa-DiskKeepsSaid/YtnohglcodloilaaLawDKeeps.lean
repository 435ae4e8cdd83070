/-
  Behind a flush that was done a cut loses nothing; of what waits a cut keeps each write whole, or not at all, and a sector has one of these, or what it had (P3.4).
  No condition: whatever is written ahead and behind, whatever is kept.
-/
import Derived.Test.YtnohglcodloilaaStrs
import Derived.Test.YtnohglcodloilaaActs
import Derived.Deep.DeepCutAuto
import Derived.Deep.CutBlock
namespace Go.Proofs.Ytnohglcodloilaa.diskKeeps
open Go.ChangeShapes Go.WideShapes Go.ChangeAt Go.RowKit
open Go.ChangeMaps (open_string shut_string)
set_option linter.unusedVariables false
set_option linter.unusedSimpArgs false

/-- a write of the first k that were tried -/
def From (L : List ActM) (k : Nat) (i : Nat) (s : List UInt8) : Prop := ∃ j y, j < k ∧ L[j]? = some y ∧ y.i = i ∧ s = sec y.c

/-- it is what was there, or one of the first m writes that were tried -/
def PP (L2 : List ActM) (wi c : List UInt8) (q m : Nat) : Prop := c = wi ∨ ∃ j y, j < m ∧ L2[j]? = some y ∧ y.i = (q : Int) ∧ c = sec y.c
theorem pp_succ {L2 : List ActM} {wi c : List UInt8} {q m : Nat} {x : ActM} (hx : L2[m]? = some x) (h : PP L2 wi c q (m + 1)) : PP L2 wi c q m ∨ (x.i = (q : Int) ∧ c = sec x.c) := by
  rcases h with h | ⟨j, y, h1, h2, h3, h4⟩
  · exact .inl (.inl h)
  · by_cases hj : j = m
    · subst hj
      rw [hx] at h2
      cases h2
      exact .inr ⟨h3, h4⟩
    · exact .inl (.inr ⟨j, y, by omega, h2, h3, h4⟩)

/-- what a sector has behind the cut: what it had, or one of the writes that were tried -/
theorem what_is (D6 : Dk) (L2 : List ActM) (kk : Nat) (L3 : List Bool) (s0 : List (List UInt8)) (q : Nat) (hq : q < 4) (hs : D6.secs = s0) (h4 : s0.length = 4) (hf : ∀ x ∈ D6.waits, From L2 kk x.1 x.2) :
    D6.secs.length = 4 ∧ ((Dk.laid (Dk.keeps L3) D6.waits D6.secs).getD q [] = s0.getD q [] ∨ From L2 kk q ((Dk.laid (Dk.keeps L3) D6.waits D6.secs).getD q [])) ∧ (L3 = [] → (Dk.laid (Dk.keeps L3) D6.waits D6.secs).getD q [] = s0.getD q []) := by
  subst hs
  refine ⟨h4, ?_, fun h => ?_⟩
  · rcases laid_or (Dk.keeps L3) D6.waits D6.secs q (by omega) with h | ⟨x, hx, h1, h2⟩
    · exact .inl h
    · right
      rw [h2, ← h1]
      exact hf x hx
  · subst h
    rw [laid_keep_nil]

set_option maxRecDepth 100000 in
set_option maxHeartbeats 8000000 in
theorem walk (a1 : Option Addr) (n1 k1 : Nat) (L1 : List ActM) (a2 : Option Addr) (n2 k2 : Nat) (L2 : List ActM) (a3 : Option Addr) (n3 k3 : Nat) (L3 : List Bool) (w : World)
    (h1 : CameAt actC 5 w a1 n1 k1 L1) (g1 : ∀ x ∈ L1, x.Good w) (h2 : CameAt actC 5 w a2 n2 k2 L2) (g2 : ∀ x ∈ L2, x.Good w) (h3 : BoolsAt w a3 n3 k3 L3) :
    Calls Try.prog 4 #[.slice a1 n1 k1, .slice a2 n2 k2, .slice a3 n3 k3] w fun e w' => e = .returned (.bool true) ∧ Below w.heap.size w w' := by
  have H1 := Lib.hid h1
  have H2 := Lib.hid h2
  have H3 := Lib.hid h3
  have hm1 : n1 ≤ 9223372036854775807 := by have := h1.2.1; have := h1.2.2.1; unfold maxLen at *; omega
  have hm2 : n2 ≤ 9223372036854775807 := by have := h2.2.1; have := h2.2.2.1; unfold maxLen at *; omega
  have H3N := Lib.hid h3.1
  have H3B := Lib.hid (show ∀ p, a3 = some p → 0 < n3 → p.block < w.heap.size from fun p hp hn => by
    obtain ⟨b, off, e, hb, _⟩ := BoolsAt.cell h3 hn
    rw [e] at hp; cases hp; exact hb)
  clear h1 g1 h2 g2 h3
  go_enter Try.func4, Try.ntmps4
  go_wp2_with fail
  refine (new_yes 4 _ (by omega) (by omega)).mono ?_
  rintro e w1 ⟨g, S1, rfl, hd1, hb1, hn1⟩
  have I1 := Lib.hid (show Tried w w1 S1 g (Dk.new 4) (Dk.new 4).secs (From L1 0) 0 from ⟨Run.mk hd1 hb1 hn1, by decide, rfl, rfl, Nat.le_refl _, rfl, fun x hx => by simp [Dk.new] at hx⟩)
  clear hd1 hb1 hn1
  go_upto_block 0 with (fail)
  go_cut [9] (fun s9 wx => ∃ (k : Nat) (S : Nat → Prop) (D : Dk), k ≤ 20 ∧ Tried w wx S g D (Dk.new 4).secs (From L1 k) k)
  case first =>
   go_wp2
   go_loopw [9] (fun s9 wr => ∃ (k : Nat) (S : Nat → Prop) (D : Dk), k ≤ n1 ∧ k ≤ 20 ∧ s9 = .int .i64 k ∧ Tried w wr S g D (Dk.new 4).secs (From L1 k) k) (fun s9 _ => n1 - (intOf s9).toNat)
   case atStart => exact ⟨0, S1, _, Nat.zero_le _, by omega, rfl, I1.out⟩
   case round =>
    obtain ⟨k, S, D, hk, hk20, rfl, hinv⟩ := hrel
    have HI := Lib.hid hinv
    clear hinv
    by_cases hgo : k < n1 ∧ k < 20
    · obtain ⟨hlt, h20⟩ := hgo
      have hL := H1.out.below (by omega) HI.out.run.below
      obtain ⟨b1, off1, rfl, hbl, hcell⟩ := hL.at (by omega) (by omega)
      obtain ⟨x, hx⟩ : ∃ x, L1[k]? = some x := ⟨L1[k]'(by have := hL.1; omega), List.getElem?_eq_getElem _⟩
      have c1 : wr.cell? ⟨b1, off1 + k * 5 + 1, none⟩ = some (.int .i64 x.i) := by rw [Nat.add_assoc]; exact hcell k 1 x hx (by omega)
      have c2 : wr.cell? ⟨b1, off1 + k * 5 + 2, none⟩ = some (.int .u8 x.c.toNat) := by rw [Nat.add_assoc]; exact hcell k 2 x hx (by omega)
      have hlti : (k : Int) < (n1 : Int) := by omega
      have h20i : (k : Int) < 20 := by omega
      have hbw : b1 < w.heap.size := by
        obtain ⟨b', off', he, hb', _⟩ := H1.out.at (by omega) (by omega)
        cases he; exact hb'
      have HX := Lib.hid hx
      clear hL hcell hx hbl
      by_cases hrange : x.i < 0 ∨ (4 : Int) ≤ x.i
      · go_wp2_with fail
        refine region_head 13 [0, 1, 2, 3, 4, 5, 6, 7, 8, 9, 10, 11, 12] [11, 12] (fun u => u.cell? ⟨b1, off1 + k * 5 + 1, none⟩ = some (.int .i64 x.i) ∧ u.cell? ⟨b1, off1 + k * 5 + 2, none⟩ = some (.int .u8 x.c.toNat)) (by kernel_rfl) (by kernel_rfl) ⟨c1, c2⟩ ?_
        simp only [pickO, List.append_eq, List.cons_append, List.nil_append, List.filterMap_cons, List.filterMap_nil, List.getElem?_cons_zero, List.getElem?_cons_succ, Option.map_some, List.drop_succ_cons, List.drop_zero]
        iterate 11
          refine seqH_readG _ rfl (by rfl) (by rintro u ⟨hu1, hu2⟩; go_simp; with_reducible rfl) ?_
          try simp only [Act.put, List.setIfInBounds_toArray, List.set_cons_zero, List.set_cons_succ]
        refine seqH_moveG rfl (by rfl) (fun K hK => ?_)
        go_simp
        refine (all_any x.c _).mono ?_
        rintro e w5 ⟨a5, cc5, rfl, hr, hb, hn⟩
        have hI5 := Lib.hid (HI.out.run.drew.quiet hb)
        have d1 := (hI5.out.below.cell (p := ⟨b1, off1 + k * 5 + 1, none⟩) hbw).trans ((HI.out.run.below.cell (p := ⟨b1, off1 + k * 5 + 1, none⟩) hbw).symm.trans c1)
        have d2 := (hI5.out.below.cell (p := ⟨b1, off1 + k * 5 + 2, none⟩) hbw).trans ((HI.out.run.below.cell (p := ⟨b1, off1 + k * 5 + 2, none⟩) hbw).symm.trans c2)
        have K5 := Lib.hid (Kept.new (S := S) hr hn HI.out.run.drew.disk.lt)
        refine hK _ _ ⟨d1, d2⟩ ?_
        clear hK K
        try simp only [Act.put, List.setIfInBounds_toArray, List.set_cons_zero, List.set_cons_succ]
        refine seqH_moveG rfl (by rfl) (fun K hK => ?_)
        go_simp
        refine (write_range g x.i D S _ _ hI5.out.disk (by rw [HI.out.size]; exact hrange)).mono ?_
        rintro e w6 ⟨rfl, rfl⟩
        refine hK _ _ ⟨d1, d2⟩ ?_
        have J := Lib.hid ((HI.out.still (((Below.refl _ _).drew).trans hb)).next (P' := From L1 (k + 1)) (fun i s h => by obtain ⟨j, y, h1, h2, h3, h4⟩ := h; exact ⟨j, y, by omega, h2, h3, h4⟩))

        clear hK K HI c1 c2 d1 d2 hr hb hn hI5 K5
        try simp only [Act.put, List.setIfInBounds_toArray, List.set_cons_zero, List.set_cons_succ]
        refine seqH_nil ?_
        go_wp2
        go_roundw
        case rel => exact ⟨k + 1, S, D, by omega, by omega, by go_num, J.out⟩
        case measure => simp [intOf]; omega
      · obtain ⟨xi, hxe⟩ : ∃ xi : Nat, x.i = xi := ⟨x.i.toNat, by omega⟩
        have hxi : xi < 4 := by omega
        have HXE := Lib.hid hxe
        rw [hxe] at c1
        clear hrange hxe
        go_wp2_with fail
        refine region_head 13 [0, 1, 2, 3, 4, 5, 6, 7, 8, 9, 10, 11, 12] [11, 12] (fun u => u.cell? ⟨b1, off1 + k * 5 + 1, none⟩ = some (.int .i64 (xi : Int)) ∧ u.cell? ⟨b1, off1 + k * 5 + 2, none⟩ = some (.int .u8 x.c.toNat)) (by kernel_rfl) (by kernel_rfl) ⟨c1, c2⟩ ?_
        simp only [pickO, List.append_eq, List.cons_append, List.nil_append, List.filterMap_cons, List.filterMap_nil, List.getElem?_cons_zero, List.getElem?_cons_succ, Option.map_some, List.drop_succ_cons, List.drop_zero]
        iterate 11
          refine seqH_readG _ rfl (by rfl) (by rintro u ⟨hu1, hu2⟩; go_simp; with_reducible rfl) ?_
          try simp only [Act.put, List.setIfInBounds_toArray, List.set_cons_zero, List.set_cons_succ]
        refine seqH_moveG rfl (by rfl) (fun K hK => ?_)
        go_simp
        refine (all_any x.c _).mono ?_
        rintro e w5 ⟨a5, cc5, rfl, hr, hb, hn⟩
        have hI5 := Lib.hid (HI.out.run.drew.quiet hb)
        have d1 := (hI5.out.below.cell (p := ⟨b1, off1 + k * 5 + 1, none⟩) hbw).trans ((HI.out.run.below.cell (p := ⟨b1, off1 + k * 5 + 1, none⟩) hbw).symm.trans c1)
        have d2 := (hI5.out.below.cell (p := ⟨b1, off1 + k * 5 + 2, none⟩) hbw).trans ((HI.out.run.below.cell (p := ⟨b1, off1 + k * 5 + 2, none⟩) hbw).symm.trans c2)
        have K5 := Lib.hid (Kept.new (S := S) hr hn HI.out.run.drew.disk.lt)
        refine hK _ _ ⟨d1, d2⟩ ?_
        clear hK K
        try simp only [Act.put, List.setIfInBounds_toArray, List.set_cons_zero, List.set_cons_succ]
        refine seqH_moveG rfl (by rfl) (fun K hK => ?_)
        go_simp
        refine (write_yes g xi D S a5 cc5 (sec x.c) _ hI5.out.disk (by rw [HI.out.size]; exact hxi) HI.out.can (by have := HI.out.few; omega) K5.out.at_ (fun p hp => (K5.out.off p hp).1)).mono ?_
        rintro e w6 ⟨rfl, S6, hd, ho, hs⟩
        have J := Lib.hid (Tried.put (P' := From L1 (k + 1)) (HI.out.still (((Below.refl _ _).drew).trans hb)) (fun i s h => by obtain ⟨j, y, h1, h2, h3, h4⟩ := h; exact ⟨j, y, by omega, h2, h3, h4⟩) ⟨k, x, by omega, HX.out, HXE.out, rfl⟩ hd ho hs)

        have e1 := (J.out.run.below.cell (p := ⟨b1, off1 + k * 5 + 1, none⟩) hbw).trans ((HI.out.run.below.cell (p := ⟨b1, off1 + k * 5 + 1, none⟩) hbw).symm.trans c1)
        have e2 := (J.out.run.below.cell (p := ⟨b1, off1 + k * 5 + 2, none⟩) hbw).trans ((HI.out.run.below.cell (p := ⟨b1, off1 + k * 5 + 2, none⟩) hbw).symm.trans c2)
        refine hK _ _ ⟨e1, e2⟩ ?_
        clear hK K HI c1 c2 d1 d2 e1 e2 hr hb hn hI5 K5 hd ho hs
        try simp only [Act.put, List.setIfInBounds_toArray, List.set_cons_zero, List.set_cons_succ]
        refine seqH_nil ?_
        go_wp2
        go_roundw
        case rel => exact ⟨k + 1, S6, D.put xi (sec x.c), by omega, by omega, by go_num, J.out⟩
        case measure => simp [intOf]; omega
    · by_cases hlt : k < n1
      · obtain rfl : k = 20 := by omega
        have hlt' : (20 : Int) < (n1 : Int) := by omega
        clear hgo
        go_wp2
        go_meet
        exact ⟨_, S, D, hk20, HI.out⟩
      · obtain rfl : k = n1 := by omega
        clear hgo hlt
        go_wp2
        go_meet
        exact ⟨_, S, D, hk20, HI.out⟩

  case rest =>
    obtain ⟨kk, S, D, hkk, ht⟩ := hcut
    obtain ⟨wa, rfl⟩ : ∃ wa : World, wa = wc := ⟨_, rfl⟩
    have HI := Lib.hid ht
    clear ht I1
    go_wp2_with fail
    refine (flush_yes g D S _ HI.out.run.disk HI.out.can).mono ?_
    rintro e w3 ⟨rfl, S3, hd, ho, hs⟩
    obtain ⟨s0, hs0⟩ : ∃ s0, D.flushed.secs = s0 := ⟨_, rfl⟩
    have I3 := Lib.hid (show Tried w w3 S3 g D.flushed s0 (From L2 0) 0 from ⟨HI.out.run.to hd ho hs, (Dk.laid_length (fun _ => true) D.waits D.secs).trans HI.out.size, HI.out.on, by show (if D.budget = -1 then (-1 : Int) else _) = -1; rw [if_pos HI.out.free], Nat.le_refl _, hs0, fun x hx => by simp [Dk.flushed, Dk.settle] at hx⟩)
    have HW0 := Lib.hid (show D.flushed.waits = [] from rfl)
    clear hd ho hs HI hs0
    generalize D.flushed = D3 at *
    go_upto_block 2 with (fail)
    go_cut [10, 11] (fun s10 s11 wx => ∃ (aw : Option Addr) (cw : Nat), s10 = .slice aw 4 cw ∧ StrsAt w wx S3 (.slice aw 4 cw) s0 ∧ Tried w wx S3 g D3 s0 (From L2 0) 0)
    case first =>
     go_wp2
     go_loopw [10, 11] (fun s10 s11 wr => ∃ (k : Nat) (M : List (List UInt8)), k ≤ 4 ∧ s11 = .int .i64 k ∧ M = s0.take k ∧ StrsAt w wr S3 s10 M ∧ Tried w wr S3 g D3 s0 (From L2 0) 0) (fun _ s11 _ => 4 - (intOf s11).toNat)
     case atStart => exact ⟨0, [], by omega, rfl, by simp, StrsAt.nil _ _ _, I3.out⟩
     case round =>
       obtain ⟨k, M, hk4, rfl, hM, hst, hinv⟩ := hrel
       have HI := Lib.hid hinv
       have HM := Lib.hid hM
       obtain ⟨aw, cw, rfl, _, _⟩ := hst.recs.form
       have HS := Lib.hid hst
       have hMl : M.length ≤ 4 := by rw [hM]; simp; omega
       clear hinv hst hM
       by_cases h4 : k < 4
       · have h4i : (k : Int) < 4 := by omega
         go_wp2_with fail
         refine (read_yes g k D3 S3 _ HI.out.run.disk (by rw [HI.out.size]; exact h4) HI.out.on).mono ?_
         rintro e w4 ⟨a4, c4, rfl, hr, hb, hn⟩
         have hcon : D3.content k = s0.getD k [] := by
           show Dk.over D3.waits k (D3.secs.getD k []) = _
           rw [HW0.out, HI.out.same]; rfl
         rw [hcon] at hr
         have hgd : s0.take (k + 1) = s0.take k ++ [s0.getD k []] := by
           have : k < s0.length := by rw [← HI.out.same, HI.out.size]; exact h4
           rw [List.take_succ_eq_append_getElem this, List.getD, List.getElem?_eq_getElem this]; rfl
         have HGD := Lib.hid hgd
         have v4 := hr.conv
         have HB4 := Lib.hid hb
         obtain ⟨i0, hi0, hz0, hz1, hz2⟩ := info_parts infoStr
         have Hi0 := Lib.hid hi0
         have Hz0 := Lib.hid hz0
         have Hz1 := Lib.hid hz1
         have Hz2 := Lib.hid hz2
         clear hr hb hn hcon hgd hi0 hz0 hz1 hz2
         generalize s0.getD k [] = l4 at *
         go_wp2_with (at_builtin; refine wpList_append_recs (f := strC) rfl _ _ 44 rfl 9 i0 _ 1 16 Try.underlying44 Hi0.out Hz0.out Hz1.out Hz2.out rfl (by omega) _ M rfl (HS.out.recs.below (HB4.out.alloc (Below.size HB4.out) _)) ⟨w4.heap.size, 0, none⟩ 1 1 [l4] rfl rfl (fun _ _ => rfl) (fun y _ => strC_one y) (one_rec (heap_alloc_new w4 _)) (by unfold maxLen; omega) (by omega) ?_; intro v' w5 hr' hg' hv'; obtain ⟨av5, cv5, rfl, _, _⟩ := hr'.form)
         go_roundw
         case rel =>
           have hm := HS.out.more HI.out.run (HB4.out.alloc (Below.size HB4.out) _) hr' hg' hv'
           rw [List.length_append, List.length_singleton] at hm
           exact ⟨k + 1, M ++ [l4], by omega, by go_num, by rw [HGD.out, ← HM.out], hm.1, ⟨hm.2, HI.out.size, HI.out.on, HI.out.free, HI.out.few, HI.out.same, HI.out.from_⟩⟩
         case measure => simp [intOf]; omega
       · obtain rfl : k = 4 := by omega
         go_wp2
         go_meet
         have hl4 : s0.length = 4 := by rw [← HI.out.same, HI.out.size]
         have hMs : M = s0 := by rw [HM.out, List.take_of_length_le (by omega)]
         have hst := HS.out
         rw [hMs, hl4] at hst
         exact ⟨aw, cw, by rw [hMs, hl4], hst, HI.out⟩
    case rest =>
      obtain ⟨aw, cw, rfl, hst, ht⟩ := hcut
      obtain ⟨wb, rfl⟩ : ∃ wb : World, wb = wc := ⟨_, rfl⟩
      have I4 := Lib.hid ht
      have W4 := Lib.hid hst
      clear ht hst I3
      go_upto_block 4 with (fail)
      go_cut [14] (fun s14 wx => ∃ (k : Nat) (S : Nat → Prop) (D : Dk), k ≤ 20 ∧ k ≤ n2 ∧ Tried w wx S g D s0 (From L2 k) k ∧ StrsAt w wx S (.slice aw 4 cw) s0)
      case first =>
       go_wp2
       go_loopw [14] (fun s14 wr => ∃ (k : Nat) (S : Nat → Prop) (D : Dk), k ≤ n2 ∧ k ≤ 20 ∧ s14 = .int .i64 k ∧ Tried w wr S g D s0 (From L2 k) k ∧ StrsAt w wr S (.slice aw 4 cw) s0) (fun s14 _ => n2 - (intOf s14).toNat)
       case atStart => exact ⟨0, S3, _, Nat.zero_le _, by omega, rfl, I4.out, W4.out⟩
       case round =>
        obtain ⟨k, S, D, hk, hk20, rfl, hinv, hst⟩ := hrel
        have HI := Lib.hid hinv
        have HW := Lib.hid hst
        clear hinv hst
        by_cases hgo : k < n2 ∧ k < 20
        · obtain ⟨hlt, h20⟩ := hgo
          have hL := H2.out.below (by omega) HI.out.run.below
          obtain ⟨b2, off2, rfl, hbl, hcell⟩ := hL.at (by omega) (by omega)
          obtain ⟨x, hx⟩ : ∃ x, L2[k]? = some x := ⟨L2[k]'(by have := hL.1; omega), List.getElem?_eq_getElem _⟩
          have c1 : wr.cell? ⟨b2, off2 + k * 5 + 1, none⟩ = some (.int .i64 x.i) := by rw [Nat.add_assoc]; exact hcell k 1 x hx (by omega)
          have c2 : wr.cell? ⟨b2, off2 + k * 5 + 2, none⟩ = some (.int .u8 x.c.toNat) := by rw [Nat.add_assoc]; exact hcell k 2 x hx (by omega)
          have hlti : (k : Int) < (n2 : Int) := by omega
          have h20i : (k : Int) < 20 := by omega
          have hbw : b2 < w.heap.size := by
            obtain ⟨b', off', he, hb', _⟩ := H2.out.at (by omega) (by omega)
            cases he; exact hb'
          have HX := Lib.hid hx
          clear hL hcell hx hbl
          by_cases hrange : x.i < 0 ∨ (4 : Int) ≤ x.i
          · go_wp2_with fail
            refine region_head 13 [0, 1, 2, 3, 4, 5, 6, 7, 8, 9, 10, 11, 12] [11, 12] (fun u => u.cell? ⟨b2, off2 + k * 5 + 1, none⟩ = some (.int .i64 x.i) ∧ u.cell? ⟨b2, off2 + k * 5 + 2, none⟩ = some (.int .u8 x.c.toNat)) (by kernel_rfl) (by kernel_rfl) ⟨c1, c2⟩ ?_
            simp only [pickO, List.append_eq, List.cons_append, List.nil_append, List.filterMap_cons, List.filterMap_nil, List.getElem?_cons_zero, List.getElem?_cons_succ, Option.map_some, List.drop_succ_cons, List.drop_zero]
            iterate 11
              refine seqH_readG _ rfl (by rfl) (by rintro u ⟨hu1, hu2⟩; go_simp; with_reducible rfl) ?_
              try simp only [Act.put, List.setIfInBounds_toArray, List.set_cons_zero, List.set_cons_succ]
            refine seqH_moveG rfl (by rfl) (fun K hK => ?_)
            go_simp
            refine (all_any x.c _).mono ?_
            rintro e w5 ⟨a5, cc5, rfl, hr, hb, hn⟩
            have hI5 := Lib.hid (HI.out.run.drew.quiet hb)
            have d1 := (hI5.out.below.cell (p := ⟨b2, off2 + k * 5 + 1, none⟩) hbw).trans ((HI.out.run.below.cell (p := ⟨b2, off2 + k * 5 + 1, none⟩) hbw).symm.trans c1)
            have d2 := (hI5.out.below.cell (p := ⟨b2, off2 + k * 5 + 2, none⟩) hbw).trans ((HI.out.run.below.cell (p := ⟨b2, off2 + k * 5 + 2, none⟩) hbw).symm.trans c2)
            have K5 := Lib.hid (Kept.new (S := S) hr hn HI.out.run.drew.disk.lt)
            refine hK _ _ ⟨d1, d2⟩ ?_
            clear hK K
            try simp only [Act.put, List.setIfInBounds_toArray, List.set_cons_zero, List.set_cons_succ]
            refine seqH_moveG rfl (by rfl) (fun K hK => ?_)
            go_simp
            refine (write_range g x.i D S _ _ hI5.out.disk (by rw [HI.out.size]; exact hrange)).mono ?_
            rintro e w6 ⟨rfl, rfl⟩
            refine hK _ _ ⟨d1, d2⟩ ?_
            have J := Lib.hid ((HI.out.still (((Below.refl _ _).drew).trans hb)).next (P' := From L2 (k + 1)) (fun i s h => by obtain ⟨j, y, h1, h2, h3, h4⟩ := h; exact ⟨j, y, by omega, h2, h3, h4⟩))
            have W6 := Lib.hid (HW.out.below (((Below.refl _ _).drew).trans hb))
            clear HW
            clear hK K HI c1 c2 d1 d2 hr hb hn hI5 K5
            try simp only [Act.put, List.setIfInBounds_toArray, List.set_cons_zero, List.set_cons_succ]
            refine seqH_nil ?_
            go_wp2
            go_roundw
            case rel => exact ⟨k + 1, S, D, by omega, by omega, by go_num, J.out, W6.out⟩
            case measure => simp [intOf]; omega
          · obtain ⟨xi, hxe⟩ : ∃ xi : Nat, x.i = xi := ⟨x.i.toNat, by omega⟩
            have hxi : xi < 4 := by omega
            have HXE := Lib.hid hxe
            rw [hxe] at c1
            clear hrange hxe
            go_wp2_with fail
            refine region_head 13 [0, 1, 2, 3, 4, 5, 6, 7, 8, 9, 10, 11, 12] [11, 12] (fun u => u.cell? ⟨b2, off2 + k * 5 + 1, none⟩ = some (.int .i64 (xi : Int)) ∧ u.cell? ⟨b2, off2 + k * 5 + 2, none⟩ = some (.int .u8 x.c.toNat)) (by kernel_rfl) (by kernel_rfl) ⟨c1, c2⟩ ?_
            simp only [pickO, List.append_eq, List.cons_append, List.nil_append, List.filterMap_cons, List.filterMap_nil, List.getElem?_cons_zero, List.getElem?_cons_succ, Option.map_some, List.drop_succ_cons, List.drop_zero]
            iterate 11
              refine seqH_readG _ rfl (by rfl) (by rintro u ⟨hu1, hu2⟩; go_simp; with_reducible rfl) ?_
              try simp only [Act.put, List.setIfInBounds_toArray, List.set_cons_zero, List.set_cons_succ]
            refine seqH_moveG rfl (by rfl) (fun K hK => ?_)
            go_simp
            refine (all_any x.c _).mono ?_
            rintro e w5 ⟨a5, cc5, rfl, hr, hb, hn⟩
            have hI5 := Lib.hid (HI.out.run.drew.quiet hb)
            have d1 := (hI5.out.below.cell (p := ⟨b2, off2 + k * 5 + 1, none⟩) hbw).trans ((HI.out.run.below.cell (p := ⟨b2, off2 + k * 5 + 1, none⟩) hbw).symm.trans c1)
            have d2 := (hI5.out.below.cell (p := ⟨b2, off2 + k * 5 + 2, none⟩) hbw).trans ((HI.out.run.below.cell (p := ⟨b2, off2 + k * 5 + 2, none⟩) hbw).symm.trans c2)
            have K5 := Lib.hid (Kept.new (S := S) hr hn HI.out.run.drew.disk.lt)
            refine hK _ _ ⟨d1, d2⟩ ?_
            clear hK K
            try simp only [Act.put, List.setIfInBounds_toArray, List.set_cons_zero, List.set_cons_succ]
            refine seqH_moveG rfl (by rfl) (fun K hK => ?_)
            go_simp
            refine (write_yes g xi D S a5 cc5 (sec x.c) _ hI5.out.disk (by rw [HI.out.size]; exact hxi) HI.out.can (by have := HI.out.few; omega) K5.out.at_ (fun p hp => (K5.out.off p hp).1)).mono ?_
            rintro e w6 ⟨rfl, S6, hd, ho, hs⟩
            have J := Lib.hid (Tried.put (P' := From L2 (k + 1)) (HI.out.still (((Below.refl _ _).drew).trans hb)) (fun i s h => by obtain ⟨j, y, h1, h2, h3, h4⟩ := h; exact ⟨j, y, by omega, h2, h3, h4⟩) ⟨k, x, by omega, HX.out, HXE.out, rfl⟩ hd ho hs)
            have W6 := Lib.hid ((HW.out.below (((Below.refl _ _).drew).trans hb)).step ho hs)
            clear HW
            have e1 := (J.out.run.below.cell (p := ⟨b2, off2 + k * 5 + 1, none⟩) hbw).trans ((HI.out.run.below.cell (p := ⟨b2, off2 + k * 5 + 1, none⟩) hbw).symm.trans c1)
            have e2 := (J.out.run.below.cell (p := ⟨b2, off2 + k * 5 + 2, none⟩) hbw).trans ((HI.out.run.below.cell (p := ⟨b2, off2 + k * 5 + 2, none⟩) hbw).symm.trans c2)
            refine hK _ _ ⟨e1, e2⟩ ?_
            clear hK K HI c1 c2 d1 d2 e1 e2 hr hb hn hI5 K5 hd ho hs
            try simp only [Act.put, List.setIfInBounds_toArray, List.set_cons_zero, List.set_cons_succ]
            refine seqH_nil ?_
            go_wp2
            go_roundw
            case rel => exact ⟨k + 1, S6, D.put xi (sec x.c), by omega, by omega, by go_num, J.out, W6.out⟩
            case measure => simp [intOf]; omega
        · by_cases hlt : k < n2
          · obtain rfl : k = 20 := by omega
            have hlt' : (20 : Int) < (n2 : Int) := by omega
            clear hgo
            go_wp2
            go_meet
            exact ⟨_, S, D, hk20, hk, HI.out, HW.out⟩
          · obtain rfl : k = n2 := by omega
            clear hgo hlt
            go_wp2
            go_meet
            exact ⟨_, S, D, hk20, hk, HI.out, HW.out⟩
      case rest =>
        obtain ⟨kk3, S6, D6, hkk3, hkn3, ht, hst⟩ := hcut
        obtain ⟨wd, rfl⟩ : ∃ wd : World, wd = wc := ⟨_, rfl⟩
        have I6 := Lib.hid ht
        have W6 := Lib.hid hst
        clear ht hst I4 W4
        have h3b := CameAt.below H3.out (by omega) I6.out.run.below
        go_wp2_with fail
        refine (cut_any g D6 S6 a3 n3 k3 L3 _ I6.out.run.disk h3b (fun p hp hs => ?_)).mono ?_
        · have h1 := H3B.out p hp hs
          exact fun hs2 => by have := I6.out.run.new _ hs2; omega
        rintro e w7 ⟨rfl, S7, hd, ho, hs⟩
        have R7 := Lib.hid (I6.out.run.to hd ho hs)
        have W7 := Lib.hid (W6.out.step ho hs)
        clear hd ho hs W6 h3b
        go_wp2_with fail
        refine (on_any g _ S7 _ R7.out.disk).mono ?_
        rintro e w8 ⟨rfl, S8, hd, ho, hs⟩
        have R8 := Lib.hid (R7.out.to hd ho hs)
        have W8 := Lib.hid (W7.out.step ho hs)
        clear hd ho hs R7 W7
        -- what each sector has
        have HS8 := Lib.hid (show ((D6.cut L3).on).secs = Dk.laid (Dk.keeps L3) D6.waits D6.secs from Dk.laid_false _ _)
        have HW8 := Lib.hid (show ((D6.cut L3).on).waits = [] from rfl)
        have HP8 := Lib.hid (show ((D6.cut L3).on).power = true from rfl)
        have hlen0 : s0.length = 4 := by rw [← I6.out.same, I6.out.size]
        have HL0 := Lib.hid hlen0
        have HCW := Lib.hid (fun q (hq : q < 4) => what_is D6 L2 kk3 L3 s0 q hq I6.out.same HL0.out I6.out.from_)
        clear hlen0 I6
        generalize (D6.cut L3).on = D8 at *
        go_wp2
        go_loopw [15] (fun s15 wr => ∃ q : Nat, q ≤ 4 ∧ s15 = .int .i64 q ∧ Run w wr S8 g D8 ∧ StrsAt w wr S8 (.slice aw 4 cw) s0) (fun s15 _ => 4 - (intOf s15).toNat)
        case atStart => exact ⟨0, by omega, rfl, R8.out, W8.out⟩
        case round =>
          obtain ⟨q, hq4, rfl, hrun, hst⟩ := hrel
          have HR := Lib.hid hrun
          have HW := Lib.hid hst
          clear hrun hst
          by_cases h4 : q < 4
          · have h4i : (q : Int) < 4 := by omega
            have hsl : D8.secs.length = 4 := by rw [HS8.out, Dk.laid_length]; have := HCW.out q h4; exact this.1
            have HSL := Lib.hid hsl
            clear hsl
            go_wp2_with fail
            refine (read_yes g q D8 S8 _ HR.out.disk (by rw [HSL.out]; exact h4) HP8.out).mono ?_
            rintro e w9 ⟨a9, c9, rfl, hr, hb, hn⟩
            have hcon : D8.content q = (Dk.laid (Dk.keeps L3) D6.waits D6.secs).getD q [] := by
              show Dk.over D8.waits q (D8.secs.getD q []) = _
              rw [HW8.out, HS8.out]; rfl
            rw [hcon] at hr
            have HQ := Lib.hid (HCW.out q h4)
            obtain ⟨gw, cw', hvw, hcw⟩ := (HW.out.below hb).cell (by rw [HL0.out]; omega)
            rw [HL0.out] at hvw
            simp only [Value.slice.injEq, true_and] at hvw
            obtain ⟨rfl, rfl⟩ := hvw
            have cw9 := hcw q (by rw [HL0.out]; exact h4)
            have HWI := Lib.hid (show s0.getD q [] = s0[q]'(by rw [HL0.out]; exact h4) by rw [List.getD, List.getElem?_eq_getElem]; rfl)
            have HR9 := Lib.hid (HR.out.quiet hb)
            have HW9 := Lib.hid (HW.out.below hb)
            have HC9 := Lib.hid hr
            have HQ' := Lib.hid (show ((Dk.laid (Dk.keeps L3) D6.waits D6.secs).getD q [] = s0[q]'(by rw [HL0.out]; exact h4) ∨ From L2 kk3 q ((Dk.laid (Dk.keeps L3) D6.waits D6.secs).getD q [])) ∧ (L3 = [] → (Dk.laid (Dk.keeps L3) D6.waits D6.secs).getD q [] = s0[q]'(by rw [HL0.out]; exact h4)) by rw [← HWI.out]; exact HQ.out.2)
            clear hr hb hn hcon hcw HQ HWI HR HW
            generalize (Dk.laid (Dk.keeps L3) D6.waits D6.secs).getD q [] = c at *
            generalize s0[q]'(by rw [HL0.out]; exact h4) = wi at *
            go_wp2
            refine region_head 7 [0, 1, 2, 3, 4, 5, 6] [] (fun u : World => BytesAt u a9 128 c9 c ∧ u.cell? ⟨gw, q, none⟩ = some (.string ⟨wi.toArray⟩)) (by kernel_rfl) (by kernel_rfl) ⟨HC9.out, cw9⟩ ?_
            simp only [pickO, List.append_eq, List.cons_append, List.nil_append, List.filterMap_cons, List.filterMap_nil, List.getElem?_cons_zero, List.getElem?_cons_succ, Option.map_some, List.drop_succ_cons, List.drop_zero]
            iterate 7
              refine seqH_readG _ rfl (by rfl) (by rintro u ⟨hu0, hu1⟩; have vb := hu0.conv; clear hu0; go_simp; with_reducible rfl) ?_
              try simp only [Act.put, List.setIfInBounds_toArray, List.set_cons_zero, List.set_cons_succ]
            refine seqH_nil ?_
            go_wp2
            have HC9' := Lib.hid cw9
            clear cw9
            go_loopw [18, 19] (fun s18 s19 wr => ∃ (m : Nat) (wb : Bool), m ≤ n2 ∧ m ≤ 20 ∧ s19 = .int .i64 m ∧ s18 = .bool wb ∧ (PP L2 wi c q m → wb = true) ∧ Run w wr S8 g D8 ∧ StrsAt w wr S8 (.slice (some ⟨gw, 0, none⟩) 4 cw) s0 ∧ BytesAt wr a9 128 c9 c ∧ wr.cell? ⟨gw, q, none⟩ = some (.string ⟨wi.toArray⟩)) (fun _ s19 _ => n2 - (intOf s19).toNat)
            case atStart => exact ⟨0, (c == wi), Nat.zero_le _, by omega, rfl, rfl, fun h => by rcases h with h | ⟨j, y, h1, _⟩; exact beq_iff_eq.2 h; omega, HR9.out.drew, HW9.out.below ((Below.refl _ _).drew), HC9.out, HC9'.out⟩
            case round =>
              obtain ⟨m, wb, hm, hm20, rfl, rfl, hP, hR, hW, hB, hC⟩ := hrel
              obtain ⟨wq, rfl⟩ : ∃ wq : World, wq = wr := ⟨_, rfl⟩
              clear HC9 HC9' HR9 HW9
              have HP := Lib.hid hP
              have HR9 := Lib.hid hR
              have HW9 := Lib.hid hW
              have HB9 := Lib.hid hB
              have HC9 := Lib.hid hC
              have hgw9 : gw < wq.heap.size := World.block_lt_of_cell? wq _ hC
              clear hP hR hW hB hC
              by_cases hgo : m < n2 ∧ m < 20
              · obtain ⟨hlt, h20⟩ := hgo
                have hL := H2.out.below (by omega) HR9.out.below
                obtain ⟨b2, off2, rfl, hbl, hcell⟩ := hL.at (by omega) (by omega)
                obtain ⟨x, hx⟩ : ∃ x, L2[m]? = some x := ⟨L2[m]'(by have := hL.1; omega), List.getElem?_eq_getElem _⟩
                have c1 : wq.cell? ⟨b2, off2 + m * 5 + 1, none⟩ = some (.int .i64 x.i) := by rw [Nat.add_assoc]; exact hcell m 1 x hx (by omega)
                have c2 : wq.cell? ⟨b2, off2 + m * 5 + 2, none⟩ = some (.int .u8 x.c.toNat) := by rw [Nat.add_assoc]; exact hcell m 2 x hx (by omega)
                have hlti : (m : Int) < (n2 : Int) := by omega
                have h20i : (m : Int) < 20 := by omega
                have hbw9 : b2 < wq.heap.size := hbl
                have HX := Lib.hid hx
                clear hL hcell hx hbl
                cases wb with
                | true =>
                  go_wp2
                  refine region_head 22 [0, 1, 2, 3, 4, 5, 6, 7, 8, 9, 10, 11, 12, 13, 14, 15, 16, 17, 18, 19, 20, 21] [17, 18] (fun u : World => BytesAt u a9 128 c9 c ∧ u.cell? ⟨b2, off2 + m * 5 + 1, none⟩ = some (.int .i64 x.i) ∧ u.cell? ⟨b2, off2 + m * 5 + 2, none⟩ = some (.int .u8 x.c.toNat)) (by kernel_rfl) (by kernel_rfl) ⟨HB9.out, c1, c2⟩ ?_
                  simp only [pickO, List.append_eq, List.cons_append, List.nil_append, List.filterMap_cons, List.filterMap_nil, List.getElem?_cons_zero, List.getElem?_cons_succ, Option.map_some, List.drop_succ_cons, List.drop_zero]
                  iterate 2
                    refine seqH_readG _ rfl (by rfl) (by rintro u ⟨hu0, hu1, hu2⟩; have vb := hu0.conv; clear hu0; go_simp; with_reducible rfl) ?_
                    try simp only [Act.put, List.setIfInBounds_toArray, List.set_cons_zero, List.set_cons_succ]
                  iterate 15
                    refine seqH_skip rfl (by rfl) ?_
                    try simp only [Act.put, List.setIfInBounds_toArray, List.set_cons_zero, List.set_cons_succ]
                  refine seqH_moveSkip rfl (by rfl) ⟨HB9.out, c1, c2⟩ ?_
                  try simp only [Act.put, List.setIfInBounds_toArray, List.set_cons_zero, List.set_cons_succ]
                  refine seqH_moveSkip rfl (by rfl) ⟨HB9.out, c1, c2⟩ ?_
                  try simp only [Act.put, List.setIfInBounds_toArray, List.set_cons_zero, List.set_cons_succ]
                  iterate 2
                    refine seqH_skip rfl (by rfl) ?_
                    try simp only [Act.put, List.setIfInBounds_toArray, List.set_cons_zero, List.set_cons_succ]
                  iterate 1
                    refine seqH_readG _ rfl (by rfl) (by rintro u ⟨hu0, hu1, hu2⟩; have vb := hu0.conv; clear hu0; go_simp; with_reducible rfl) ?_
                    try simp only [Act.put, List.setIfInBounds_toArray, List.set_cons_zero, List.set_cons_succ]
                  refine seqH_nil ?_
                  go_wp2
                  go_roundw
                  case rel => exact ⟨m + 1, true, by omega, by omega, by go_num, rfl, fun _ => rfl, HR9.out.drew, HW9.out.below ((Below.refl _ _).drew), HB9.out, HC9.out⟩
                  case measure => simp [intOf]; omega
                | false =>
                  by_cases hI : x.i = (q : Int)
                  · have hIb : (x.i == (q : Int)) = true := by rw [hI]; simp
                    have HI2 := Lib.hid hI
                    clear hI
                    go_wp2
                    refine region_head 22 [0, 1, 2, 3, 4, 5, 6, 7, 8, 9, 10, 11, 12, 13, 14, 15, 16, 17, 18, 19, 20, 21] [17, 18] (fun u : World => BytesAt u a9 128 c9 c ∧ u.cell? ⟨b2, off2 + m * 5 + 1, none⟩ = some (.int .i64 x.i) ∧ u.cell? ⟨b2, off2 + m * 5 + 2, none⟩ = some (.int .u8 x.c.toNat)) (by kernel_rfl) (by kernel_rfl) ⟨HB9.out, c1, c2⟩ ?_
                    simp only [pickO, List.append_eq, List.cons_append, List.nil_append, List.filterMap_cons, List.filterMap_nil, List.getElem?_cons_zero, List.getElem?_cons_succ, Option.map_some, List.drop_succ_cons, List.drop_zero]
                    iterate 17
                      refine seqH_readG _ rfl (by rfl) (by rintro u ⟨hu0, hu1, hu2⟩; have vb := hu0.conv; clear hu0; go_simp; with_reducible rfl) ?_
                      try simp only [Act.put, List.setIfInBounds_toArray, List.set_cons_zero, List.set_cons_succ]
                    refine seqH_moveG rfl (by rfl) (fun K hK => ?_)
                    go_simp
                    refine (all_any x.c _).mono ?_
                    rintro e w10 ⟨a10, cc10, rfl, hr, hb, hn⟩
                    have hbd : Below wq.heap.size wq w10 := ((Below.refl _ _).drew).trans hb
                    have HD0 := Lib.hid (HB9.out.below hbd)
                    have d1 := (hbd.cell (p := ⟨b2, off2 + m * 5 + 1, none⟩) hbw9).trans c1
                    have d2 := (hbd.cell (p := ⟨b2, off2 + m * 5 + 2, none⟩) hbw9).trans c2
                    have d3 := (hbd.cell (p := ⟨gw, q, none⟩) hgw9).trans HC9.out
                    have v10 := hr.conv
                    have HD3 := Lib.hid d3
                    have HR10 := Lib.hid (HR9.out.quiet hbd)
                    have HW10 := Lib.hid (HW9.out.below hbd)
                    refine hK _ _ ⟨HD0.out, d1, d2⟩ ?_
                    clear hK K hr hb hn hbd c1 c2 d3
                    try simp only [Act.put, List.setIfInBounds_toArray, List.set_cons_zero, List.set_cons_succ]
                    refine seqH_moveG rfl (by rfl) (fun K hK => ?_)
                    go_simp
                    refine hK _ _ ⟨HD0.out, d1, d2⟩ ?_
                    clear hK K v10
                    try simp only [Act.put, List.setIfInBounds_toArray, List.set_cons_zero, List.set_cons_succ]
                    iterate 3
                      refine seqH_readG _ rfl (by rfl) (by rintro u ⟨hu0, hu1, hu2⟩; have vb := hu0.conv; clear hu0; go_simp; with_reducible rfl) ?_
                      try simp only [Act.put, List.setIfInBounds_toArray, List.set_cons_zero, List.set_cons_succ]
                    refine seqH_nil ?_
                    go_wp2
                    go_roundw
                    case rel => exact ⟨m + 1, (c == sec x.c), by omega, by omega, by go_num, rfl, fun hp => by rcases pp_succ HX.out hp with h | h; exact absurd (HP.out h) (by simp); exact beq_iff_eq.2 h.2, HR10.out, HW10.out, HD0.out, HD3.out⟩
                    case measure => simp [intOf]; omega
                  · have hIb : (x.i == (q : Int)) = false := by rw [beq_eq_false_iff_ne]; exact hI
                    have HNI := Lib.hid hI
                    clear hI
                    go_wp2
                    refine region_head 22 [0, 1, 2, 3, 4, 5, 6, 7, 8, 9, 10, 11, 12, 13, 14, 15, 16, 17, 18, 19, 20, 21] [17, 18] (fun u : World => BytesAt u a9 128 c9 c ∧ u.cell? ⟨b2, off2 + m * 5 + 1, none⟩ = some (.int .i64 x.i) ∧ u.cell? ⟨b2, off2 + m * 5 + 2, none⟩ = some (.int .u8 x.c.toNat)) (by kernel_rfl) (by kernel_rfl) ⟨HB9.out, c1, c2⟩ ?_
                    simp only [pickO, List.append_eq, List.cons_append, List.nil_append, List.filterMap_cons, List.filterMap_nil, List.getElem?_cons_zero, List.getElem?_cons_succ, Option.map_some, List.drop_succ_cons, List.drop_zero]
                    iterate 10
                      refine seqH_readG _ rfl (by rfl) (by rintro u ⟨hu0, hu1, hu2⟩; have vb := hu0.conv; clear hu0; go_simp; with_reducible rfl) ?_
                      try simp only [Act.put, List.setIfInBounds_toArray, List.set_cons_zero, List.set_cons_succ]
                    iterate 7
                      refine seqH_skip rfl (by rfl) ?_
                      try simp only [Act.put, List.setIfInBounds_toArray, List.set_cons_zero, List.set_cons_succ]
                    refine seqH_moveSkip rfl (by rfl) ⟨HB9.out, c1, c2⟩ ?_
                    try simp only [Act.put, List.setIfInBounds_toArray, List.set_cons_zero, List.set_cons_succ]
                    refine seqH_moveSkip rfl (by rfl) ⟨HB9.out, c1, c2⟩ ?_
                    try simp only [Act.put, List.setIfInBounds_toArray, List.set_cons_zero, List.set_cons_succ]
                    iterate 1
                      refine seqH_skip rfl (by rfl) ?_
                      try simp only [Act.put, List.setIfInBounds_toArray, List.set_cons_zero, List.set_cons_succ]
                    iterate 2
                      refine seqH_readG _ rfl (by rfl) (by rintro u ⟨hu0, hu1, hu2⟩; have vb := hu0.conv; clear hu0; go_simp; with_reducible rfl) ?_
                      try simp only [Act.put, List.setIfInBounds_toArray, List.set_cons_zero, List.set_cons_succ]
                    refine seqH_nil ?_
                    go_wp2
                    go_roundw
                    case rel => exact ⟨m + 1, false, by omega, by omega, by go_num, rfl, fun hp => HP.out ((pp_succ HX.out hp).resolve_right (fun h => HNI.out h.1)), HR9.out.drew, HW9.out.below ((Below.refl _ _).drew), HB9.out, HC9.out⟩
                    case measure => simp [intOf]; omega
              · have hcwne : True := trivial
                by_cases hlt : m < n2
                · obtain rfl : m = 20 := by omega
                  have hlt' : (20 : Int) < (n2 : Int) := by omega
                  clear hgo
                  have hwb : wb = true := HP.out (HQ'.out.1.imp (fun h => h) (fun ⟨j, y, h1, h2⟩ => ⟨j, y, by omega, h2⟩))
                  subst hwb
                  by_cases hn3 : n3 = 0
                  · have hcw : c = wi := HQ'.out.2 (List.eq_nil_of_length_eq_zero (by rw [H3N.out]; exact hn3))
                    have hn3b : ((n3 : Int) == 0) = true := by rw [hn3]; rfl
                    clear hn3 hcwne
                    subst hcw
                    go_wp2
                    refine region_head 20 [0, 1, 2, 3, 4, 5, 6, 7, 8, 9, 10, 11, 12, 13, 14, 15, 16, 17, 18, 19] [] (fun u : World => BytesAt u a9 128 c9 c ∧ u.cell? ⟨gw, q, none⟩ = some (.string ⟨c.toArray⟩)) (by kernel_rfl) (by kernel_rfl) ⟨HB9.out, HC9.out⟩ ?_
                    simp only [pickO, List.append_eq, List.cons_append, List.nil_append, List.filterMap_cons, List.filterMap_nil, List.getElem?_cons_zero, List.getElem?_cons_succ, Option.map_some, List.drop_succ_cons, List.drop_zero]
                    iterate 20
                      refine seqH_readG _ rfl (by rfl) (by rintro u ⟨hu0, hu1⟩; have vb := hu0.conv; clear hu0; go_simp; with_reducible rfl) ?_
                      try simp only [Act.put, List.setIfInBounds_toArray, List.set_cons_zero, List.set_cons_succ]
                    refine seqH_nil ?_
                    go_wp2
                    go_roundw
                    case rel => exact ⟨q + 1, by omega, by go_num, HR9.out.drew, HW9.out.below ((Below.refl _ _).drew)⟩
                    case measure => simp [intOf]; omega
                  · have hn3b : ((n3 : Int) == 0) = false := by rw [beq_eq_false_iff_ne]; omega
                    clear hn3
                    go_wp2
                    refine region_head 20 [0, 1, 2, 3, 4, 5, 6, 7, 8, 9, 10, 11, 12, 13, 14, 15, 16, 17, 18, 19] [] (fun u : World => BytesAt u a9 128 c9 c ∧ u.cell? ⟨gw, q, none⟩ = some (.string ⟨wi.toArray⟩)) (by kernel_rfl) (by kernel_rfl) ⟨HB9.out, HC9.out⟩ ?_
                    simp only [pickO, List.append_eq, List.cons_append, List.nil_append, List.filterMap_cons, List.filterMap_nil, List.getElem?_cons_zero, List.getElem?_cons_succ, Option.map_some, List.drop_succ_cons, List.drop_zero]
                    iterate 11
                      refine seqH_readG _ rfl (by rfl) (by rintro u ⟨hu0, hu1⟩; have vb := hu0.conv; clear hu0; go_simp; with_reducible rfl) ?_
                      try simp only [Act.put, List.setIfInBounds_toArray, List.set_cons_zero, List.set_cons_succ]
                    iterate 7
                      refine seqH_skip rfl (by rfl) ?_
                      try simp only [Act.put, List.setIfInBounds_toArray, List.set_cons_zero, List.set_cons_succ]
                    iterate 2
                      refine seqH_readG _ rfl (by rfl) (by rintro u ⟨hu0, hu1⟩; have vb := hu0.conv; clear hu0; go_simp; with_reducible rfl) ?_
                      try simp only [Act.put, List.setIfInBounds_toArray, List.set_cons_zero, List.set_cons_succ]
                    refine seqH_nil ?_
                    go_wp2
                    go_roundw
                    case rel => exact ⟨q + 1, by omega, by go_num, HR9.out.drew, HW9.out.below ((Below.refl _ _).drew)⟩
                    case measure => simp [intOf]; omega
                · obtain rfl : m = n2 := by omega
                  clear hgo hlt
                  have hwb : wb = true := HP.out (HQ'.out.1.imp (fun h => h) (fun ⟨j, y, h1, h2⟩ => ⟨j, y, by omega, h2⟩))
                  subst hwb
                  by_cases hn3 : n3 = 0
                  · have hcw : c = wi := HQ'.out.2 (List.eq_nil_of_length_eq_zero (by rw [H3N.out]; exact hn3))
                    have hn3b : ((n3 : Int) == 0) = true := by rw [hn3]; rfl
                    clear hn3 hcwne
                    subst hcw
                    go_wp2
                    refine region_head 20 [0, 1, 2, 3, 4, 5, 6, 7, 8, 9, 10, 11, 12, 13, 14, 15, 16, 17, 18, 19] [] (fun u : World => BytesAt u a9 128 c9 c ∧ u.cell? ⟨gw, q, none⟩ = some (.string ⟨c.toArray⟩)) (by kernel_rfl) (by kernel_rfl) ⟨HB9.out, HC9.out⟩ ?_
                    simp only [pickO, List.append_eq, List.cons_append, List.nil_append, List.filterMap_cons, List.filterMap_nil, List.getElem?_cons_zero, List.getElem?_cons_succ, Option.map_some, List.drop_succ_cons, List.drop_zero]
                    iterate 20
                      refine seqH_readG _ rfl (by rfl) (by rintro u ⟨hu0, hu1⟩; have vb := hu0.conv; clear hu0; go_simp; with_reducible rfl) ?_
                      try simp only [Act.put, List.setIfInBounds_toArray, List.set_cons_zero, List.set_cons_succ]
                    refine seqH_nil ?_
                    go_wp2
                    go_roundw
                    case rel => exact ⟨q + 1, by omega, by go_num, HR9.out.drew, HW9.out.below ((Below.refl _ _).drew)⟩
                    case measure => simp [intOf]; omega
                  · have hn3b : ((n3 : Int) == 0) = false := by rw [beq_eq_false_iff_ne]; omega
                    clear hn3
                    go_wp2
                    refine region_head 20 [0, 1, 2, 3, 4, 5, 6, 7, 8, 9, 10, 11, 12, 13, 14, 15, 16, 17, 18, 19] [] (fun u : World => BytesAt u a9 128 c9 c ∧ u.cell? ⟨gw, q, none⟩ = some (.string ⟨wi.toArray⟩)) (by kernel_rfl) (by kernel_rfl) ⟨HB9.out, HC9.out⟩ ?_
                    simp only [pickO, List.append_eq, List.cons_append, List.nil_append, List.filterMap_cons, List.filterMap_nil, List.getElem?_cons_zero, List.getElem?_cons_succ, Option.map_some, List.drop_succ_cons, List.drop_zero]
                    iterate 11
                      refine seqH_readG _ rfl (by rfl) (by rintro u ⟨hu0, hu1⟩; have vb := hu0.conv; clear hu0; go_simp; with_reducible rfl) ?_
                      try simp only [Act.put, List.setIfInBounds_toArray, List.set_cons_zero, List.set_cons_succ]
                    iterate 7
                      refine seqH_skip rfl (by rfl) ?_
                      try simp only [Act.put, List.setIfInBounds_toArray, List.set_cons_zero, List.set_cons_succ]
                    iterate 2
                      refine seqH_readG _ rfl (by rfl) (by rintro u ⟨hu0, hu1⟩; have vb := hu0.conv; clear hu0; go_simp; with_reducible rfl) ?_
                      try simp only [Act.put, List.setIfInBounds_toArray, List.set_cons_zero, List.set_cons_succ]
                    refine seqH_nil ?_
                    go_wp2
                    go_roundw
                    case rel => exact ⟨q + 1, by omega, by go_num, HR9.out.drew, HW9.out.below ((Below.refl _ _).drew)⟩
                    case measure => simp [intOf]; omega
          · obtain rfl : q = 4 := by omega
            go_wp2_with fail
            refine (awake03 _).mono ?_
            rintro e w11 ⟨rfl, hb11⟩
            go_wp2
            go_ret
            exact ⟨rfl, HR.out.below.trans (hb11.mono HR.out.below.size)⟩

theorem own : ownKnob Try.prog.godebug = none := by kernel_rfl
theorem laidOut : laidOutB Try.prog = true := by kernel_rfl

set_option maxRecDepth 100000 in
theorem lifted (os : Os) (started : os.Started) (H : Type) (enc : TypeId × Value → H) :
    ReturnsInHanded {} Try.checked os 4 .any (Rows.diskKeepsSpec.pre6 enc Try.prog Try.f4 Rows.diskKeepsRow.domain false) (Rows.diskKeepsSpec.post enc Try.prog Try.f4 false true false false) := by
  refine returnsInHanded_of_change (C := Try.checked) own started (by kernel_rfl) Try.func4
    (ChangeSpec.witness6 (enc := enc) (C := Try.checked) false ⟨#[], #[.slice none 0 0, .slice none 0 0, .slice none 0 0], []⟩ 8 (by kernel_rfl) (by kernel_rfl) (by kernel_rfl) (by kernel_rfl)) ?_
  intro W base args ds gs before hval0 hW hcnd _
  have hval : ∀ (j : Nat) t v, Try.f4.params[j]? = some t → args[j]? = some v → Value.okWide Try.prog W .any base t v := hval0
  have hW' := hW
  obtain ⟨p, q, hA0, hV, rfl, hfz, hnd⟩ := hW
  have hA : DataW.TrodAll enc Try.prog W 0 (fun _ => true) true Try.f4.params.toList args.toList ds p := hA0
  rw [Try.params4] at hA hval
  obtain ⟨v0, vs0, d0, ds0, p0, q0, hargs, rfl, rfl, h0, r0⟩ := trodAll_cons hA
  obtain ⟨v1, vs1, d1, ds1, p1, q1, rfl, rfl, rfl, h1, r1⟩ := trodAll_cons r0
  obtain ⟨v2, vs2, d2, ds2, p2, q2, rfl, rfl, rfl, h2, r2⟩ := trodAll_cons r1
  obtain ⟨rfl, rfl, rfl⟩ := trodAll_nil r2
  obtain rfl : args = #[v0, v1, v2] := by cases args; simp_all
  obtain ⟨rfl, rfl⟩ := trodVars_none hV
  have k0 := h0
  have lt0 : ∀ x ∈ p0, x.block < W.heap.size := by obtain ⟨m, hm⟩ := k0; exact DataW.trod_lt m _ _ _ hm
  obtain ⟨a0, len0, cap0, l0, rfl, w0, g0⟩ := acts_of (hval 0 22 v0 rfl rfl) h0
  have k1 := h1
  have lt1 : ∀ x ∈ p1, x.block < W.heap.size := by obtain ⟨m, hm⟩ := k1; exact DataW.trod_lt m _ _ _ hm
  obtain ⟨a1, len1, cap1, l1, rfl, w1, g1⟩ := acts_of (hval 1 22 v1 rfl rfl) h1
  have k2 := h2
  have lt2 : ∀ x ∈ p2, x.block < W.heap.size := by obtain ⟨m, hm⟩ := k2; exact DataW.trod_lt m _ _ _ hm
  obtain ⟨a2, len2, cap2, l2, hcs2, w2⟩ : ∃ a n c l, v2 = .slice a n c ∧ BoolsAt W a n c l := by
    obtain ⟨a, n, c, rfl⟩ := okWide_slice Try.underlying31 (hval 2 31 v2 rfl rfl)
    obtain ⟨fuel, hf⟩ := h2
    obtain ⟨a', n', c', l, hcs, hb⟩ := bools_of hf
    simp [Value.cells] at hcs
    obtain ⟨rfl, rfl, rfl⟩ := hcs
    exact ⟨_, _, _, l, rfl, hb⟩
  subst hcs2
  clear hA0 hval0
  refine (walk a0 len0 cap0 l0 a1 len1 cap1 l1 a2 len2 cap2 l2 W w0 g0 w1 g1 w2).mono fun e W' ⟨he, bel⟩ => ?_
  subst he
  exact ⟨_, rfl, _, _, _, [], _, [], hW', trodAll_mk1 (shut_bool Try.underlying4 _), (trodAll_cons_mk (Below.trod laidOut (by kernel_rfl) (of_decide_eq_true (by kernel_rfl)) k0 bel lt0) (trodAll_cons_mk (Below.trod laidOut (by kernel_rfl) (of_decide_eq_true (by kernel_rfl)) k1 bel lt1) (trodAll_cons_mk (Below.trod laidOut (by kernel_rfl) (of_decide_eq_true (by kernel_rfl)) k2 bel lt2) trodAll_mk0))), rfl, bel.frame _, fun h => by cases h⟩

theorem proved : Rows.DiskKeepsSaid :=
  OpenClaim.holds_of_wide 4 Try.f4 rfl rfl rfl rfl rfl rfl rfl ⟨rfl, rfl, rfl, rfl, rfl⟩ rfl rfl rfl rfl rfl (by kernel_rfl) Try.func4 (by kernel_rfl)
    (of_decide_eq_true (by kernel_rfl)) (by unfold Func.isWrapper; first | (rw [if_pos (by decide +kernel)]; kernel_rfl) | (rw [if_neg (by decide +kernel)]; exact ⟨rfl, rfl⟩))
    (fun os started H enc _ => lifted os started H enc)
end Go.Proofs.Ytnohglcodloilaa.diskKeeps
