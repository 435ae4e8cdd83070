/-
  Whatever is done with a disk: each answer, what waits, what each sector has (P3.1, P3.2, P3.3).
  No condition: any size, any list of acts.
-/
import Derived.Test.YtnohglcodloilaaThree
import Derived.Test.YtnohglcodloilaaStrs
import Derived.Test.YtnohglcodloilaaDiskE
import Derived.Test.YtnohglcodloilaaDiskF
import Derived.Deep.DeepCutAuto
import Derived.Deep.CutBlock
import Derived.Deep.CutRange
import Derived.Deep.LoopGhost
namespace Go.Proofs.Ytnohglcodloilaa.diskPlays
open Go.ChangeShapes Go.WideShapes Go.ChangeAt Go.RowKit
open Go.ChangeMaps (open_string shut_string)
set_option linter.unusedVariables false
set_option linter.unusedSimpArgs false

set_option maxRecDepth 100000 in
set_option maxHeartbeats 8000000 in
theorem walk (n : Int) (a : Option Addr) (len cap : Nat) (L : List ActM) (w : World) (hn : (Lit.int .i64 n).wf = true) (hL : CameAt actC 5 w a len cap L) (hg : ∀ x ∈ L, x.Good w) :
    Calls Try.prog 3 #[.int .i64 n, .slice a len cap] w fun e w' => e = .returned (.bool true) ∧ Below w.heap.size w w' := by
  have HL := Lib.hid hL
  have HG := Lib.hid hg
  have hm : len ≤ 9223372036854775807 := by have := hL.2.1; have := hL.2.2.1; unfold maxLen at *; omega
  have hn' : -9223372036854775808 ≤ n ∧ n ≤ 9223372036854775807 := by
    simpa [Lit.wf, IntKind.min, IntKind.max, IntKind.signed, IntKind.bits] using hn
  obtain ⟨hnl, hnh⟩ := hn'
  clear hL hg hn
  by_cases hbad : n < 1 ∨ 2048 < n
  · have HB := Lib.hid hbad
    by_cases hb1 : n < 1
    · clear hbad
      as_aux_lemma =>
      go_enter Try.func3, Try.ntmps3
      go_wp2_with fail
      refine (new_no n _ HB.out).mono ?_
      rintro e w1 ⟨rfl, rfl⟩
      go_wp2_with fail
      refine (awake03 _).mono ?_
      rintro e w11 ⟨rfl, hb11⟩
      go_wp2
      go_ret
      exact ⟨rfl, hb11⟩
    · have hb2 : 2048 < n := by omega
      clear hbad
      as_aux_lemma =>
      go_enter Try.func3, Try.ntmps3
      go_wp2_with fail
      refine (new_no n _ HB.out).mono ?_
      rintro e w1 ⟨rfl, rfl⟩
      go_wp2_with fail
      refine (awake03 _).mono ?_
      rintro e w11 ⟨rfl, hb11⟩
      go_wp2
      go_ret
      exact ⟨rfl, hb11⟩
  obtain ⟨q, rfl⟩ := Int.eq_ofNat_of_zero_le (show 0 ≤ n by omega)
  have hq1 : 1 ≤ q := by omega
  have hq2 : q ≤ 2048 := by omega
  have hq1i : ¬ ((q : Int) < 1) := by omega
  have hq2i : ¬ ((2048 : Int) < (q : Int)) := by omega
  clear hbad hnl hnh
  go_enter Try.func3, Try.ntmps3
  go_wp2_with fail
  refine (new_yes q _ hq1 hq2).mono ?_
  rintro e w1 ⟨g, S1, rfl, hd1, hb1, hn1⟩
  have R1 := Lib.hid (Run.mk hd1 hb1 hn1)
  clear hd1 hb1 hn1
  go_wp2_with fail
  refine (size_any g (Dk.new q) S1 _ R1.out.disk).mono ?_
  rintro e w2 ⟨rfl, rfl⟩
  rw [show (Dk.new q).secs.length = q from List.length_replicate]
  go_wp2_with fail
  refine (power_any g (Dk.new q) S1 _ R1.out.disk).mono ?_
  rintro e w2 ⟨rfl, rfl⟩
  rw [show (Dk.new q).power = true from rfl]
  go_wp2_with fail
  refine (rnew_any q _ hq1 hq2).mono ?_
  rintro e w2 ⟨r, T1, rfl, hr, hb, hn⟩
  have I2 := Lib.hid (show Two w w2 S1 T1 g r (Dk.new q) (Dk.new q) from ⟨R1.out.quiet hb, hr, fun k hk => Nat.le_trans R1.out.below.size (hn k hk), fun k hS hT => by have := R1.out.disk.lt k hS; have := hn k hT; omega⟩)
  have F2 := Lib.hid (show Fit q 0 (Dk.new q) from ⟨List.length_replicate, Nat.le_refl _⟩)
  clear hr hb hn R1
  go_upto_block 0 with (fail)
  go_cut [5] (fun s5 wx => ∃ (g : Nat) (S T : Nat → Prop) (D : Dk), s5 = .pointer (some ⟨g, 0, none⟩) ∧ Two w wx S T g r D D ∧ Fit q 60 D)
  case first =>
   go_wp2
   go_loopg [5, 8] len (fun gk s5 s8 wr => ∃ (k g : Nat) (S T : Nat → Prop) (D : Dk), k ≤ len ∧ k ≤ 60 ∧ gk = len - k ∧ s8 = .int .i64 k ∧ s5 = .pointer (some ⟨g, 0, none⟩) ∧ Two w wr S T g r D D ∧ Fit q k D)
   case atStart => exact ⟨0, g, S1, T1, _, Nat.zero_le _, by omega, by omega, rfl, rfl, I2.out, F2.out⟩
   case round =>
    obtain ⟨k, g, S, T, D, hk, hk60, hgk, rfl, rfl, hinv, hfit⟩ := hrel
    have HI := Lib.hid hinv
    have HF := Lib.hid hfit
    have HGK := Lib.hid hgk
    clear hinv hfit hgk
    by_cases hgo : k < len ∧ k < 60
    · obtain ⟨hlt, h60⟩ := hgo
      have hL := HL.out.below (by omega) HI.out.run.below
      obtain ⟨b, off, rfl, hbl, hcell⟩ := hL.at (by omega) (by omega)
      obtain ⟨x, hx⟩ : ∃ x, L[k]? = some x := ⟨L[k]'(by have := hL.1; omega), List.getElem?_eq_getElem _⟩
      have GX := Lib.hid (HG.out x (List.mem_of_getElem? hx))
      have RX := Lib.hid (show wr.rangeAt b (off + k * 5) (actC x) from fun j v hj => by
        have h5 : j < 5 := by
          have := (List.getElem?_eq_some_iff.1 hj).1
          simpa [actC] using this
        rw [Nat.add_assoc, hcell k j x hx h5]; exact hj)
      have hlti : (k : Int) < (len : Int) := by omega
      have h60i : (k : Int) < 60 := by omega
      clear hL hcell hx hbl
      go_upto_block 2 with (first
        | (refine wpList_load_mid rfl 33 _ rfl b (off + k * 5) rfl (actC x) _ RX.out Try.underlying33 rfl (by kernel_rfl) ?_)
        | (refine wpList_store_row rfl _ _ _ rfl wr.heap.size (actC x).toArray rfl rfl 33 _ (heap_alloc_new wr _) (by kernel_rfl) rfl (by simpa using actC_one x) ?_
           generalize hwB : World.setRow _ wr.heap.size (actC x).toArray = wB
           have hsc : Scene w wB S T g r wr.heap.size D D x := by
             rw [← hwB]
             exact HI.out.scene rfl (below_setRow ((Below.refl _ _).alloc (Nat.le_refl _) _) (Nat.le_refl _) _) (heap_setRow_same _ _ _ _ _ (heap_alloc_new wr _))
           obtain ⟨c0, c1, c2, c3, c4⟩ := hsc.cells
           have SC := Lib.hid hsc
           clear hsc hwB))
      go_cut [5, 10, 11, 12, 13, 14, 15, 16, 17, 18, 19, 20] (fun s5 s10 s11 s12 s13 s14 s15 s16 s17 s18 s19 s20 wx => ∃ (g : Nat) (S T : Nat → Prop) (D : Dk), s5 = .pointer (some ⟨g, 0, none⟩) ∧ Two w wx S T g r D D ∧ Fit q (k + 1) D)
      case first =>
       by_cases h0 : x.act = 0
       · have e0 : (x.act == 0) = true := by simpa using h0
         clear h0
         as_aux_lemma =>
           go_wp2_with fail
           refine (read_all g x.i D S _ SC.out.run.disk).mono ?_
           rintro e w3 ⟨a3, m3, cap3, rfl, hr, hb⟩
           have S3 := Lib.hid (SC.out.quiet hb)
           have v3 := hr.conv
           clear hr hb SC c0 c1 c2 c3 c4
           obtain ⟨c0, c1, c2, c3, c4⟩ := S3.out.cells
           go_wp2_with fail
           refine (rread_all r x.i D T _ S3.out.ref).mono ?_
           rintro e w4 ⟨rfl, rfl⟩
           generalize rdOf D x.i = z at *
           obtain ⟨z1, z2⟩ := z
           dsimp only at *
           go_wp2
           go_meet
           exact ⟨g, S, T, D, rfl, S3.out.two, HF.out.le (by omega)⟩
       · have e0 : (x.act == 0) = false := by simpa using h0
         clear h0
         by_cases h1 : x.act = 1
         · have e1 : (x.act == 1) = true := by simpa using h1
           clear h1
           as_aux_lemma =>
             go_wp2_with fail
             refine (all_own x.c _).mono ?_
             rintro e w3 ⟨b3, rfl, hr, hb, hlo, hhi, hrow⟩
             have S3 := Lib.hid (SC.out.quiet hb)
             have P3 := Lib.hid (Pad.mk' SC.out hlo hrow)
             have HR3 := Lib.hid hr
             clear hr hb hlo hhi hrow SC c0 c1 c2 c3 c4
             obtain ⟨c0, c1, c2, c3, c4⟩ := S3.out.cells
             by_cases hs : x.short = true
             · rw [hs] at c3
               clear hs
               have HR4 := Lib.hid (show BytesAt w3 (some ⟨b3, 0, none⟩) 127 128 ((sec x.c).take 127) from (HR3.out.head (m := 127) (by omega)))
               have HLn := Lib.hid (show ((sec x.c).take 127).length = 127 by simp [sec])
               clear HR3
               have v4 := HR4.out.conv
               generalize ((sec x.c).take 127) = l4 at *
               go_wp2
               refine region_head 11 [0, 1, 2, 3, 5, 6, 7, 8, 4, 9, 10] [4, 9] (fun u : World => u.cell? ⟨wr.heap.size, 1, none⟩ = some (.int .i64 x.i)) (by kernel_rfl) (by kernel_rfl) c1 ?_
               simp only [pickO, List.append_eq, List.cons_append, List.nil_append, List.filterMap_cons, List.filterMap_nil, List.getElem?_cons_zero, List.getElem?_cons_succ, Option.map_some, List.drop_succ_cons, List.drop_zero]
               iterate 8
                 refine seqH_readG _ rfl (by rfl) (by rintro u hu1; go_simp; with_reducible rfl) ?_
                 try simp only [Act.put, List.setIfInBounds_toArray, List.set_cons_zero, List.set_cons_succ]
               refine seqH_moveG rfl (by rfl) (fun K hK => ?_)
               go_simp
               have S5 := Lib.hid (S3.out.quiet ((Below.refl _ _).drew))
               have P5 := Lib.hid (P3.out.quiet ((Below.refl _ _).drew))
               have HR5 := Lib.hid (HR4.out.below ((Below.refl _ _).drew))
               refine (write_all g x.i D S _ _ _ l4 _ S5.out.run.disk HR5.out (by have := HF.out.2; omega) (fun p hp => by cases hp; exact P5.out.offS)).mono ?_
               rintro e w6 ⟨rfl, S6, hd, ho, hs⟩
               have Z6 := Lib.hid (S5.out.disk hd ho hs)
               have P6 := Lib.hid (P5.out.disk ho hs)
               refine hK _ _ Z6.out.cells.2.1 ?_
               clear hK K hd ho hs S5 P5 HR5 S3 P3 c0 c1 c2 c3 c4
               try simp only [Act.put, List.setIfInBounds_toArray, List.set_cons_zero, List.set_cons_succ]
               refine seqH_moveG rfl (by rfl) (fun K hK => ?_)
               go_simp
               refine (rwrite_all r x.i D T 127 l4 _ Z6.out.ref HLn.out (by omega) (by have := HF.out.2; omega)).mono ?_
               rintro e w7 ⟨rfl, T7, hd, ho, hs⟩
               have Z7 := Lib.hid (Z6.out.refd hd ho hs)
               have P7 := Lib.hid (P6.out.refd ho hs)
               refine hK _ _ Z7.out.cells.2.1 ?_
               clear hK K hd ho hs Z6 P6
               have F7 := Lib.hid (HF.out.wr x.i 127 l4)
               generalize wrOf D x.i 127 l4 = z at *
               obtain ⟨z1, D7⟩ := z
               dsimp only at *
               try simp only [Act.put, List.setIfInBounds_toArray, List.set_cons_zero, List.set_cons_succ]
               iterate 1
                 refine seqH_readG _ rfl (by rfl) (by rintro u hu1; go_simp; with_reducible rfl) ?_
                 try simp only [Act.put, List.setIfInBounds_toArray, List.set_cons_zero, List.set_cons_succ]
               refine seqH_nil ?_
               clear v4 HR4
               go_wp2
               go_loopg [16] 127 (fun gk s16 wx => ∃ j : Nat, j ≤ 127 ∧ gk = 127 - j ∧ s16 = .int .i64 j ∧ Scene w wx S6 T7 g r wr.heap.size D7 D7 x ∧ Pad w wx S6 T7 wr.heap.size b3)
               case atStart => exact ⟨0, by omega, by omega, rfl, Z7.out, P7.out⟩
               case round =>
                 obtain ⟨j, hj, hgj, rfl, hz, hp⟩ := hrel
                 have Z8 := Lib.hid hz
                 have P8 := Lib.hid hp
                 have HGJ := Lib.hid hgj
                 clear hz hp hgj
                 by_cases hjl : j < 127
                 · obtain ⟨v8, hv8⟩ := P8.out.row.cell j (by omega)
                   have hf8 := P8.out.row.frozen j
                   have hjli : (j : Int) < 127 := by omega
                   go_wp2
                   go_roundg (127 - (j + 1))
                   case measure => have := HGJ.out; omega
                   case rel => exact ⟨j + 1, by omega, rfl, by go_num, Z8.out.padSet P8.out j _, P8.out.set j _⟩
                 · obtain rfl : j = 127 := by omega
                   go_wp2
                   go_meet
                   exact ⟨g, S6, T7, D7, rfl, Z8.out.two, F7.out⟩
             · have hs' : x.short = false := by simpa using hs
               rw [hs'] at c3
               clear hs hs'
               have HR4 := Lib.hid (show BytesAt w3 (some ⟨b3, 0, none⟩) 128 128 (sec x.c) from HR3.out)
               have HLn := Lib.hid (show (sec x.c).length = 128 by simp [sec])
               clear HR3
               have v4 := HR4.out.conv
               generalize (sec x.c) = l4 at *
               go_wp2
               refine region_head 11 [0, 1, 2, 3, 5, 6, 7, 8, 4, 9, 10] [4, 9] (fun u : World => u.cell? ⟨wr.heap.size, 1, none⟩ = some (.int .i64 x.i)) (by kernel_rfl) (by kernel_rfl) c1 ?_
               simp only [pickO, List.append_eq, List.cons_append, List.nil_append, List.filterMap_cons, List.filterMap_nil, List.getElem?_cons_zero, List.getElem?_cons_succ, Option.map_some, List.drop_succ_cons, List.drop_zero]
               iterate 8
                 refine seqH_readG _ rfl (by rfl) (by rintro u hu1; go_simp; with_reducible rfl) ?_
                 try simp only [Act.put, List.setIfInBounds_toArray, List.set_cons_zero, List.set_cons_succ]
               refine seqH_moveG rfl (by rfl) (fun K hK => ?_)
               go_simp
               have S5 := Lib.hid (S3.out.quiet ((Below.refl _ _).drew))
               have P5 := Lib.hid (P3.out.quiet ((Below.refl _ _).drew))
               have HR5 := Lib.hid (HR4.out.below ((Below.refl _ _).drew))
               refine (write_all g x.i D S _ _ _ l4 _ S5.out.run.disk HR5.out (by have := HF.out.2; omega) (fun p hp => by cases hp; exact P5.out.offS)).mono ?_
               rintro e w6 ⟨rfl, S6, hd, ho, hs⟩
               have Z6 := Lib.hid (S5.out.disk hd ho hs)
               have P6 := Lib.hid (P5.out.disk ho hs)
               refine hK _ _ Z6.out.cells.2.1 ?_
               clear hK K hd ho hs S5 P5 HR5 S3 P3 c0 c1 c2 c3 c4
               try simp only [Act.put, List.setIfInBounds_toArray, List.set_cons_zero, List.set_cons_succ]
               refine seqH_moveG rfl (by rfl) (fun K hK => ?_)
               go_simp
               refine (rwrite_all r x.i D T 128 l4 _ Z6.out.ref HLn.out (by omega) (by have := HF.out.2; omega)).mono ?_
               rintro e w7 ⟨rfl, T7, hd, ho, hs⟩
               have Z7 := Lib.hid (Z6.out.refd hd ho hs)
               have P7 := Lib.hid (P6.out.refd ho hs)
               refine hK _ _ Z7.out.cells.2.1 ?_
               clear hK K hd ho hs Z6 P6
               have F7 := Lib.hid (HF.out.wr x.i 128 l4)
               generalize wrOf D x.i 128 l4 = z at *
               obtain ⟨z1, D7⟩ := z
               dsimp only at *
               try simp only [Act.put, List.setIfInBounds_toArray, List.set_cons_zero, List.set_cons_succ]
               iterate 1
                 refine seqH_readG _ rfl (by rfl) (by rintro u hu1; go_simp; with_reducible rfl) ?_
                 try simp only [Act.put, List.setIfInBounds_toArray, List.set_cons_zero, List.set_cons_succ]
               refine seqH_nil ?_
               clear v4 HR4
               go_wp2
               go_loopg [16] 128 (fun gk s16 wx => ∃ j : Nat, j ≤ 128 ∧ gk = 128 - j ∧ s16 = .int .i64 j ∧ Scene w wx S6 T7 g r wr.heap.size D7 D7 x ∧ Pad w wx S6 T7 wr.heap.size b3)
               case atStart => exact ⟨0, by omega, by omega, rfl, Z7.out, P7.out⟩
               case round =>
                 obtain ⟨j, hj, hgj, rfl, hz, hp⟩ := hrel
                 have Z8 := Lib.hid hz
                 have P8 := Lib.hid hp
                 have HGJ := Lib.hid hgj
                 clear hz hp hgj
                 by_cases hjl : j < 128
                 · obtain ⟨v8, hv8⟩ := P8.out.row.cell j (by omega)
                   have hf8 := P8.out.row.frozen j
                   have hjli : (j : Int) < 128 := by omega
                   go_wp2
                   go_roundg (128 - (j + 1))
                   case measure => have := HGJ.out; omega
                   case rel => exact ⟨j + 1, by omega, rfl, by go_num, Z8.out.padSet P8.out j _, P8.out.set j _⟩
                 · obtain rfl : j = 128 := by omega
                   go_wp2
                   go_meet
                   exact ⟨g, S6, T7, D7, rfl, Z8.out.two, F7.out⟩
         · have e1 : (x.act == 1) = false := by simpa using h1
           clear h1
           by_cases h2 : x.act = 2
           · have e2 : (x.act == 2) = true := by simpa using h2
             clear h2
             as_aux_lemma =>
               go_wp2_with fail
               refine (flush_all g D S _ SC.out.run.disk).mono ?_
               rintro e w3 ⟨rfl, S3, hd, ho, hs⟩
               have Z3 := Lib.hid (SC.out.disk hd ho hs)
               clear hd ho hs SC c0 c1 c2 c3 c4
               go_wp2_with fail
               refine (rflush_all r D T _ Z3.out.ref).mono ?_
               rintro e w4 ⟨rfl, T4, hd, ho, hs⟩
               have Z4 := Lib.hid (Z3.out.refd hd ho hs)
               have F4 := Lib.hid (HF.out.fl)
               clear hd ho hs Z3
               generalize flOf D = z at *
               obtain ⟨z1, D7⟩ := z
               dsimp only at *
               go_wp2
               go_meet
               exact ⟨g, S3, T4, D7, rfl, Z4.out.two, F4.out.le (by omega)⟩
           · have e2 : (x.act == 2) = false := by simpa using h2
             clear h2
             by_cases h3 : x.act = 3
             · have e3 : (x.act == 3) = true := by simpa using h3
               clear h3
               as_aux_lemma =>
                 by_cases hlow : x.i < -1
                 · go_wp2_with fail
                   refine (budget_no g x.i _ hlow).mono ?_
                   rintro e w3 ⟨rfl, rfl⟩
                   go_wp2
                   go_meet
                   exact ⟨g, S, T, D, rfl, SC.out.two, HF.out.le (by omega)⟩
                 · go_wp2_with fail
                   refine (budget_yes g x.i D S _ SC.out.run.disk (by omega) GX.out.ihi).mono ?_
                   rintro e w3 ⟨rfl, S3, hd, ho, hs⟩
                   have Z3 := Lib.hid (SC.out.disk hd ho hs)
                   clear hd ho hs SC c0 c1 c2 c3 c4
                   obtain ⟨c0, c1, c2, c3, c4⟩ := Z3.out.cells
                   obtain ⟨vs, vw, hR⟩ := Z3.out.ref
                   obtain ⟨_, _, d2, _, df⟩ := ref_cells hR.blk
                   have HR := Lib.hid hR
                   clear hR
                   go_wp2
                   go_meet
                   exact ⟨g, S3, T, { D with budget := x.i }, rfl, (Z3.out.refd ⟨vs, vw, HR.out.setBudget x.i (by omega) GX.out.ihi⟩ (Only.setCell _ _ _ HR.out.self) (fun k hk => .inl hk)).two, HF.out.le (by omega)⟩
             · have e3 : (x.act == 3) = false := by simpa using h3
               clear h3
               by_cases h4 : x.act = 4
               · have e4 : (x.act == 4) = true := by simpa using h4
                 clear h4
                 as_aux_lemma =>
                   obtain ⟨hk1, hk2, hk3⟩ := SC.out.keep GX.out
                   have KA := Lib.hid hk1
                   have KB := Lib.hid hk2
                   clear hk1 hk2 hk3
                   go_wp2_with fail
                   refine (cut_any g D S x.ka x.kn x.kc x.keep _ SC.out.run.disk KA.out KB.out).mono ?_
                   rintro e w3 ⟨rfl, S3, hd, ho, hs⟩
                   have Z3 := Lib.hid (SC.out.disk hd ho hs)
                   clear hd ho hs SC c0 c1 c2 c3 c4 KA KB
                   obtain ⟨c0, c1, c2, c3, c4⟩ := Z3.out.cells
                   obtain ⟨hk1, hk2, hk3⟩ := Z3.out.keep GX.out
                   have KA := Lib.hid hk1
                   have KB := Lib.hid hk3
                   clear hk1 hk2 hk3
                   go_wp2_with fail
                   refine (rcut_any r D T x.ka x.kn x.kc x.keep _ Z3.out.ref KA.out KB.out).mono ?_
                   rintro e w4 ⟨rfl, T4, hd, ho, hs⟩
                   have Z4 := Lib.hid (Z3.out.refd hd ho hs)
                   clear hd ho hs Z3
                   go_wp2
                   go_meet
                   exact ⟨g, S3, T4, D.cut x.keep, rfl, Z4.out.two, (Dk.laid_length (Dk.keeps x.keep) D.waits D.secs).trans HF.out.1, Nat.zero_le _⟩
               · have e4 : (x.act == 4) = false := by simpa using h4
                 clear h4
                 by_cases h5 : x.act = 5
                 · have e5 : (x.act == 5) = true := by simpa using h5
                   clear h5
                   as_aux_lemma =>
                     go_wp2_with fail
                     refine (on_any g D S _ SC.out.run.disk).mono ?_
                     rintro e w3 ⟨rfl, S3, hd, ho, hs⟩
                     have Z3 := Lib.hid (SC.out.disk hd ho hs)
                     clear hd ho hs SC c0 c1 c2 c3 c4
                     go_wp2_with fail
                     refine (ron_any r D T _ Z3.out.ref).mono ?_
                     rintro e w4 ⟨rfl, T4, hd, ho, hs⟩
                     have Z4 := Lib.hid (Z3.out.refd hd ho hs)
                     clear hd ho hs Z3
                     go_wp2
                     go_meet
                     exact ⟨g, S3, T4, D.on, rfl, Z4.out.two, (Dk.laid_length (fun _ => false) D.waits D.secs).trans HF.out.1, Nat.zero_le _⟩
                 · have e5 : (x.act == 5) = false := by simpa using h5
                   clear h5
                   by_cases h6 : x.act = 6
                   · have e6 : (x.act == 6) = true := by simpa using h6
                     clear h6
                     as_aux_lemma =>
                       by_cases hneg : x.i < 0
                       · go_wp2_with fail
                         refine (has_no g x.i D S _ SC.out.run.disk (by have := HF.out.1; omega)).mono ?_
                         rintro e w3 ⟨rfl, rfl⟩
                         go_wp2
                         go_meet
                         exact ⟨g, S, T, D, rfl, SC.out.two, HF.out.le (by omega)⟩
                       · by_cases hbig : (q : Int) ≤ x.i
                         · go_wp2_with fail
                           refine (has_no g x.i D S _ SC.out.run.disk (by have := HF.out.1; omega)).mono ?_
                           rintro e w3 ⟨rfl, rfl⟩
                           go_wp2
                           go_meet
                           exact ⟨g, S, T, D, rfl, SC.out.two, HF.out.le (by omega)⟩
                         · obtain ⟨xi, hxe⟩ : ∃ xi : Nat, x.i = xi := ⟨x.i.toNat, by omega⟩
                           have hxq : xi < q := by omega
                           have hxqi : ¬ ((q : Int) ≤ (xi : Int)) := by omega
                           have HXE := Lib.hid hxe
                           rw [hxe] at c1
                           clear hneg hbig hxe
                           go_wp2_with fail
                           refine (has_yes g xi D S _ SC.out.run.disk (by have := HF.out.1; omega)).mono ?_
                           rintro e w3 ⟨a3, cap3, rfl, hr, hb, hn⟩
                           have S3 := Lib.hid (SC.out.quiet hb)
                           have HR3 := Lib.hid hr
                           have v3 := hr.conv
                           clear hr hb hn SC c0 c1 c2 c3 c4
                           obtain ⟨c0, c1, c2, c3, c4⟩ := S3.out.cells
                           rw [HXE.out] at c1
                           obtain ⟨vs, vw, hR⟩ := S3.out.ref
                           obtain ⟨d0, _, _, _, _⟩ := ref_cells hR.blk
                           have hsl : D.secs.length = q := HF.out.1
                           obtain ⟨gs, capv, hvs, _, _, _⟩ := hR.secs.form' (by omega)
                           subst hvs
                           rw [hsl] at d0
                           have d1 : w3.cell? ⟨gs, xi, none⟩ = some (.string ⟨(D.secs.getD xi []).toArray⟩) := by
                             have := hR.secs.cellAt xi 0 (D.secs.getD xi []) (by rw [List.getD, List.getElem?_eq_getElem (by omega)]; rfl) (by omega)
                             rw [show xi * 1 + 0 = xi by omega] at this
                             exact this
                           clear hR hsl
                           generalize D.secs.getD xi [] = l3 at *
                           have hxqi2 : (xi : Int) < (q : Int) := by omega
                           go_wp2
                           refine region_head 15 [0, 1, 2, 3, 4, 5, 6, 7, 8, 9, 10, 11, 12, 13, 14] [] (fun u : World => BytesAt u a3 128 cap3 l3 ∧ u.cell? ⟨r, 0, none⟩ = some (.slice (some ⟨gs, 0, none⟩) q capv) ∧ u.cell? ⟨wr.heap.size, 1, none⟩ = some (.int .i64 (xi : Int)) ∧ u.cell? ⟨gs, xi, none⟩ = some (.string ⟨l3.toArray⟩)) (by kernel_rfl) (by kernel_rfl) ⟨HR3.out, d0, c1, d1⟩ ?_
                           simp only [pickO, List.append_eq, List.cons_append, List.nil_append, List.filterMap_cons, List.filterMap_nil, List.getElem?_cons_zero, List.getElem?_cons_succ, Option.map_some, List.drop_succ_cons, List.drop_zero]
                           iterate 15
                             refine seqH_readG _ rfl (by rfl) (by rintro u ⟨hu0, hu1, hu2, hu3⟩; have vb := hu0.conv; clear hu0; go_simp; with_reducible rfl) ?_
                             try simp only [Act.put, List.setIfInBounds_toArray, List.set_cons_zero, List.set_cons_succ]
                           refine seqH_nil ?_
                           clear v3 HR3 d0 d1
                           go_wp2
                           go_meet
                           exact ⟨g, S, T, D, rfl, (S3.out.two.quiet ((Below.refl _ _).drew)), HF.out.le (by omega)⟩
                   · have e6 : (x.act == 6) = false := by simpa using h6
                     clear h6
                     as_aux_lemma =>
                       go_wp2_with fail
                       refine (clone_any g D S _ SC.out.run.disk).mono ?_
                       rintro e w3 ⟨g3, S3, rfl, hd, hb, hn⟩
                       obtain ⟨hz, ho⟩ := SC.out.clone hd hb hn
                       have Z3 := Lib.hid hz
                       have O3 := Lib.hid ho
                       clear hz ho hd hb hn SC c0 c1 c2 c3 c4
                       go_wp2_with fail
                       refine (all_own 77 _).mono ?_
                       rintro e w4 ⟨b4, rfl, hr, hb, hlo, hhi, hrow⟩
                       have Z4 := Lib.hid (Z3.out.quiet hb)
                       have O4 := Lib.hid (O3.out.quiet hb)
                       have HR4 := Lib.hid hr
                       have N4 := Lib.hid (show ¬ S b4 from fun hS => by have := O3.out.disk.lt b4 hS; omega)
                       clear hr hb hlo hhi hrow Z3 O3
                       go_wp2_with fail
                       refine (write_all g 0 D S _ _ _ _ _ O4.out.disk HR4.out (by have := HF.out.2; omega) (fun p hp => by cases hp; exact N4.out)).mono ?_
                       rintro e w5 ⟨rfl, S5, hd, ho, hs⟩
                       obtain ⟨hz, hk⟩ := Z4.out.old O4.out hd ho hs
                       have Z5 := Lib.hid hz
                       have O5 := Lib.hid hk
                       clear hz hk hd ho hs Z4 O4 HR4 N4
                       go_wp2_with fail
                       refine (flush_all g _ S5 _ O5.out.disk).mono ?_
                       rintro e w6 ⟨rfl, S6, hd, ho, hs⟩
                       obtain ⟨hz, hk⟩ := Z5.out.old O5.out hd ho hs
                       have Z6 := Lib.hid hz
                       clear hz hk hd ho hs Z5 O5
                       go_wp2
                       go_meet
                       exact ⟨g3, S3, T, D, rfl, Z6.out.two, HF.out.le (by omega)⟩
      case rest =>
       as_aux_lemma =>
         obtain ⟨g2, S2, T2, D2, rfl, ht, hf⟩ := hcut
         obtain ⟨wa, rfl⟩ : ∃ wa : World, wa = wc := ⟨_, rfl⟩
         have Z1 := Lib.hid ht
         have F1 := Lib.hid hf
         clear ht hf SC HI HF GX RX c0 c1 c2 c3 c4
         go_wp2_with fail
         refine (waits_any g2 D2 S2 _ Z1.out.run.disk).mono ?_
         rintro e w3 ⟨bW, rfl, hlo, hrec, hb⟩
         have Z3 := Lib.hid (Z1.out.quiet hb)
         have HW := Lib.hid hrec
         have hwl : D2.waits.length ≤ 61 := by have := F1.out.2; omega
         clear hlo hrec hb Z1
         obtain ⟨vs, vw, hR⟩ := Z3.out.ref
         obtain ⟨_, d1, _, d3, _⟩ := ref_cells hR.blk
         obtain ⟨aw, capw, hvw, hcw, hcm⟩ := hR.waits.form
         subst hvw
         have HR := Lib.hid hR
         obtain ⟨p, hp⟩ : ∃ p, D2.power = p := ⟨_, rfl⟩
         rw [hp] at d3
         have HPW := Lib.hid hp
         obtain ⟨m, hm'⟩ : ∃ m, D2.waits.length = m := ⟨_, rfl⟩
         have HMM := Lib.hid hm'
         rw [hm'] at d1 hwl hcw
         rw [hm']
         have HD1 := Lib.hid d1
         clear hR hp hm' hcw hcm
         cases p
         · go_wp2_with fail
           refine region_head 17 [0, 1, 2, 3, 4, 5, 6, 7, 8, 9, 11, 12, 13, 14, 10, 15, 16] [10] (fun u : World => u.cell? ⟨r, 1, none⟩ = some (.slice aw m capw) ∧ u.cell? ⟨r, 3, none⟩ = some (.bool true)) (by kernel_rfl) (by kernel_rfl) ⟨d1, d3⟩ ?_
           simp only [pickO, List.append_eq, List.cons_append, List.nil_append, List.filterMap_cons, List.filterMap_nil, List.getElem?_cons_zero, List.getElem?_cons_succ, Option.map_some, List.drop_succ_cons, List.drop_zero]
           iterate 14
             refine seqH_readG _ rfl (by rfl) (by rintro u ⟨hu1, hu3⟩; go_simp; with_reducible rfl) ?_
             try simp only [Act.put, List.setIfInBounds_toArray, List.set_cons_zero, List.set_cons_succ]
           refine seqH_moveG rfl (by rfl) (fun K hK => ?_)
           go_simp
           refine (power_is g2 D2 S2 _ false (Z3.out.quiet ((Below.refl _ _).drew)).run.disk HPW.out).mono ?_
           rintro e w4 ⟨rfl, rfl⟩
           refine hK _ _ ⟨d1, d3⟩ ?_
           clear hK K
           try simp only [Act.put, List.setIfInBounds_toArray, List.set_cons_zero, List.set_cons_succ]
           iterate 2
             refine seqH_readG _ rfl (by rfl) (by rintro u ⟨hu1, hu3⟩; go_simp; with_reducible rfl) ?_
             try simp only [Act.put, List.setIfInBounds_toArray, List.set_cons_zero, List.set_cons_succ]
           refine seqH_nil ?_
           have Z4 := Lib.hid (Z3.out.quiet ((Below.refl _ _).drew))
           have HW4 := Lib.hid (HW.out.below ((Below.refl _ _).drew))
           clear Z3 HW HR d1 d3 HD1
           go_wp2
           go_loopg [22] m (fun gj s22 wx => ∃ j : Nat, j ≤ m ∧ gj = m - j ∧ s22 = .int .i64 j ∧ Two w wx S2 T2 g2 r D2 D2 ∧ Recs intC wx 3 1 (.slice (some ⟨bW, 0, none⟩) D2.waits.length D2.waits.length) (D2.waits.map (·.1)))
           case atStart => exact ⟨0, by omega, by omega, rfl, Z4.out, HW4.out⟩
           case round =>
             obtain ⟨j, hj, hgj, rfl, hz, hw'⟩ := hrel
             have Z5 := Lib.hid hz
             have HW5 := Lib.hid hw'
             have HGJ := Lib.hid hgj
             clear hz hw' hgj
             by_cases hjl : j < m
             · obtain ⟨vs5, vw5, hR⟩ := Z5.out.ref
               obtain ⟨_, d1, _, d3, _⟩ := ref_cells hR.blk
               have hjw : j < D2.waits.length := by rw [HMM.out]; exact hjl
               obtain ⟨gL, capL, hvw, _, _, _⟩ := hR.waits.form' (by omega)
               subst hvw
               have hy : D2.waits[j]? = some D2.waits[j] := List.getElem?_eq_getElem hjw
               have d4 : wr.cell? ⟨gL, j * 2, none⟩ = some (.int .i64 (D2.waits[j].1 : Int)) := hR.waits.cellAt j 0 _ hy (by omega)
               have d5 : wr.cell? ⟨bW, j, none⟩ = some (.int .i64 (D2.waits[j].1 : Int)) := by
                 have := HW5.out.cellAt j 0 (D2.waits[j].1) (by rw [List.getElem?_map, hy]; rfl) (by omega)
                 rw [show j * 1 + 0 = j by omega] at this
                 exact this
               rw [HMM.out] at d1
               have hjli : (j : Int) < (m : Int) := by omega
               clear hR d3 hy
               generalize (D2.waits[j].1 : Int) = v5 at *
               go_wp2
               refine region_head 13 [0, 1, 2, 3, 4, 5, 6, 7, 8, 9, 10, 11, 12] [] (fun u : World => u.cell? ⟨r, 1, none⟩ = some (.slice (some ⟨gL, 0, none⟩) m capL) ∧ u.cell? ⟨gL, j * 2, none⟩ = some (.int .i64 v5) ∧ u.cell? ⟨bW, j, none⟩ = some (.int .i64 v5)) (by kernel_rfl) (by kernel_rfl) ⟨d1, d4, d5⟩ ?_
               simp only [pickO, List.append_eq, List.cons_append, List.nil_append, List.filterMap_cons, List.filterMap_nil, List.getElem?_cons_zero, List.getElem?_cons_succ, Option.map_some, List.drop_succ_cons, List.drop_zero]
               iterate 13
                 refine seqH_readG _ rfl (by rfl) (by rintro u ⟨hu1, hu2, hu3⟩; go_simp; with_reducible rfl) ?_
                 try simp only [Act.put, List.setIfInBounds_toArray, List.set_cons_zero, List.set_cons_succ]
               refine seqH_nil ?_
               clear d1 d4 d5
               go_wp2
               go_roundg (m - (j + 1))
               case measure => have := HGJ.out; omega
               case rel => exact ⟨j + 1, by omega, rfl, by go_num, Z5.out.quiet ((Below.refl _ _).drew), HW5.out.below ((Below.refl _ _).drew)⟩
             · obtain rfl : j = m := by omega
               go_wp2
               go_roundg (len - (k + 1))
               case measure => have := HGK.out; omega
               case rel => exact ⟨k + 1, g2, S2, T2, D2, by omega, by omega, rfl, by go_num, rfl, Z5.out, F1.out⟩
         · go_wp2_with fail
           refine region_head 17 [0, 1, 2, 3, 4, 5, 6, 7, 8, 9, 11, 12, 13, 14, 10, 15, 16] [10] (fun u : World => u.cell? ⟨r, 1, none⟩ = some (.slice aw m capw) ∧ u.cell? ⟨r, 3, none⟩ = some (.bool false)) (by kernel_rfl) (by kernel_rfl) ⟨d1, d3⟩ ?_
           simp only [pickO, List.append_eq, List.cons_append, List.nil_append, List.filterMap_cons, List.filterMap_nil, List.getElem?_cons_zero, List.getElem?_cons_succ, Option.map_some, List.drop_succ_cons, List.drop_zero]
           iterate 14
             refine seqH_readG _ rfl (by rfl) (by rintro u ⟨hu1, hu3⟩; go_simp; with_reducible rfl) ?_
             try simp only [Act.put, List.setIfInBounds_toArray, List.set_cons_zero, List.set_cons_succ]
           refine seqH_moveG rfl (by rfl) (fun K hK => ?_)
           go_simp
           refine (power_is g2 D2 S2 _ true (Z3.out.quiet ((Below.refl _ _).drew)).run.disk HPW.out).mono ?_
           rintro e w4 ⟨rfl, rfl⟩
           refine hK _ _ ⟨d1, d3⟩ ?_
           clear hK K
           try simp only [Act.put, List.setIfInBounds_toArray, List.set_cons_zero, List.set_cons_succ]
           iterate 2
             refine seqH_readG _ rfl (by rfl) (by rintro u ⟨hu1, hu3⟩; go_simp; with_reducible rfl) ?_
             try simp only [Act.put, List.setIfInBounds_toArray, List.set_cons_zero, List.set_cons_succ]
           refine seqH_nil ?_
           have Z4 := Lib.hid (Z3.out.quiet ((Below.refl _ _).drew))
           have HW4 := Lib.hid (HW.out.below ((Below.refl _ _).drew))
           clear Z3 HW HR d1 d3 HD1
           go_wp2
           go_loopg [22] m (fun gj s22 wx => ∃ j : Nat, j ≤ m ∧ gj = m - j ∧ s22 = .int .i64 j ∧ Two w wx S2 T2 g2 r D2 D2 ∧ Recs intC wx 3 1 (.slice (some ⟨bW, 0, none⟩) D2.waits.length D2.waits.length) (D2.waits.map (·.1)))
           case atStart => exact ⟨0, by omega, by omega, rfl, Z4.out, HW4.out⟩
           case round =>
             obtain ⟨j, hj, hgj, rfl, hz, hw'⟩ := hrel
             have Z5 := Lib.hid hz
             have HW5 := Lib.hid hw'
             have HGJ := Lib.hid hgj
             clear hz hw' hgj
             by_cases hjl : j < m
             · obtain ⟨vs5, vw5, hR⟩ := Z5.out.ref
               obtain ⟨_, d1, _, d3, _⟩ := ref_cells hR.blk
               have hjw : j < D2.waits.length := by rw [HMM.out]; exact hjl
               obtain ⟨gL, capL, hvw, _, _, _⟩ := hR.waits.form' (by omega)
               subst hvw
               have hy : D2.waits[j]? = some D2.waits[j] := List.getElem?_eq_getElem hjw
               have d4 : wr.cell? ⟨gL, j * 2, none⟩ = some (.int .i64 (D2.waits[j].1 : Int)) := hR.waits.cellAt j 0 _ hy (by omega)
               have d5 : wr.cell? ⟨bW, j, none⟩ = some (.int .i64 (D2.waits[j].1 : Int)) := by
                 have := HW5.out.cellAt j 0 (D2.waits[j].1) (by rw [List.getElem?_map, hy]; rfl) (by omega)
                 rw [show j * 1 + 0 = j by omega] at this
                 exact this
               rw [HMM.out] at d1
               have hjli : (j : Int) < (m : Int) := by omega
               clear hR d3 hy
               generalize (D2.waits[j].1 : Int) = v5 at *
               go_wp2
               refine region_head 13 [0, 1, 2, 3, 4, 5, 6, 7, 8, 9, 10, 11, 12] [] (fun u : World => u.cell? ⟨r, 1, none⟩ = some (.slice (some ⟨gL, 0, none⟩) m capL) ∧ u.cell? ⟨gL, j * 2, none⟩ = some (.int .i64 v5) ∧ u.cell? ⟨bW, j, none⟩ = some (.int .i64 v5)) (by kernel_rfl) (by kernel_rfl) ⟨d1, d4, d5⟩ ?_
               simp only [pickO, List.append_eq, List.cons_append, List.nil_append, List.filterMap_cons, List.filterMap_nil, List.getElem?_cons_zero, List.getElem?_cons_succ, Option.map_some, List.drop_succ_cons, List.drop_zero]
               iterate 13
                 refine seqH_readG _ rfl (by rfl) (by rintro u ⟨hu1, hu2, hu3⟩; go_simp; with_reducible rfl) ?_
                 try simp only [Act.put, List.setIfInBounds_toArray, List.set_cons_zero, List.set_cons_succ]
               refine seqH_nil ?_
               clear d1 d4 d5
               go_wp2
               go_roundg (m - (j + 1))
               case measure => have := HGJ.out; omega
               case rel => exact ⟨j + 1, by omega, rfl, by go_num, Z5.out.quiet ((Below.refl _ _).drew), HW5.out.below ((Below.refl _ _).drew)⟩
             · obtain rfl : j = m := by omega
               go_wp2
               go_roundg (len - (k + 1))
               case measure => have := HGK.out; omega
               case rel => exact ⟨k + 1, g2, S2, T2, D2, by omega, by omega, rfl, by go_num, rfl, Z5.out, F1.out⟩
    · by_cases hlt : k < len
      · obtain rfl : k = 60 := by omega
        have hlti : (60 : Int) < (len : Int) := by omega
        clear hgo
        go_wp2
        go_meet
        exact ⟨g, S, T, D, rfl, HI.out, HF.out⟩
      · obtain rfl : k = len := by omega
        clear hgo
        go_wp2
        go_meet
        exact ⟨g, S, T, D, rfl, HI.out, HF.out.le hk60⟩
  case rest =>
   as_aux_lemma =>
     obtain ⟨g2, S2, T2, D2, rfl, ht, hf⟩ := hcut
     obtain ⟨wa, rfl⟩ : ∃ wa : World, wa = wc := ⟨_, rfl⟩
     have Z1 := Lib.hid ht
     have hsl := hf.1
     have HSL := Lib.hid hsl
     clear ht hf hsl I2 F2
     go_wp2
     go_loopg [23] q (fun gk s23 wr => ∃ k : Nat, k ≤ q ∧ k ≤ 40 ∧ gk = q - k ∧ s23 = .int .i64 k ∧ Two w wr S2 T2 g2 r D2 D2)
     case atStart => exact ⟨0, by omega, by omega, by omega, rfl, Z1.out⟩
     case round =>
       obtain ⟨k, hk, hk40, hgk, rfl, hz⟩ := hrel
       have Z2 := Lib.hid hz
       have HGK := Lib.hid hgk
       clear hz hgk
       by_cases hkq : k < q
       · have hkqi : (k : Int) < (q : Int) := by omega
         by_cases hk4 : k < 40
         · have hk4i : (k : Int) < 40 := by omega
           go_wp2_with fail
           refine (has_yes g2 k D2 S2 _ Z2.out.run.disk (by rw [HSL.out]; exact hkq)).mono ?_
           rintro e w3 ⟨a3, cap3, rfl, hr, hb, hn⟩
           have Z3 := Lib.hid (Z2.out.quiet hb)
           have HR3 := Lib.hid hr
           have v3 := hr.conv
           clear hr hb hn Z2
           obtain ⟨vs, vw, hR⟩ := Z3.out.ref
           obtain ⟨d0, _, _, _, _⟩ := ref_cells hR.blk
           obtain ⟨gs, capv, hvs, _, _, _⟩ := hR.secs.form' (by rw [HSL.out]; omega)
           subst hvs
           rw [HSL.out] at d0
           have d1 : w3.cell? ⟨gs, k, none⟩ = some (.string ⟨(D2.secs.getD k []).toArray⟩) := by
             have := hR.secs.cellAt k 0 (D2.secs.getD k []) (by rw [List.getD, List.getElem?_eq_getElem (by rw [HSL.out]; exact hkq)]; rfl) (by omega)
             rw [show k * 1 + 0 = k by omega] at this
             exact this
           clear hR
           generalize D2.secs.getD k [] = l3 at *
           go_wp2
           refine region_head 14 [0, 1, 2, 3, 4, 5, 6, 7, 8, 9, 10, 11, 12, 13] [] (fun u : World => BytesAt u a3 128 cap3 l3 ∧ u.cell? ⟨r, 0, none⟩ = some (.slice (some ⟨gs, 0, none⟩) q capv) ∧ u.cell? ⟨gs, k, none⟩ = some (.string ⟨l3.toArray⟩)) (by kernel_rfl) (by kernel_rfl) ⟨HR3.out, d0, d1⟩ ?_
           simp only [pickO, List.append_eq, List.cons_append, List.nil_append, List.filterMap_cons, List.filterMap_nil, List.getElem?_cons_zero, List.getElem?_cons_succ, Option.map_some, List.drop_succ_cons, List.drop_zero]
           iterate 14
             refine seqH_readG _ rfl (by rfl) (by rintro u ⟨hu0, hu1, hu3⟩; have vb := hu0.conv; clear hu0; go_simp; with_reducible rfl) ?_
             try simp only [Act.put, List.setIfInBounds_toArray, List.set_cons_zero, List.set_cons_succ]
           refine seqH_nil ?_
           clear v3 HR3 d0 d1
           go_wp2
           go_roundg (q - (k + 1))
           case measure => have := HGK.out; omega
           case rel => exact ⟨k + 1, by omega, by omega, rfl, by go_num, Z3.out.quiet ((Below.refl _ _).drew)⟩
         · obtain rfl : k = 40 := by omega
           go_wp2_with fail
           refine (awake03 _).mono ?_
           rintro e w11 ⟨rfl, hb11⟩
           go_wp2
           go_ret
           exact ⟨rfl, Z2.out.run.below.trans (hb11.mono Z2.out.run.below.size)⟩
       · obtain rfl : k = q := by omega
         go_wp2_with fail
         refine (awake03 _).mono ?_
         rintro e w11 ⟨rfl, hb11⟩
         go_wp2
         go_ret
         exact ⟨rfl, Z2.out.run.below.trans (hb11.mono Z2.out.run.below.size)⟩


theorem own : ownKnob Try.prog.godebug = none := by kernel_rfl
theorem laidOut : laidOutB Try.prog = true := by kernel_rfl

set_option maxRecDepth 100000 in
theorem lifted (os : Os) (started : os.Started) (H : Type) (enc : TypeId × Value → H) :
    ReturnsInHanded {} Try.checked os 3 .any (Rows.diskPlaysSpec.pre6 enc Try.prog Try.f3 Rows.diskPlaysRow.domain false) (Rows.diskPlaysSpec.post enc Try.prog Try.f3 false true false false) := by
  refine returnsInHanded_of_change (C := Try.checked) own started (by kernel_rfl) Try.func3
    (ChangeSpec.witness6 (enc := enc) (C := Try.checked) false ⟨#[], #[.int .i64 0, .slice none 0 0], []⟩ 8 (by kernel_rfl) (by kernel_rfl) (by kernel_rfl) (by kernel_rfl)) ?_
  intro W base args ds gs before hval0 hW hcnd _
  have hval : ∀ (j : Nat) t v, Try.f3.params[j]? = some t → args[j]? = some v → Value.okWide Try.prog W .any base t v := hval0
  have hW' := hW
  obtain ⟨p, q, hA0, hV, rfl, hfz, hnd⟩ := hW
  have hA : DataW.TrodAll enc Try.prog W 0 (fun _ => true) true Try.f3.params.toList args.toList ds p := hA0
  rw [Try.params3] at hA hval
  obtain ⟨v0, vs0, d0, ds0, p0, q0, hargs, rfl, rfl, h0, r0⟩ := trodAll_cons hA
  obtain ⟨v1, vs1, d1, ds1, p1, q1, rfl, rfl, rfl, h1, r1⟩ := trodAll_cons r0
  obtain ⟨rfl, rfl, rfl⟩ := trodAll_nil r1
  obtain rfl : args = #[v0, v1] := by cases args; simp_all
  obtain ⟨rfl, rfl⟩ := trodVars_none hV
  obtain ⟨a0, rfl, rfl, rfl, w0⟩ := open_int Try.underlying3 (hval 0 3 v0 rfl rfl) h0
  have k1 := h1
  have lt1 : ∀ x ∈ p1, x.block < W.heap.size := by obtain ⟨m, hm⟩ := k1; exact DataW.trod_lt m _ _ _ hm
  obtain ⟨a1, len1, cap1, l1, rfl, w1, g1⟩ := acts_of (hval 1 22 v1 rfl rfl) h1
  clear hA0 hval0
  refine (walk a0 a1 len1 cap1 l1 W w0 w1 g1).mono fun e W' ⟨he, bel⟩ => ?_
  subst he
  exact ⟨_, rfl, _, _, _, [], _, [], hW', trodAll_mk1 (shut_bool Try.underlying4 _), (trodAll_cons_mk (shut_int Try.underlying3 w0) (trodAll_cons_mk (Below.trod laidOut (by kernel_rfl) (of_decide_eq_true (by kernel_rfl)) k1 bel lt1) trodAll_mk0)), rfl, bel.frame _, fun h => by cases h⟩

theorem proved : Rows.DiskPlaysSaid :=
  OpenClaim.holds_of_wide 3 Try.f3 rfl rfl rfl rfl rfl rfl rfl ⟨rfl, rfl, rfl, rfl, rfl⟩ rfl rfl rfl rfl rfl (by kernel_rfl) Try.func3 (by kernel_rfl)
    (of_decide_eq_true (by kernel_rfl)) (by unfold Func.isWrapper; first | (rw [if_pos (by decide +kernel)]; kernel_rfl) | (rw [if_neg (by decide +kernel)]; exact ⟨rfl, rfl⟩))
    (fun os started H enc _ => lifted os started H enc)
end Go.Proofs.Ytnohglcodloilaa.diskPlays
