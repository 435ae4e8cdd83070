/-
  On a budget just so many writes and flushes are done; then the power is off, and no more is done till it is given (P3.2, P3.3).
  No condition: whatever budget below 20, whatever is done.
-/
import Derived.Test.YtnohglcodloilaaDiskZ
import Derived.Test.YtnohglcodloilaaActs
import Derived.Deep.DeepCutAuto
import Derived.Deep.CutBlock
namespace Go.Proofs.Ytnohglcodloilaa.diskBudgets
open Go.ChangeShapes Go.WideShapes Go.ChangeAt Go.RowKit
open Go.ChangeMaps (open_string shut_string)
set_option linter.unusedVariables false
set_option linter.unusedSimpArgs false

/-- what the loop holds: so many were done of so many -/
structure Inv (w wr : World) (S : Nat → Prop) (g : Nat) (D : Dk) (q : Int) (j k : Nat) : Prop where
  run : Run w wr S g D
  size : D.secs.length = 4
  left : D.budget = q - j
  le : (j : Int) ≤ q
  off : D.power = false → (j : Int) = q
  few : D.waits.length ≤ k

theorem Inv.still {w wr wr' : World} {S : Nat → Prop} {g : Nat} {D : Dk} {q : Int} {j k : Nat} (h : Inv w wr S g D q j k) (hb : Below wr.heap.size wr wr') : Inv w wr' S g D q j k :=
  ⟨h.run.quiet hb, h.size, h.left, h.le, h.off, h.few⟩
theorem Inv.cant {w wr : World} {S : Nat → Prop} {g : Nat} {D : Dk} {q : Int} {j k : Nat} (h : Inv w wr S g D q j k) (hc : D.can = false) : (j : Int) = q := by
  cases hp : D.power with
  | false => exact h.off hp
  | true =>
    have hb : D.budget = 0 := by simpa [Dk.can, hp] using hc
    have := h.left
    omega
theorem Inv.no {w wr wr' : World} {S S' : Nat → Prop} {g : Nat} {D : Dk} {q : Int} {j k : Nat} (h : Inv w wr S g D q j k) (hc : D.can = false) (hd : DiskAt wr' S' g D.off) (ho : Only S wr wr') (hs : ∀ k, S' k → S k ∨ wr.heap.size ≤ k) : Inv w wr' S' g D.off q j (k + 1) :=
  ⟨h.run.to hd ho hs, h.size, h.left, h.le, fun _ => h.cant hc, Nat.le_succ_of_le h.few⟩
theorem paid_budget {D : Dk} {q : Int} {j : Nat} (h : D.budget = q - j) (hj : (j : Int) ≤ q) (hc : D.can = true) : D.paid.budget = q - ((j + 1 : Nat) : Int) ∧ ((j + 1 : Nat) : Int) ≤ q := by
  have hb : D.budget ≠ 0 := by simp [Dk.can] at hc; exact hc.2
  refine ⟨?_, by omega⟩
  show (if D.budget = -1 then (-1 : Int) else D.budget - 1) = _
  rw [if_neg (by omega)]; omega
theorem Inv.flush {w wr wr' : World} {S S' : Nat → Prop} {g : Nat} {D : Dk} {q : Int} {j k : Nat} (h : Inv w wr S g D q j k) (hc : D.can = true) (hd : DiskAt wr' S' g D.flushed) (ho : Only S wr wr') (hs : ∀ k, S' k → S k ∨ wr.heap.size ≤ k) : Inv w wr' S' g D.flushed q (j + 1) (k + 1) := by
  have hp := paid_budget h.left h.le hc
  refine ⟨h.run.to hd ho hs, (Dk.laid_length (fun _ => true) D.waits D.secs).trans h.size, hp.1, hp.2, fun hf => ?_, Nat.zero_le _⟩
  have : D.power = true := by simp [Dk.can] at hc; exact hc.1
  rw [show D.flushed.power = D.power from rfl, this] at hf
  cases hf
theorem Inv.put {w wr wr' : World} {S S' : Nat → Prop} {g : Nat} {D : Dk} {q : Int} {j k i : Nat} {s : List UInt8} (h : Inv w wr S g D q j k) (hc : D.can = true) (hd : DiskAt wr' S' g (D.put i s)) (ho : Only S wr wr') (hs : ∀ k, S' k → S k ∨ wr.heap.size ≤ k) : Inv w wr' S' g (D.put i s) q (j + 1) (k + 1) := by
  have hp := paid_budget h.left h.le hc
  refine ⟨h.run.to hd ho hs, h.size, hp.1, hp.2, fun hf => ?_, ?_⟩
  · have : D.power = true := by simp [Dk.can] at hc; exact hc.1
    rw [show (D.put i s).power = D.power from rfl, this] at hf
    cases hf
  · show (D.waits ++ [(i, s)]).length ≤ k + 1
    have := h.few
    simp; omega

set_option maxRecDepth 100000 in
set_option maxHeartbeats 4000000 in
theorem walk (i : Int) (a : Option Addr) (n cap : Nat) (L : List ActM) (w : World) (hi : (Lit.int .u8 i).wf = true) (hL : CameAt actC 5 w a n cap L) (hg : ∀ x ∈ L, x.Good w) :
    Calls Try.prog 6 #[.int .u8 i, .slice a n cap] w fun e w' => e = .returned (.bool true) ∧ Below w.heap.size w w' := by
  obtain ⟨i, rfl, hi1⟩ : ∃ x : Nat, i = x ∧ x < 256 := by
    simp [Lit.wf, IntKind.min, IntKind.max, IntKind.signed, IntKind.bits] at hi
    exact ⟨i.toNat, by omega, by omega⟩
  have HL := Lib.hid hL
  have hm : n ≤ 9223372036854775807 := by have := hL.2.1; have := hL.2.2.1; unfold maxLen at *; omega
  have hat0 : 0 ≤ (i : Int) % 20 := Int.emod_nonneg _ (by omega)
  have hat1 : (i : Int) % 20 < 20 := Int.emod_lt_of_pos _ (by omega)
  clear hL hg hi
  go_enter Try.func6, Try.ntmps6
  go_wp2_with fail
  refine (new_yes 4 _ (by omega) (by omega)).mono ?_
  rintro e w1 ⟨g, S1, rfl, hd1, hb1, hn1⟩
  have R1 := Lib.hid (Run.mk hd1 hb1 hn1)
  clear hd1 hb1 hn1
  go_wp2_with fail
  refine (budget_yes g _ (Dk.new 4) S1 _ R1.out.disk (by omega) (by omega)).mono ?_
  rintro e w2 ⟨rfl, S2, hd, ho, hs⟩
  have I2 := Lib.hid (show Inv w w2 S2 g { Dk.new 4 with budget := (i : Int) % 20 } ((i : Int) % 20) 0 0 from ⟨R1.out.to hd ho hs, by simp [Dk.new], by simp, by simpa using hat0, fun h => by simp [Dk.new] at h, Nat.le_refl _⟩)
  clear R1 hd ho hs
  go_wp2
  go_loopw [7, 8] (fun s7 s8 wr => ∃ (k j : Nat) (S : Nat → Prop) (D : Dk), k ≤ n ∧ k ≤ 40 ∧ j ≤ k ∧ s8 = .int .i64 k ∧ s7 = .int .i64 j ∧ Inv w wr S g D ((i : Int) % 20) j k) (fun _ s8 _ => n - (intOf s8).toNat)
  case atStart => exact ⟨0, 0, S2, _, Nat.zero_le _, by omega, Nat.le_refl _, rfl, rfl, I2.out⟩
  case round =>
    obtain ⟨k, j, S, D, hk, hk40, hjk, rfl, rfl, hinv⟩ := hrel
    have HI := Lib.hid hinv
    have hle : (j : Int) ≤ (i : Int) % 20 := hinv.le
    clear hinv
    by_cases hlt : k < n
    · by_cases h40 : k < 40
      · have hL := HL.out.below (by omega) HI.out.run.below
        obtain ⟨b, off, rfl, hbl, hcell⟩ := hL.at (by omega) (by omega)
        obtain ⟨x, hx⟩ : ∃ x, L[k]? = some x := ⟨L[k]'(by have := hL.1; omega), List.getElem?_eq_getElem _⟩
        have c0 : wr.cell? ⟨b, off + k * 5, none⟩ = some (.int .i64 x.act) := hcell k 0 x hx (by omega)
        have c2 : wr.cell? ⟨b, off + k * 5 + 2, none⟩ = some (.int .u8 x.c.toNat) := by rw [Nat.add_assoc]; exact hcell k 2 x hx (by omega)
        have hlti : (k : Int) < (n : Int) := by omega
        have h40i : (k : Int) < 40 := by omega
        have hbw : b < w.heap.size := by
          obtain ⟨b', off', he, hb', _⟩ := HL.out.at (by omega) (by omega)
          cases he; exact hb'
        have hz0 : 0 ≤ (x.c.toNat : Int) % 4 := Int.emod_nonneg _ (by omega)
        have hz1 : (x.c.toNat : Int) % 4 < 4 := Int.emod_lt_of_pos _ (by omega)
        have HZZ := Lib.hid (show IntKind.i64.wrap ((x.c.toNat : Int).tmod 4) = (x.c.toNat : Int) % 4 by rw [Int.tmod_eq_emod_of_nonneg (by omega), IntKind.wrap_i64]; omega)
        clear hL hcell hx hbl
        by_cases hcan : D.can = true
        · have HC := Lib.hid hcan
          clear hcan
          by_cases hdo : x.act = 2
          · have hd1 : (x.act == 2) = true := by simpa using hdo
            clear hdo
            go_wp2_with fail
            refine (flush_yes g D S _ HI.out.run.disk HC.out).mono ?_
            rintro e w3 ⟨rfl, S3, hd, ho, hs⟩
            have J := Lib.hid (HI.out.flush HC.out hd ho hs)
            clear hd ho hs c0 c2 HI HC
            go_wp2
            go_roundw
            case rel => exact ⟨k + 1, j + 1, S3, D.flushed, by omega, by omega, by omega, by go_num, by go_num, J.out⟩
            case measure => simp [intOf]; omega
          · have hd1 : (x.act == 2) = false := by simpa using hdo
            clear hdo
            go_wp2_with fail
            refine region_head 15 [0, 1, 2, 3, 4, 5, 6, 7, 8, 9, 10, 11, 12, 13, 14] [13, 14] (fun u => u.cell? ⟨b, off + k * 5 + 2, none⟩ = some (.int .u8 x.c.toNat)) (by kernel_rfl) (by kernel_rfl) c2 ?_
            simp only [pickO, List.append_eq, List.cons_append, List.nil_append, List.filterMap_cons, List.filterMap_nil, List.getElem?_cons_zero, List.getElem?_cons_succ, Option.map_some, List.drop_succ_cons, List.drop_zero]
            iterate 13
              refine seqH_readG _ rfl (by rfl) (by rintro u hu1; go_simp; with_reducible rfl) ?_
              try simp only [Act.put, List.setIfInBounds_toArray, List.set_cons_zero, List.set_cons_succ]
            refine seqH_moveG rfl (by rfl) (fun K hK => ?_)
            go_simp
            refine (all_any x.c _).mono ?_
            rintro e w5 ⟨a5, cc5, rfl, hr, hb, hn⟩
            have hI5 := Lib.hid (HI.out.run.drew.quiet hb)
            have d2 := (hI5.out.below.cell (p := ⟨b, off + k * 5 + 2, none⟩) hbw).trans ((HI.out.run.below.cell (p := ⟨b, off + k * 5 + 2, none⟩) hbw).symm.trans c2)
            have K5 := Lib.hid (Kept.new (S := S) hr hn HI.out.run.drew.disk.lt)
            refine hK _ _ d2 ?_
            clear hK K
            try simp only [Act.put, List.setIfInBounds_toArray, List.set_cons_zero, List.set_cons_succ]
            refine seqH_moveG rfl (by rfl) (fun K hK => ?_)
            go_simp
            refine (write_yesZ g _ D S a5 cc5 (sec x.c) _ hI5.out.disk (by rw [HZZ.out]; exact hz0) (by rw [HZZ.out, HI.out.size]; exact hz1) HC.out (by have := HI.out.few; omega) K5.out.at_ (fun p hp => (K5.out.off p hp).1)).mono ?_
            rintro e w6 ⟨rfl, S6, hd, ho, hs⟩
            have J := Lib.hid (Inv.put (HI.out.still (((Below.refl _ _).drew).trans hb)) HC.out hd ho hs)
            have e2 := (J.out.run.below.cell (p := ⟨b, off + k * 5 + 2, none⟩) hbw).trans ((HI.out.run.below.cell (p := ⟨b, off + k * 5 + 2, none⟩) hbw).symm.trans c2)
            refine hK _ _ e2 ?_
            clear hK K HI HC c0 c2 d2 e2 hr hb hn hI5 K5 hd ho hs
            try simp only [Act.put, List.setIfInBounds_toArray, List.set_cons_zero, List.set_cons_succ]
            refine seqH_nil ?_
            go_wp2
            go_roundw
            case rel => exact ⟨k + 1, j + 1, S6, _, by omega, by omega, by omega, by go_num, by go_num, J.out⟩
            case measure => simp [intOf]; omega
        · have HC := Lib.hid (show D.can = false by simpa using hcan)
          have hjq : ((j : Int) != (i : Int) % 20) = false := by have := HI.out.cant HC.out; rw [this]; simp
          clear hcan
          by_cases hdo : x.act = 2
          · have hd1 : (x.act == 2) = true := by simpa using hdo
            clear hdo
            go_wp2_with fail
            refine (flush_no g D S _ HI.out.run.disk HC.out).mono ?_
            rintro e w3 ⟨rfl, S3, hd, ho, hs⟩
            have J := Lib.hid (HI.out.no HC.out hd ho hs)
            clear hd ho hs c0 c2 HI HC
            go_wp2_with fail
            refine (power_any g D.off S3 _ J.out.run.disk).mono ?_
            rintro e w4 ⟨rfl, rfl⟩
            rw [show D.off.power = false from rfl]
            go_wp2
            go_roundw
            case rel => exact ⟨k + 1, j, S3, D.off, by omega, by omega, by omega, by go_num, rfl, J.out⟩
            case measure => simp [intOf]; omega
          · have hd1 : (x.act == 2) = false := by simpa using hdo
            clear hdo
            go_wp2_with fail
            refine region_head 15 [0, 1, 2, 3, 4, 5, 6, 7, 8, 9, 10, 11, 12, 13, 14] [13, 14] (fun u => u.cell? ⟨b, off + k * 5 + 2, none⟩ = some (.int .u8 x.c.toNat)) (by kernel_rfl) (by kernel_rfl) c2 ?_
            simp only [pickO, List.append_eq, List.cons_append, List.nil_append, List.filterMap_cons, List.filterMap_nil, List.getElem?_cons_zero, List.getElem?_cons_succ, Option.map_some, List.drop_succ_cons, List.drop_zero]
            iterate 13
              refine seqH_readG _ rfl (by rfl) (by rintro u hu1; go_simp; with_reducible rfl) ?_
              try simp only [Act.put, List.setIfInBounds_toArray, List.set_cons_zero, List.set_cons_succ]
            refine seqH_moveG rfl (by rfl) (fun K hK => ?_)
            go_simp
            refine (all_any x.c _).mono ?_
            rintro e w5 ⟨a5, cc5, rfl, hr, hb, hn⟩
            have hI5 := Lib.hid (HI.out.run.drew.quiet hb)
            have d2 := (hI5.out.below.cell (p := ⟨b, off + k * 5 + 2, none⟩) hbw).trans ((HI.out.run.below.cell (p := ⟨b, off + k * 5 + 2, none⟩) hbw).symm.trans c2)
            have K5 := Lib.hid (Kept.new (S := S) hr hn HI.out.run.drew.disk.lt)
            refine hK _ _ d2 ?_
            clear hK K
            try simp only [Act.put, List.setIfInBounds_toArray, List.set_cons_zero, List.set_cons_succ]
            refine seqH_moveG rfl (by rfl) (fun K hK => ?_)
            go_simp
            refine (write_offZ g _ D S a5 cc5 _ hI5.out.disk (by rw [HZZ.out]; exact hz0) (by rw [HZZ.out, HI.out.size]; exact hz1) HC.out).mono ?_
            rintro e w6 ⟨rfl, S6, hd, ho, hs⟩
            have J := Lib.hid (Inv.no (HI.out.still (((Below.refl _ _).drew).trans hb)) HC.out hd ho hs)
            have e2 := (J.out.run.below.cell (p := ⟨b, off + k * 5 + 2, none⟩) hbw).trans ((HI.out.run.below.cell (p := ⟨b, off + k * 5 + 2, none⟩) hbw).symm.trans c2)
            refine hK _ _ e2 ?_
            clear hK K HI HC c0 c2 d2 e2 hr hb hn hI5 K5 hd ho hs
            try simp only [Act.put, List.setIfInBounds_toArray, List.set_cons_zero, List.set_cons_succ]
            refine seqH_nil ?_
            go_wp2_with fail
            refine (power_any g D.off S6 _ J.out.run.disk).mono ?_
            rintro e w7 ⟨rfl, rfl⟩
            rw [show D.off.power = false from rfl]
            go_wp2
            go_roundw
            case rel => exact ⟨k + 1, j, S6, D.off, by omega, by omega, by omega, by go_num, rfl, J.out⟩
            case measure => simp [intOf]; omega
      · obtain rfl : k = 40 := by omega
        go_wp2_with fail
        refine (on_any g D S _ HI.out.run.disk).mono ?_
        rintro e w3 ⟨rfl, S3, hd, ho, hs⟩
        have R3 := Lib.hid (HI.out.run.to hd ho hs)
        clear hd ho hs HI
        go_wp2_with fail
        refine (power_any g D.on S3 _ R3.out.disk).mono ?_
        rintro e w4 ⟨rfl, rfl⟩
        rw [show D.on.power = true from rfl]
        go_wp2_with fail
        refine (waits_any g D.on S3 _ R3.out.disk).mono ?_
        rintro e w5 ⟨b5, rfl, _, _, hb⟩
        rw [show D.on.waits.length = 0 from rfl]
        have R5 := Lib.hid (R3.out.quiet hb)
        clear hb R3
        go_wp2_with fail
        refine (flush_yes g D.on S3 _ R5.out.disk rfl).mono ?_
        rintro e w6 ⟨rfl, S6, hd, ho, hs⟩
        have R6 := Lib.hid (R5.out.to hd ho hs)
        clear hd ho hs R5
        go_wp2_with fail
        refine (awake03 _).mono ?_
        rintro e w9 ⟨rfl, hb9⟩
        go_wp2
        go_ret
        exact ⟨rfl, R6.out.below.trans (hb9.mono R6.out.below.size)⟩
    · obtain rfl : k = n := by omega
      go_wp2_with fail
      refine (on_any g D S _ HI.out.run.disk).mono ?_
      rintro e w3 ⟨rfl, S3, hd, ho, hs⟩
      have R3 := Lib.hid (HI.out.run.to hd ho hs)
      clear hd ho hs HI
      go_wp2_with fail
      refine (power_any g D.on S3 _ R3.out.disk).mono ?_
      rintro e w4 ⟨rfl, rfl⟩
      rw [show D.on.power = true from rfl]
      go_wp2_with fail
      refine (waits_any g D.on S3 _ R3.out.disk).mono ?_
      rintro e w5 ⟨b5, rfl, _, _, hb⟩
      rw [show D.on.waits.length = 0 from rfl]
      have R5 := Lib.hid (R3.out.quiet hb)
      clear hb R3
      go_wp2_with fail
      refine (flush_yes g D.on S3 _ R5.out.disk rfl).mono ?_
      rintro e w6 ⟨rfl, S6, hd, ho, hs⟩
      have R6 := Lib.hid (R5.out.to hd ho hs)
      clear hd ho hs R5
      go_wp2_with fail
      refine (awake03 _).mono ?_
      rintro e w9 ⟨rfl, hb9⟩
      go_wp2
      go_ret
      exact ⟨rfl, R6.out.below.trans (hb9.mono R6.out.below.size)⟩

theorem own : ownKnob Try.prog.godebug = none := by kernel_rfl
theorem laidOut : laidOutB Try.prog = true := by kernel_rfl

set_option maxRecDepth 100000 in
theorem lifted (os : Os) (started : os.Started) (H : Type) (enc : TypeId × Value → H) :
    ReturnsInHanded {} Try.checked os 6 .any (Rows.diskBudgetsSpec.pre6 enc Try.prog Try.f6 Rows.diskBudgetsRow.domain false) (Rows.diskBudgetsSpec.post enc Try.prog Try.f6 false true false false) := by
  refine returnsInHanded_of_change (C := Try.checked) own started (by kernel_rfl) Try.func6
    (ChangeSpec.witness6 (enc := enc) (C := Try.checked) false ⟨#[], #[.int .u8 0, .slice none 0 0], []⟩ 8 (by kernel_rfl) (by kernel_rfl) (by kernel_rfl) (by kernel_rfl)) ?_
  intro W base args ds gs before hval0 hW hcnd _
  have hval : ∀ (j : Nat) t v, Try.f6.params[j]? = some t → args[j]? = some v → Value.okWide Try.prog W .any base t v := hval0
  have hW' := hW
  obtain ⟨p, q, hA0, hV, rfl, hfz, hnd⟩ := hW
  have hA : DataW.TrodAll enc Try.prog W 0 (fun _ => true) true Try.f6.params.toList args.toList ds p := hA0
  rw [Try.params6] at hA hval
  obtain ⟨v0, vs0, d0, ds0, p0, q0, hargs, rfl, rfl, h0, r0⟩ := trodAll_cons hA
  obtain ⟨v1, vs1, d1, ds1, p1, q1, rfl, rfl, rfl, h1, r1⟩ := trodAll_cons r0
  obtain ⟨rfl, rfl, rfl⟩ := trodAll_nil r1
  obtain rfl : args = #[v0, v1] := by cases args; simp_all
  obtain ⟨rfl, rfl⟩ := trodVars_none hV
  obtain ⟨a0, rfl, rfl, rfl, w0⟩ := open_int Try.underlying5 (hval 0 5 v0 rfl rfl) h0
  have k1 := h1
  have lt1 : ∀ x ∈ p1, x.block < W.heap.size := by obtain ⟨m, hm⟩ := k1; exact DataW.trod_lt m _ _ _ hm
  obtain ⟨a1, len1, cap1, l1, rfl, w1, g1⟩ := acts_of (hval 1 22 v1 rfl rfl) h1
  clear hA0 hval0
  refine (walk a0 a1 len1 cap1 l1 W w0 w1 g1).mono fun e W' ⟨he, bel⟩ => ?_
  subst he
  exact ⟨_, rfl, _, _, _, [], _, [], hW', trodAll_mk1 (shut_bool Try.underlying4 _), (trodAll_cons_mk (shut_int Try.underlying5 w0) (trodAll_cons_mk (Below.trod laidOut (by kernel_rfl) (of_decide_eq_true (by kernel_rfl)) k1 bel lt1) trodAll_mk0)), rfl, bel.frame _, fun h => by cases h⟩

theorem proved : Rows.DiskBudgetsSaid :=
  OpenClaim.holds_of_wide 6 Try.f6 rfl rfl rfl rfl rfl rfl rfl ⟨rfl, rfl, rfl, rfl, rfl⟩ rfl rfl rfl rfl rfl (by kernel_rfl) Try.func6 (by kernel_rfl)
    (of_decide_eq_true (by kernel_rfl)) (by unfold Func.isWrapper; first | (rw [if_pos (by decide +kernel)]; kernel_rfl) | (rw [if_neg (by decide +kernel)]; exact ⟨rfl, rfl⟩))
    (fun os started H enc _ => lifted os started H enc)
end Go.Proofs.Ytnohglcodloilaa.diskBudgets
