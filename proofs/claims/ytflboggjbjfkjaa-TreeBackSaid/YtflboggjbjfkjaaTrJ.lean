/-
  Contracts of hamperref06: page, key8, each, at8, Is.
-/
import Derived.Test.YtflboggjbjfkjaaTrI
import Derived.Test.YtflboggjbjfkjaaRefOct
import Derived.Test.YtflboggjbjfkjaaRefCrc
namespace Go.Proofs.Ytflboggjbjfkjaa
open Go.RowKit
set_option linter.unusedVariables false
set_option linter.unusedSimpArgs false
set_option maxRecDepth 100000

theorem infoStr : (Try.prog.info? 9).map (fun i => (i.zero, i.size, i.bytes)) = some (some (.string .empty), 1, 16) := by kernel_rfl
def strC (l : List UInt8) : List Value := [.string ⟨l.toArray⟩]
theorem strC_one (l : List UInt8) : ∀ u ∈ strC l, u.oneCell' = true := by
  intro u hu
  simp only [strC, List.mem_singleton] at hu
  subst hu
  rfl

/-- the octets of a string, laid down: what is known of the world behind -/
structure StrRow (w : World) (l : List UInt8) (G : Nat) (w' : World) : Prop where
  at_ : BytesAt w' (some ⟨w.heap.size, 0, none⟩) l.length G l
  below : Below w.heap.size w w'
  lt : w.heap.size < w'.heap.size

theorem str_bytes (w : World) (l : List UInt8) (hl : l.length ≤ 1073741824) :
    ∃ G w', (convert 9 34 (.string ⟨l.toArray⟩)).run Try.prog w = .ok (.slice (some ⟨w.heap.size, 0, none⟩) l.length G) w' ∧ StrRow w l G w' := by
  have h := run_bytes_of_string w 9 34 5 ⟨l.toArray⟩ Try.underlying9 Try.underlying34 Try.underlying5
  have hs : (⟨l.toArray⟩ : ByteArray).size = l.length := rfl
  rw [hs] at h
  refine ⟨_, _, h, ?_, ((Below.refl _ _).drew).alloc (by simp) _, by simp⟩
  have hge : l.length ≤ grownCap w l.length 0 5 := grownCap_ge w _ _ _
  have hle := grownCap_le_maxLen w l.length 0 5 (by unfold maxLen; omega)
  refine BytesAt.of_cells rfl hge hle fun i hi => ?_
  rw [Nat.zero_add, cell_of_row _ w.heap.size _ _ _ _ (heap_alloc_new w.drew _), bytesRow_at _ _ _ (by simpa using hi)]
  simp [List.getD, List.getElem?_eq_getElem hi]

theorem one_zero : (⟨#[0]⟩ : ByteArray) = ⟨([0] : List UInt8).toArray⟩ := rfl
def strLen : Value → Nat
  | .string b => b.size
  | _ => 0

theorem key8_any (v : Nat) (w : World) (hv : v < 18446744073709551616) :
    Calls Try.prog 21 #[.int .u64 v] w fun e w' => e = .returned (.string ⟨(leB 8 v).toArray⟩) ∧ Below w.heap.size w w' := by
  have CO := Lib.hid (rof_any v 8 w (by omega) (by omega) hv (by exact hv))
  go_enter Try.func21, Try.ntmps21
  go_wp2_with (go_at_call 23; refine (CO.out).mono ?_; rintro e w1 ⟨rfl, hb⟩)
  go_ret
  exact ⟨rfl, hb⟩

theorem each_any (k : Nat) (w : World) :
    Calls Try.prog 42 #[.int .u8 k] w fun e w' => e = .returned (.int .i64 (if k = 1 then 16 else if k = 2 then 10 else 0 : Nat)) ∧ w = w' := by
  by_cases h1 : k = 1
  · subst h1
    rw [if_pos rfl]
    go_enter Try.func42, Try.ntmps42
    go_wp2
    go_ret
    exact ⟨rfl, rfl⟩
  · rw [if_neg h1]
    have k1 : ¬ (k : Int) = 1 := by omega
    by_cases h2 : k = 2
    · subst h2
      rw [if_pos rfl]
      go_enter Try.func42, Try.ntmps42
      go_wp2
      go_ret
      exact ⟨rfl, rfl⟩
    · rw [if_neg h2]
      have k2 : ¬ (k : Int) = 2 := by omega
      go_enter Try.func42, Try.ntmps42
      go_wp2
      go_ret
      exact ⟨rfl, rfl⟩

theorem at8_any (l : List UInt8) (at_ : Nat) (w : World) (h : at_ + 8 ≤ l.length) (hl : l.length ≤ 1000000) :
    Calls Try.prog 43 #[.string ⟨l.toArray⟩, .int .i64 at_] w fun e w' => e = .returned (.int .u64 (le ((l.drop at_).take 8) : Nat)) ∧ w = w' := by
  have CN := rnum_ok ⟨l.toArray⟩ at_ 8 w (by omega) (by omega) (by exact h) (by show l.length ≤ _; omega)
  have e : (⟨l.toArray⟩ : ByteArray).data.toList = l := rfl
  rw [e] at CN
  have CN := Lib.hid CN
  clear h hl e
  generalize le ((l.drop at_).take 8) = v at *
  go_enter Try.func43, Try.ntmps43
  go_wp2_with (go_at_call 57; refine (CN.out).mono ?_; rintro e w1 ⟨rfl, rfl⟩)
  go_ret
  exact ⟨rfl, rfl⟩

set_option maxHeartbeats 1000000 in
theorem page6_any (l : List UInt8) (w : World) (hl : l.length ≤ 124) :
    Calls Try.prog 22 #[.string ⟨l.toArray⟩] w fun e w' => e = .returned (.string ⟨(padL (sealL l)).toArray⟩) ∧ Below w.heap.size w w' := by
  obtain ⟨G, w1, hcv, hsr⟩ := str_bytes w l (by omega)
  have CS := Lib.hid (rseal_any _ l.length G l w1 hsr.at_ (by omega))
  have HB1 := Lib.hid hsr.below
  have hsl := sealL_length l
  obtain ⟨pd, hpe⟩ : ∃ pd, padL (sealL l) = pd := ⟨_, rfl⟩
  have hpd : pd = sealL l ++ List.replicate (128 - (sealL l).length) 0 := by rw [← hpe]; rfl
  rw [hpe]
  have HPD := Lib.hid hpd
  clear hsr hpd hpe
  generalize hnn : l.length = n at *
  have HNN := Lib.hid hnn
  clear hnn
  go_enter Try.func22, Try.ntmps22
  go_wp2_with (go_at_call 36; refine (CS.out).mono ?_; rintro e w2 ⟨rfl, hb2⟩)
  have HB2 := Lib.hid (HB1.out.trans (hb2.mono HB1.out.size))
  clear hb2 hcv CS
  generalize sealL l = sl at *
  have HSL := Lib.hid hsl
  clear hsl
  go_loop [3] (fun x => ∃ (k : Nat) (C : List UInt8), k + n + 4 ≤ 128 ∧ x = .string ⟨C.toArray⟩ ∧ C = sl ++ List.replicate k 0 ∧ C.length = n + 4 + k) (fun x => 128 - strLen x)
  case atStart => exact ⟨0, sl, by omega, rfl, by simp, HSL.out⟩
  case round =>
    obtain ⟨k, C, hk, rfl, hC, hCl⟩ := hrel
    have HC := Lib.hid hC
    clear hC
    have hsz : (⟨C.toArray⟩ : ByteArray).size = n + 4 + k := hCl
    have ba := ba_app
    have oz := one_zero
    by_cases hlt : n + 4 + k < 128
    · have hov : C.length + ([0] : List UInt8).length ≤ 9223372036854775807 := by rw [hCl]; simp; omega
      have hnx := HC.out
      have HN := Lib.hid (show C ++ [0] = sl ++ List.replicate (k + 1) 0 by rw [hnx, List.append_assoc, List.replicate_succ']) 
      clear hnx
      go_wp2
      refine ⟨⟨k + 1, C ++ [0], by omega, rfl, HN.out, by rw [List.length_append, hCl]; rfl⟩, ?_⟩
      show 128 - (C ++ [0]).length < 128 - C.length
      rw [List.length_append, hCl]
      simp
      omega
    · have hk128 : k = 128 - sl.length := by rw [HSL.out]; omega
      have hfin : C = pd := by rw [HPD.out, HC.out, ← hk128]
      have HF := Lib.hid hfin
      clear hfin hk128
      go_wp2
      go_ret
      exact ⟨by rw [← HF.out]; rfl, HB2.out⟩

theorem take_cons2 (a b : UInt8) (r : List UInt8) (m : Nat) : (⟨(a :: b :: r).toArray⟩ : ByteArray).extract 0 m = ⟨((a :: b :: r).take m).toArray⟩ := by
  apply ByteArray.ext
  rw [ByteArray.data_extract]
  simp

theorem isP_cons (a b : UInt8) (r : List UInt8) : isP (a :: b :: r) = (decide ((a :: b :: r).length = 128) && (mayN a.toNat b.toNat && decide (padL (sealL ((a :: b :: r).take (2 + ewN a.toNat * b.toNat))) = a :: b :: r))) := rfl

set_option maxHeartbeats 4000000 in
theorem is_any (l : List UInt8) (w : World) (hl : l.length ≤ 1000000) :
    Calls Try.prog 28 #[.string ⟨l.toArray⟩] w fun e w' => e = .returned (.bool (isP l)) ∧ Below w.heap.size w w' := by
  by_cases h128 : l.length = 128
  · match l, h128 with
    | a :: b :: r, h128 =>
      have hr : r.length = 126 := by simpa using h128
      have CE := Lib.hid (fun u => each_any a.toNat u)
      have hcons := isP_cons a b r
      rw [decide_eq_true h128, Bool.true_and] at hcons
      have HCONS := Lib.hid hcons
      have HM := Lib.hid (fun h => mayN_size (k := a.toNat) (c := b.toNat) h)
      have ha := a.toNat_lt
      have hb := b.toNat_lt
      clear hl h128 hcons
      generalize isP (a :: b :: r) = ans at *
      by_cases k1 : a.toNat = 1
      · obtain rfl : a = 1 := UInt8.toNat_inj.1 k1
        have C1 := Lib.hid (fun u => each_any 1 u)
        simp only [if_true] at C1
        clear k1 ha CE
        have hix1 : ∀ h, (⟨(1 :: b :: r).toArray⟩ : ByteArray)[1]'h = b := fun _ => rfl
        have hix0 : ∀ h, (⟨(1 :: b :: r).toArray⟩ : ByteArray)[0]'h = 1 := fun _ => rfl
        by_cases hb7 : 7 < b.toNat
        · have h7 : (7 : Int) < (b.toNat : Int) := by omega
          have hans := HCONS.out
          rw [show mayN (1 : UInt8).toNat b.toNat = false from decide_eq_false (by simp; omega), Bool.false_and] at hans
          subst hans
          go_enter Try.func28, Try.ntmps28
          go_wp2_with (go_at_call 42; refine (C1.out _).mono ?_; rintro e w1 ⟨rfl, rfl⟩)
          go_ret
          exact ⟨rfl, Below.refl _ _⟩
        · have h7 : ¬ (7 : Int) < (b.toNat : Int) := by omega
          have hans := HCONS.out
          rw [show mayN (1 : UInt8).toNat b.toNat = true from decide_eq_true (by simp; omega), Bool.true_and] at hans
          obtain ⟨q, hq⟩ : ∃ q, 2 + 16 * b.toNat = q := ⟨_, rfl⟩
          have hq2 : q ≤ 122 := by omega
          have hqi : (2 : Int) + 16 * (b.toNat : Int) = (q : Int) := by omega
          rw [show 2 + ewN (1 : UInt8).toNat * b.toNat = q from hq] at hans
          have HANS := Lib.hid hans
          have HQI := Lib.hid hqi
          have CP := Lib.hid (fun u => page6_any ((1 :: b :: r).take q) u (by rw [List.length_take]; omega))
          clear hans HCONS hq hqi
          go_enter Try.func28, Try.ntmps28
          go_upto_region 3 with (go_at_call 42; refine (C1.out _).mono ?_; rintro e w1 ⟨rfl, rfl⟩)
          refine region_head 14 [0, 1, 2, 4, 5, 6, 11, 3, 7, 8, 9, 10, 12, 13] [3, 10] (fun u => True) (by kernel_rfl) (by kernel_rfl) trivial ?_
          simp only [pickO, List.filterMap_cons, List.filterMap_nil, List.getElem?_cons_zero, List.getElem?_cons_succ, Option.map_some, List.drop_succ_cons, List.drop_zero]
          iterate 5
            refine seqH_read _ rfl rfl (by rintro u hu; clear hu; go_simp; with_reducible rfl) ?_
            try simp only [Act.put, List.setIfInBounds_toArray, List.set_cons_zero, List.set_cons_succ]
          refine seqH_read (.int .i64 (b.toNat : Int)) rfl rfl (by rintro u hu; clear hu; go_simp; rw [IntWalk.i64_in _ (by omega)]) ?_
          try simp only [Act.put, List.setIfInBounds_toArray, List.set_cons_zero, List.set_cons_succ]
          refine seqH_read _ rfl rfl (by rintro u hu; clear hu; go_simp; with_reducible rfl) ?_
          try simp only [Act.put, List.setIfInBounds_toArray, List.set_cons_zero, List.set_cons_succ]
          refine seqH_move rfl rfl (fun K hK => ?_)
          go_simp
          refine (C1.out _).mono ?_
          rintro e w1 ⟨rfl, rfl⟩
          refine hK _ _ trivial ?_
          clear hK K
          try simp only [Act.put, List.setIfInBounds_toArray, List.set_cons_zero, List.set_cons_succ]
          refine seqH_read (.int .i64 (16 * (b.toNat : Int))) rfl rfl (by rintro u hu; clear hu; go_simp; rw [IntWalk.i64_in _ (by omega)]) ?_
          try simp only [Act.put, List.setIfInBounds_toArray, List.set_cons_zero, List.set_cons_succ]
          refine seqH_read (.int .i64 (q : Int)) rfl rfl (by rintro u hu; clear hu; go_simp; rw [HQI.out, IntWalk.i64_in _ (by omega)]) ?_
          try simp only [Act.put, List.setIfInBounds_toArray, List.set_cons_zero, List.set_cons_succ]
          refine seqH_read (.string ⟨((1 :: b :: r).take q).toArray⟩) rfl rfl (by rintro u hu; clear hu; go_simp; try (rw [take_cons2]); try (rw [if_pos (by omega)])) ?_
          try simp only [Act.put, List.setIfInBounds_toArray, List.set_cons_zero, List.set_cons_succ]
          refine seqH_move rfl rfl (fun K hK => ?_)
          go_simp
          refine (CP.out _).mono ?_
          rintro e w2 ⟨rfl, hb2⟩
          refine hK _ _ trivial ?_
          clear hK K
          try simp only [Act.put, List.setIfInBounds_toArray, List.set_cons_zero, List.set_cons_succ]
          iterate 2
            refine seqH_read _ rfl rfl (by rintro u hu; clear hu; go_simp; with_reducible rfl) ?_
            try simp only [Act.put, List.setIfInBounds_toArray, List.set_cons_zero, List.set_cons_succ]
          refine seqH_nil ?_
          go_wp2
          go_ret
          exact ⟨by rw [HANS.out, ← list_beq]; rfl, ((Below.refl _ _).drew).trans hb2⟩
      · by_cases k2 : a.toNat = 2
        · obtain rfl : a = 2 := UInt8.toNat_inj.1 k2
          have C1 := Lib.hid (fun u => each_any 2 u)
          simp only [show ¬ (2 : Nat) = 1 by omega, if_true, if_false] at C1
          clear k1 k2 ha CE
          have hix1 : ∀ h, (⟨(2 :: b :: r).toArray⟩ : ByteArray)[1]'h = b := fun _ => rfl
          have hix0 : ∀ h, (⟨(2 :: b :: r).toArray⟩ : ByteArray)[0]'h = 2 := fun _ => rfl
          by_cases hb7 : 12 < b.toNat
          · have h7 : (12 : Int) < (b.toNat : Int) := by omega
            have hans := HCONS.out
            rw [show mayN (2 : UInt8).toNat b.toNat = false from decide_eq_false (by simp; omega), Bool.false_and] at hans
            subst hans
            go_enter Try.func28, Try.ntmps28
            go_wp2_with (go_at_call 42; refine (C1.out _).mono ?_; rintro e w1 ⟨rfl, rfl⟩)
            go_ret
            exact ⟨rfl, Below.refl _ _⟩
          · by_cases hb0 : b.toNat = 0
            · obtain rfl : b = 0 := UInt8.toNat_inj.1 hb0
              have hans := HCONS.out
              rw [show mayN (2 : UInt8).toNat (0 : UInt8).toNat = false from by decide, Bool.false_and] at hans
              subst hans
              go_enter Try.func28, Try.ntmps28
              go_wp2_with (go_at_call 42; refine (C1.out _).mono ?_; rintro e w1 ⟨rfl, rfl⟩)
              go_ret
              exact ⟨rfl, Below.refl _ _⟩
            · have h7 : decide ((12 : Int) < (b.toNat : Int)) = false := decide_eq_false (by omega)
              have h0 : ((b.toNat : Int) == 0) = false := beq_eq_false_iff_ne.2 (by omega)
              have hans := HCONS.out
              rw [show mayN (2 : UInt8).toNat b.toNat = true from decide_eq_true (by simp; omega), Bool.true_and] at hans
              obtain ⟨q, hq⟩ : ∃ q, 2 + 10 * b.toNat = q := ⟨_, rfl⟩
              have hq2 : q ≤ 122 := by omega
              have hqi : (2 : Int) + 10 * (b.toNat : Int) = (q : Int) := by omega
              rw [show 2 + ewN (2 : UInt8).toNat * b.toNat = q from hq] at hans
              have HANS := Lib.hid hans
              have HQI := Lib.hid hqi
              have CP := Lib.hid (fun u => page6_any ((2 :: b :: r).take q) u (by rw [List.length_take]; omega))
              clear hans HCONS hq hqi
              go_enter Try.func28, Try.ntmps28
              go_upto_region 3 with (go_at_call 42; refine (C1.out _).mono ?_; rintro e w1 ⟨rfl, rfl⟩)
              refine region_head 14 [0, 1, 2, 4, 5, 6, 11, 3, 7, 8, 9, 10, 12, 13] [3, 10] (fun u => True) (by kernel_rfl) (by kernel_rfl) trivial ?_
              simp only [pickO, List.filterMap_cons, List.filterMap_nil, List.getElem?_cons_zero, List.getElem?_cons_succ, Option.map_some, List.drop_succ_cons, List.drop_zero]
              iterate 5
                refine seqH_read _ rfl rfl (by rintro u hu; clear hu; go_simp; with_reducible rfl) ?_
                try simp only [Act.put, List.setIfInBounds_toArray, List.set_cons_zero, List.set_cons_succ]
              refine seqH_read (.int .i64 (b.toNat : Int)) rfl rfl (by rintro u hu; clear hu; go_simp; rw [IntWalk.i64_in _ (by omega)]) ?_
              try simp only [Act.put, List.setIfInBounds_toArray, List.set_cons_zero, List.set_cons_succ]
              refine seqH_read _ rfl rfl (by rintro u hu; clear hu; go_simp; with_reducible rfl) ?_
              try simp only [Act.put, List.setIfInBounds_toArray, List.set_cons_zero, List.set_cons_succ]
              refine seqH_move rfl rfl (fun K hK => ?_)
              go_simp
              refine (C1.out _).mono ?_
              rintro e w1 ⟨rfl, rfl⟩
              refine hK _ _ trivial ?_
              clear hK K
              try simp only [Act.put, List.setIfInBounds_toArray, List.set_cons_zero, List.set_cons_succ]
              refine seqH_read (.int .i64 (10 * (b.toNat : Int))) rfl rfl (by rintro u hu; clear hu; go_simp; rw [IntWalk.i64_in _ (by omega)]) ?_
              try simp only [Act.put, List.setIfInBounds_toArray, List.set_cons_zero, List.set_cons_succ]
              refine seqH_read (.int .i64 (q : Int)) rfl rfl (by rintro u hu; clear hu; go_simp; rw [HQI.out, IntWalk.i64_in _ (by omega)]) ?_
              try simp only [Act.put, List.setIfInBounds_toArray, List.set_cons_zero, List.set_cons_succ]
              refine seqH_read (.string ⟨((2 :: b :: r).take q).toArray⟩) rfl rfl (by rintro u hu; clear hu; go_simp; try (rw [take_cons2]); try (rw [if_pos (by omega)])) ?_
              try simp only [Act.put, List.setIfInBounds_toArray, List.set_cons_zero, List.set_cons_succ]
              refine seqH_move rfl rfl (fun K hK => ?_)
              go_simp
              refine (CP.out _).mono ?_
              rintro e w2 ⟨rfl, hb2⟩
              refine hK _ _ trivial ?_
              clear hK K
              try simp only [Act.put, List.setIfInBounds_toArray, List.set_cons_zero, List.set_cons_succ]
              iterate 2
                refine seqH_read _ rfl rfl (by rintro u hu; clear hu; go_simp; with_reducible rfl) ?_
                try simp only [Act.put, List.setIfInBounds_toArray, List.set_cons_zero, List.set_cons_succ]
              refine seqH_nil ?_
              go_wp2
              go_ret
              exact ⟨by rw [HANS.out, ← list_beq]; rfl, ((Below.refl _ _).drew).trans hb2⟩
        · have hans := HCONS.out
          rw [show mayN a.toNat b.toNat = false from decide_eq_false (by omega), Bool.false_and] at hans
          have C1 := Lib.hid (fun u => each_any a.toNat u)
          simp only [k1, k2, if_false] at C1
          have hix0 : ∀ h, (⟨(a :: b :: r).toArray⟩ : ByteArray)[0]'h = a := fun _ => rfl
          have hix1 : ∀ h, (⟨(a :: b :: r).toArray⟩ : ByteArray)[1]'h = b := fun _ => rfl
          subst hans
          clear k1 k2 CE
          go_enter Try.func28, Try.ntmps28
          go_wp2_with (go_at_call 42; refine (C1.out _).mono ?_; rintro e w1 ⟨rfl, rfl⟩)
          go_ret
          exact ⟨rfl, Below.refl _ _⟩
  · have hp : isP l = false := by unfold isP; rw [decide_eq_false h128]; rfl
    have HP := Lib.hid hp
    have hne : ¬ ((l.length : Nat) : Int) = 128 := by omega
    clear hp
    go_enter Try.func28, Try.ntmps28
    go_wp2
    go_ret
    exact ⟨by rw [HP.out]; rfl, Below.refl _ _⟩

end Go.Proofs.Ytflboggjbjfkjaa
