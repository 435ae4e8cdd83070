/-
  awake of layer 5: the chapter's examples.
-/
import Derived.Test.YtcmhijhoemcdcaaSpT
import Derived.Test.YtcmhijhoemcdcaaSpH
namespace Go.Proofs.Ytcmhijhoemcdcaa
open Go.RowKit
set_option linter.unusedVariables false
set_option linter.unusedSimpArgs false
set_option maxRecDepth 100000

theorem ints1 (w : World) (z : Int) : IntsAt (w.alloc (.cells #[.int .i64 z] 3)) (some ⟨w.heap.size, 0, none⟩) 1 1 [z] := by
  refine ⟨rfl, Nat.le_refl _, by unfold maxLen; omega, by simp [intC], .inr ⟨_, rfl, fun i j x hx hj => ?_⟩⟩
  obtain rfl : j = 0 := by omega
  have hi : i < 1 := (List.getElem?_eq_some_iff.1 hx).1
  obtain rfl : i = 0 := by omega
  simp only [List.getElem?_cons_zero, Option.some.injEq] at hx
  subst hx
  rw [Addr.add_mid, cell_of_row _ _ _ _ _ _ (heap_alloc_new w _)]
  rfl
theorem ints2 (w : World) (y z : Int) : IntsAt (w.alloc (.cells #[.int .i64 y, .int .i64 z] 3)) (some ⟨w.heap.size, 0, none⟩) 2 2 [y, z] := by
  refine ⟨rfl, Nat.le_refl _, by unfold maxLen; omega, by simp [intC], .inr ⟨_, rfl, fun i j x hx hj => ?_⟩⟩
  obtain rfl : j = 0 := by omega
  have hi : i < 2 := (List.getElem?_eq_some_iff.1 hx).1
  rw [Addr.add_mid, cell_of_row _ _ _ _ _ _ (heap_alloc_new w _)]
  have hi2 : i = 0 ∨ i = 1 := by omega
  rcases hi2 with rfl | rfl
  · simp at hx; subst hx; rfl
  · simp at hx; subst hx; rfl

def f5 : List Bool := List.replicate 5 false
theorem aw_a : takeR f5 2 = ([true, true, false, false, false], [0, 1], 0) := by decide +kernel
theorem aw_b : turnF true 6 [true, true, false, false, false] [0] = (some [false, true, false, false, false], 0) := by decide +kernel
theorem aw_c : takeR [false, true, false, false, false] 2 = ([true, true, true, false, false], [0, 2], 0) := by decide +kernel
theorem aw_d : turnF false 15 [true, true, true, false, false] [3] = (some [true, true, true, true, false], 0) := by decide +kernel
theorem aw_x : turnF false 15 [true, true, false, false, false] [2] = (some [true, true, true, false, false], 0) := by decide +kernel
theorem aw_j : takeR [true, true, true, false, false] 3 = ([], [], 5) := by decide +kernel
theorem aw_o : packB [true, true, true, false, false] = [7] := by decide +kernel
theorem aw_n : [true, true, true, true, false].count true = 4 := by decide +kernel

/-! ### the contracts, as reading asks them -/
def SpRd (P : Value → Value) (F : List Bool) (u : World) (e : Ending) (w' : World) : Prop :=
  ∃ a n cap, e = .returned (P (.agg #[.int .i64 F.length, .slice a n cap])) ∧ SpAt w' F.length a n cap F ∧ Below u.heap.size u w'
def TakeRd (r : List Bool × List Nat × Int) (u : World) (e : Ending) (w' : World) : Prop :=
  ∃ a n cap a' cap', e = .returned (.tuple #[.agg #[.int .i64 r.1.length, .slice a n cap], .slice a' r.2.1.length cap', .int .i64 r.2.2]) ∧ SpAt w' r.1.length a n cap r.1 ∧ IntsAt w' a' r.2.1.length cap' (r.2.1.map Int.ofNat) ∧ Below u.heap.size u w'
theorem sp_rd {P : Program} {f : FuncId} {args : Array Value} {u : World} {Q : Value → Value} {F : List Bool} (hF : F.length ≤ 2048) (h : Calls P f args u (FreshSp Q F u)) : Calls P f args u (SpRd Q F u) :=
  h.mono fun _ _ ⟨a, n, cap, he, ho, hb⟩ => ⟨a, n, cap, he, FreshSp.at hF ho, hb⟩
theorem take_rd {P : Program} {f : FuncId} {args : Array Value} {u : World} {r : List Bool × List Nat × Int} (hF : r.1.length ≤ 2048) (h : Calls P f args u (TakeTo r u)) : Calls P f args u (TakeRd r u) :=
  h.mono fun _ _ ⟨a, n, cap, a', cap', he, ho, hi, hb⟩ => ⟨a, n, cap, a', cap', he, FreshSp.at hF ho, ints_owned hi, hb⟩
theorem takeR_len (F : List Bool) (k : Int) (h : F.length ≤ 2048) : (takeR F k).1.length ≤ 2048 := by
  unfold takeR
  split
  · simp
  · split
    · simp
    · simp only [markF_len]; exact h
theorem turnF_getD (st : Bool) (e : Int) (F : List Bool) (L : List Int) (h : F.length ≤ 2048) : ((turnF st e F L).1.getD []).length ≤ 2048 := by
  cases hx : (turnF st e F L).1 with
  | none => simp
  | some F' => have := turnF_len st e L F F' hx; simp; omega

def five (a : Option Addr) (n cap : Nat) : Value := .agg #[.int .i64 5, .slice a n cap]
theorem aw_take (F : List Bool) (hF : F.length = 5) (k : Int) (hk : 0 ≤ k) (r : List Bool × List Nat × Int) (hr : takeR F k = r) (a : Option Addr) (n cap : Nat) (u : World) (h : SpAt u 5 a n cap F) :
    Calls Try.prog 18 #[five a n cap, .int .i64 k] u (TakeRd r u) := by
  have := take_rd (takeR_len F k h.len) (take_ok 5 k a n cap F u h hk)
  rwa [hr] at this
theorem aw_give (F G : List Bool) (L : List Int) (hr : turnF true 6 F L = (some G, 0)) (hG : G.length ≤ 2048) (a : Option Addr) (n cap : Nat) (la : Option Addr) (ln lc : Nat) (u : World) (h : SpAt u 5 a n cap F) (hl : IntsAt u la ln lc L) :
    Calls Try.prog 19 #[five a n cap, .slice la ln lc] u (SpRd (fun v => .tuple #[v, .int .i64 0]) G u) := by
  have := give_ok 5 a n cap F la ln lc L u h hl
  rw [hr] at this
  exact sp_rd hG this
theorem aw_mark (F G : List Bool) (L : List Int) (hr : turnF false 15 F L = (some G, 0)) (hG : G.length ≤ 2048) (a : Option Addr) (n cap : Nat) (la : Option Addr) (ln lc : Nat) (u : World) (h : SpAt u 5 a n cap F) (hl : IntsAt u la ln lc L) :
    Calls Try.prog 20 #[five a n cap, .slice la ln lc] u (SpRd (fun v => .tuple #[v, .int .i64 0]) G u) := by
  have := mark_ok 5 a n cap F la ln lc L u h hl
  rw [hr] at this
  exact sp_rd hG this
theorem box_low {u v : World} {o : Obj} (h : Below (u.alloc o).heap.size (u.alloc o) v) : Below u.heap.size u v := ((Below.refl _ u).alloc (Nat.le_refl _) o).trans (h.mono (by simp))

set_option maxHeartbeats 4000000 in
theorem awake05 (w : World) : Calls Try.prog 17 #[] w fun e w' => e = .returned (.bool true) ∧ Below w.heap.size w w' := by
  have CN := Lib.hid (sp_rd (by decide) (new_ok 5 w (by omega)))
  go_enter Try.func17, Try.ntmps17
  go_wp2_with fail
  refine (CN.out).mono ?_
  rintro e w1 ⟨a1, n1, k1, rfl, S1, hb1⟩
  have hk1 : Below w1.heap.size w1 (w1.alloc (.cells #[.int .i64 5, .slice a1 n1 k1] 24)) := (Below.refl _ _).alloc (Nat.le_refl _) _
  have CA := Lib.hid (aw_take f5 rfl 2 (by omega) _ aw_a a1 n1 k1 _ (S1.below hk1))
  have B1 := Lib.hid (hb1.trans (hk1.mono hb1.size))
  clear CN S1 hk1 hb1
  unfold five at CA
  go_wp2_with fail
  refine (CA.out).mono ?_
  rintro e w2 ⟨a2, n2, k2, p2, d2, rfl, S2, I2, hb2⟩
  -- a and l
  have B2 := Lib.hid (B1.out.trans (hb2.mono B1.out.size))
  have X2 := Lib.hid S2
  have Y2 := Lib.hid I2
  clear CA S2 I2 hb2 B1
  have hk2 : Below w2.heap.size w2 ((w2.alloc (.cells #[.int .i64 5, .slice a2 n2 k2] 24)).alloc (.cells #[.int .i64 0] 3)) := ((Below.refl _ _).alloc (Nat.le_refl _) _).alloc (by simp) _
  have CG := Lib.hid (aw_give _ _ _ aw_b (by decide) a2 n2 k2 _ 1 1 _ (X2.out.below hk2) (ints1 _ 0))
  rw [World.size_alloc] at CG
  unfold five at CG
  have KB2 := Lib.hid hk2
  clear hk2
  go_wp2_with fail
  refine (CG.out).mono ?_
  rintro e w3 ⟨a3, n3, k3, rfl, S3, hb3⟩
  have b23 : Below w2.heap.size w2 w3 := KB2.out.trans (hb3.mono (by simp; omega))
  have xa3 : w3.heap[w2.heap.size]? = some (.cells (spV 5 a2 n2 k2) 24 (0, 0)) := (hb3.block _ (by simp; omega)).trans (heap_alloc2_old _ _ _)
  have hk3 : Below w3.heap.size w3 (w3.alloc (.cells #[.int .i64 5, .slice a3 n3 k3] 24)) := (Below.refl _ _).alloc (Nat.le_refl _) _
  have CC := Lib.hid (aw_take _ rfl 2 (by omega) _ aw_c a3 n3 k3 _ (S3.below hk3))
  have B23 := Lib.hid b23
  have XA3 := Lib.hid xa3
  unfold five at CC
  clear CG hb3 S3 b23 xa3 hk3 KB2
  go_wp2_with fail
  refine (CC.out).mono ?_
  rintro e w4 ⟨a4, n4, k4, p4, d4, rfl, S4, I4, hb4⟩
  have b34 : Below w3.heap.size w3 w4 := box_low hb4
  have B24 := Lib.hid (B23.out.trans (b34.mono B23.out.size))
  have XA4 := Lib.hid ((b34.block _ (Array.getElem?_eq_some_iff.1 XA3.out).1).trans XA3.out)
  have hk4 : Below w4.heap.size w4 ((w4.alloc (.cells #[.int .i64 5, .slice a4 n4 k4] 24)).alloc (.cells #[.int .i64 3] 3)) := ((Below.refl _ _).alloc (Nat.le_refl _) _).alloc (by simp) _
  have CD := Lib.hid (aw_mark _ _ _ aw_d (by decide) a4 n4 k4 _ 1 1 _ (S4.below hk4) (ints1 _ 3))
  rw [World.size_alloc] at CD
  have Y4 := Lib.hid I4
  have K4 := Lib.hid hk4
  unfold five at CD
  clear CC hb4 S4 I4 b34 hk4 B23 XA3
  go_wp2_with fail
  refine (CD.out).mono ?_
  rintro e w5 ⟨a5, n5, k5, rfl, S5, hb5⟩
  have b45 : Below w4.heap.size w4 w5 := K4.out.trans (hb5.mono (by simp; omega))
  have B25 := Lib.hid (B24.out.trans (b45.mono B24.out.size))
  have B45 := Lib.hid b45
  have xa5 := (b45.block _ (Array.getElem?_eq_some_iff.1 XA4.out).1).trans XA4.out
  have XA5 := Lib.hid xa5
  have hk5 : Below w5.heap.size w5 ((w5.alloc (.cells #[.int .i64 5, .slice a5 n5 k5] 24)).alloc (.cells #[.int .i64 2] 3)) := ((Below.refl _ _).alloc (Nat.le_refl _) _).alloc (by simp) _
  have xal := (Array.getElem?_eq_some_iff.1 xa5).1
  have CX := Lib.hid (aw_mark _ _ _ aw_x (by decide) a2 n2 k2 _ 1 1 _ (X2.out.below (B25.out.trans (hk5.mono B25.out.size))) (ints1 _ 2))
  rw [World.size_alloc] at CX
  have K5 := Lib.hid hk5
  have X5 := Lib.hid S5
  obtain ⟨c0, c1⟩ := sp_cells xa5
  unfold five at CX
  clear CD hb5 S5 b45 hk5 XA4 B24 K4 xa5
  go_wp2_with fail
  refine (CX.out).mono ?_
  rintro e w6 ⟨a6, n6, k6, rfl, S6, hb6⟩
  have b56 : Below w5.heap.size w5 w6 := K5.out.trans (hb6.mono (by simp; omega))
  have xd6 : w6.heap[w5.heap.size]? = some (.cells (spV 5 a5 n5 k5) 24 (0, 0)) := (hb6.block _ (by simp; omega)).trans (heap_alloc2_old _ _ _)
  have B26 := Lib.hid (B25.out.trans (b56.mono B25.out.size))
  have B46 := Lib.hid (B45.out.trans (b56.mono B45.out.size))
  have B56 := Lib.hid b56
  have XD6 := Lib.hid xd6
  have hk6 : Below w6.heap.size w6 (w6.alloc (.cells #[.int .i64 5, .slice a6 n6 k6] 24)) := (Below.refl _ _).alloc (Nat.le_refl _) _
  have CJ := Lib.hid (aw_take _ rfl 3 (by omega) _ aw_j a6 n6 k6 _ (S6.below hk6))
  have K6 := Lib.hid hk6
  have X6 := Lib.hid S6
  unfold five at CJ
  clear CX hb6 S6 b56 xd6 hk6 XA5 c0 c1 xal K5
  go_wp2_with fail
  refine (CJ.out).mono ?_
  rintro e w7 ⟨a7, n7, k7, p7, d7, rfl, S7, I7, hb7⟩
  have b67 : Below w6.heap.size w6 w7 := box_low hb7
  have xx7 : w7.heap[w6.heap.size]? = some (.cells (spV 5 a6 n6 k6) 24 (0, 0)) := box_keep hb7
  have xd7 := (b67.block _ (Array.getElem?_eq_some_iff.1 XD6.out).1).trans XD6.out
  have hk7 : Below w7.heap.size w7 ((w7.alloc (.cells #[.int .i64 0, .slice a7 n7 k7] 24)).alloc (.cells #[.int .i64 0, .int .i64 1] 3)) := ((Below.refl _ _).alloc (Nat.le_refl _) _).alloc (by simp) _
  have XX7 := Lib.hid xx7
  have XD7 := Lib.hid xd7
  have B27 := Lib.hid (B26.out.trans (b67.mono B26.out.size))
  have B47 := Lib.hid (B46.out.trans (b67.mono B46.out.size))
  have B57 := Lib.hid (B56.out.trans (b67.mono B56.out.size))
  have B67 := Lib.hid b67
  have CL := Lib.hid (same_any p2 (some ⟨w7.heap.size + 1, 0, none⟩) 2 d2 2 2 [0, 1] [0, 1] ((w7.alloc (.cells #[.int .i64 0, .slice a7 n7 k7] 24)).alloc (.cells #[.int .i64 0, .int .i64 1] 3)) (CameAt.below Y2.out (by omega) (B27.out.trans (hk7.mono B27.out.size))) (by have := ints2 (w7.alloc (.cells #[.int .i64 0, .slice a7 n7 k7] 24)) 0 1; rwa [World.size_alloc] at this))
  have K7 := Lib.hid hk7
  clear CJ hb7 S7 I7 b67 xx7 xd7 hk7 XD6 B26 B46 B56
  rw [show (([0, 1] : List Int) == [0, 1]) = true by rfl] at CL
  go_wp2_with fail
  refine (CL.out).mono ?_
  rintro e w8 ⟨rfl, hb8⟩
  have b78 : Below w7.heap.size w7 w8 := K7.out.trans (hb8.mono (by simp; omega))
  have hk8 : Below w8.heap.size w8 (w8.alloc (.cells #[.int .i64 0, .int .i64 2] 3)) := (Below.refl _ _).alloc (Nat.le_refl _) _
  have B48 := Lib.hid (B47.out.trans (b78.mono B47.out.size))
  have CM := Lib.hid (same_any p4 (some ⟨w8.heap.size, 0, none⟩) 2 d4 2 2 [0, 2] [0, 2] (w8.alloc (.cells #[.int .i64 0, .int .i64 2] 3)) (CameAt.below Y4.out (by omega) (B48.out.trans (hk8.mono B48.out.size))) (ints2 w8 0 2))
  rw [show (([0, 2] : List Int) == [0, 2]) = true by rfl] at CM
  have B28 := Lib.hid (B27.out.trans (b78.mono B27.out.size))
  have B58 := Lib.hid (B57.out.trans (b78.mono B57.out.size))
  have B68 := Lib.hid (B67.out.trans (b78.mono B67.out.size))
  have XX8 := Lib.hid ((b78.block _ (Array.getElem?_eq_some_iff.1 XX7.out).1).trans XX7.out)
  have XD8 := Lib.hid ((b78.block _ (Array.getElem?_eq_some_iff.1 XD7.out).1).trans XD7.out)
  clear CL hb8 b78 hk8 XX7 XD7 B27 B47 B57 B67 K7
  go_wp2_with fail
  refine (CM.out).mono ?_
  rintro e w9 ⟨rfl, hb9⟩
  have b89 : Below w8.heap.size w8 w9 := box_low hb9
  have xd9 := (b89.block _ (Array.getElem?_eq_some_iff.1 XD8.out).1).trans XD8.out
  have xx9 := (b89.block _ (Array.getElem?_eq_some_iff.1 XX8.out).1).trans XX8.out
  obtain ⟨c0, c1⟩ := sp_cells xd9
  have B29 := Lib.hid (B28.out.trans (b89.mono B28.out.size))
  have B69 := Lib.hid (B68.out.trans (b89.mono B68.out.size))
  have CT := Lib.hid (count_ok 5 a5 n5 k5 _ w9 (X5.out.below (B58.out.trans (b89.mono B58.out.size))))
  rw [aw_n] at CT
  unfold spV at CT
  have XX9 := Lib.hid xx9
  clear CM hb9 b89 xd9 xx9 XX8 XD8 B28 B48 B58 B68
  go_wp2_with fail
  refine (CT.out).mono ?_
  rintro e w10 ⟨rfl, hb10⟩
  have xx10 := (hb10.block _ (Array.getElem?_eq_some_iff.1 XX9.out).1).trans XX9.out
  obtain ⟨e0, e1⟩ := sp_cells xx10
  have v10 := (X6.out.oct.below (B69.out.trans (hb10.mono B69.out.size))).conv
  rw [aw_o] at v10
  have hall := B2.out.trans ((B29.out.trans (hb10.mono B29.out.size)).mono B2.out.size)
  have HALL := Lib.hid hall
  clear CT hb10 xx10 XX9 c0 c1 hall
  go_wp2
  go_ret
  exact ⟨rfl, HALL.out⟩

end Go.Proofs.Ytcmhijhoemcdcaa
