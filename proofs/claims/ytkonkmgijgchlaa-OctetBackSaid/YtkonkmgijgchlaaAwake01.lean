/-
  hamperlaw01.awake answers true.
-/
import Derived.Test.YtkonkmgijgchlaaOctRd
namespace Go.Proofs.Ytkonkmgijgchlaa
open Go.RowKit
set_option linter.unusedVariables false
set_option linter.unusedSimpArgs false

/-- what is handed back reads as l -/
def ReadB (P : Value → Value) (n : Nat) (l : List UInt8) (w : World) (e : Ending) (w' : World) : Prop :=
  ∃ a cap, e = .returned (P (.slice a n cap)) ∧ BytesAt w' a n cap l ∧ Below w.heap.size w w'

theorem readB_of {P : Program} {f : FuncId} {args : Array Value} {w : World} {F : Value → Value} {n : Nat} {l : List UInt8} (h : Calls P f args w (FreshB F n l w)) : Calls P f args w (ReadB F n l w) :=
  h.mono fun _ _ ⟨a, cap, he, ho, hb⟩ => ⟨a, cap, he, BytesAt.owned ho, hb⟩

theorem one_at (w : World) (x : UInt8) : BytesAt (w.alloc (.cells #[.int .u8 x.toNat] 5)) (some ⟨w.heap.size, 0, none⟩) 1 1 [x] :=
  BytesAt.of_cells rfl (Nat.le_refl _) (by unfold maxLen; omega) fun i hi => by
    obtain rfl : i = 0 := by omega
    simp [World.cell?_alloc_mark w #[.int .u8 x.toNat] 5 (0, 0) 0]

theorem three_at (w : World) (x y z : UInt8) : BytesAt (w.alloc (.cells #[.int .u8 x.toNat, .int .u8 y.toNat, .int .u8 z.toNat] 5)) (some ⟨w.heap.size, 0, none⟩) 3 3 [x, y, z] :=
  BytesAt.of_cells rfl (Nat.le_refl _) (by unfold maxLen; omega) fun i hi => by
    have h := World.cell?_alloc_mark w #[.int .u8 x.toNat, .int .u8 y.toNat, .int .u8 z.toNat] 5 (0, 0) i
    match i, hi with
    | 0, _ => rw [Nat.zero_add, h]; rfl
    | 1, _ => rw [Nat.zero_add, h]; rfl
    | 2, _ => rw [Nat.zero_add, h]; rfl

theorem aw1 (w : World) : Calls Try.prog 8 #[.int .u64 300, .int .i64 2] w (ReadB (fun s => .tuple #[s, .int .i64 0]) 2 [44, 1] w) :=
  readB_of (put_ok 300 2 w (by omega) (by omega) (by decide))
theorem aw2 (w : World) : Calls Try.prog 8 #[.int .u64 256, .int .i64 1] w fun e w' => e = .returned (.tuple #[.slice none 0 0, .int .i64 8]) ∧ w = w' :=
  put_over 256 1 w (by omega) (by omega) (by decide)
theorem aw3 (w : World) : Calls Try.prog 10 #[.string ⟨#[97, 98]⟩] w (ReadB (fun s => .tuple #[s, .int .i64 0]) 4 [2, 0, 97, 98] w) :=
  readB_of (puttext_ok ⟨#[97, 98]⟩ w (by decide))
theorem aw4 (w : World) (a : Option Addr) (n cap : Nat) (h : BytesAt w a 1 1 [1]) : Calls Try.prog 13 #[.slice a 1 1, .int .i64 3] w (ReadB (fun s => .tuple #[s, .int .i64 0]) 3 [1, 0, 0] w) :=
  readB_of (pad_ok a 1 1 [1] 3 w (by omega) (by omega) h)
theorem aw6 (w : World) (g : Nat) (sl : Option Addr × Nat) (h : Rd w g sl 3 [44, 1, 9] 0 0) : Calls Try.prog 17 #[.pointer (some ⟨g, 0, none⟩), .int .i64 2] w (RdPost (.int .u64 300) w g sl 3 [44, 1, 9] 2 0) :=
  rdnum_any w g sl 3 [44, 1, 9] 0 0 2 h (by omega)
theorem aw7 (w : World) (g : Nat) (sl : Option Addr × Nat) (h : Rd w g sl 3 [44, 1, 9] 2 0) : Calls Try.prog 19 #[.pointer (some ⟨g, 0, none⟩)] w (RdPost (.string ⟨#[]⟩) w g sl 3 [44, 1, 9] 2 2) :=
  rdtext_any w g sl 3 [44, 1, 9] 2 0 h (by omega) (by omega)
theorem aw8 (w : World) (g : Nat) (sl : Option Addr × Nat) (h : Rd w g sl 3 [44, 1, 9] 2 2) : Calls Try.prog 23 #[.pointer (some ⟨g, 0, none⟩)] w fun e w' => e = .returned (.tuple #[.int .i64 2, .int .i64 2]) ∧ ∃ k, w' = w.drewN k :=
  rderr_any w g sl 3 [44, 1, 9] 2 2 h

theorem below_grown {B g : Nat} {w0 w w' : World} (h : Below B w0 w) (hg : w.grownBy w' (some g)) (hB : B ≤ w.heap.size) (hBg : B ≤ g) : Below B w0 w' := h.grown hg hB (fun k hk => by cases hk; exact hBg)

theorem awake01 (w : World) : Calls Try.prog 11 #[] w fun e w' => e = .returned (.bool true) ∧ Below w.heap.size w w' := by
  go_enter Try.func11, Try.ntmps11
  go_wp2_with fail
  refine (aw1 _).mono ?_
  rintro e w1 ⟨a1, c1, rfl, hr1, hb1⟩
  go_wp2_with fail
  refine (aw2 _).mono ?_
  rintro e w2 ⟨rfl, rfl⟩
  go_wp2_with fail
  refine (aw3 _).mono ?_
  rintro e w3 ⟨a3, c3, rfl, hr3, hb3⟩
  go_wp2_with fail
  refine (aw4 _ _ 1 1 (one_at w3 1)).mono ?_
  rintro e w4 ⟨a4, c4, rfl, hr4, hb4⟩
  go_wp2_with fail
  refine (read_any _ _ _ _ _ (three_at w4 44 1 9) (by omega)).mono ?_
  rintro e w5 ⟨g, sl, rfl, hg5, hrd5, _, hb5⟩
  go_wp2_with fail
  refine (aw6 _ _ _ hrd5).mono ?_
  rintro e w6 ⟨rfl, hrd6, hg6⟩
  go_wp2_with fail
  refine (aw7 _ _ _ hrd6).mono ?_
  rintro e w7 ⟨rfl, hrd7, hg7⟩
  go_wp2_with fail
  refine (aw8 _ _ _ hrd7).mono ?_
  rintro e w8 ⟨rfl, nk, rfl⟩
  -- the chain of worlds
  have k3 : Below w3.heap.size w3 (w3.alloc (.cells #[.int .u8 1] 5)) := (Below.refl _ _).alloc (Nat.le_refl _) _
  have k4 : Below w3.heap.size w3 w4 := k3.trans (hb4.mono (by simp))
  have k5 : Below w4.heap.size w4 (w4.alloc (.cells #[.int .u8 44, .int .u8 1, .int .u8 9] 5)) := (Below.refl _ _).alloc (Nat.le_refl _) _
  have k6 : Below w4.heap.size w4 w5 := k5.trans (hb5.mono (by simp))
  have hgg : w4.heap.size ≤ g := by simp at hg5; omega
  have k7 : Below w4.heap.size w4 w6 := below_grown k6 hg6 k6.size hgg
  have k8 : Below w4.heap.size w4 w7 := below_grown k7 hg7 k7.size hgg
  have k9 : Below w4.heap.size w4 (w7.drewN nk) := below_drewN k8 nk
  have m3 : Below w3.heap.size w3 (w7.drewN nk) := k4.trans (k9.mono k4.size)
  have m1 : Below w1.heap.size w1 (w7.drewN nk) := hb3.trans (m3.mono hb3.size)
  have m0 : Below w.heap.size w (w7.drewN nk) := hb1.trans (m1.mono hb1.size)
  have v1 := (hr1.below m1).conv
  have v3 := (hr3.below m3).conv
  have v4 := (hr4.below k9).conv
  clear k3 k4 k5 k6 k7 k8 k9 m3 m1 hr1 hr3 hr4 hb1 hb3 hb4 hb5 hg5 hgg hrd5 hrd6 hg6 hrd7 hg7
  generalize w7.drewN nk = w9 at *
  go_wp2
  go_ret
  exact ⟨rfl, m0⟩

end Go.Proofs.Ytkonkmgijgchlaa
