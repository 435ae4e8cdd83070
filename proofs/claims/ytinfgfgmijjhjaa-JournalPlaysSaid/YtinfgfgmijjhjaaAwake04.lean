/-
  awake of layer 4: the chapter's examples.
-/
import Derived.Test.YtinfgfgmijjhjaaJnLawA
namespace Go.Proofs.Ytinfgfgmijjhjaa
open Go.RowKit
set_option linter.unusedVariables false
set_option linter.unusedSimpArgs false

/-- three disks of the call's own, since the world w0 -/
structure Disk3 (w0 w : World) (g1 : Nat) (S1 : Nat → Prop) (D1 : Dk) (g2 : Nat) (S2 : Nat → Prop) (D2 : Dk) (g3 : Nat) (S3 : Nat → Prop) (D3 : Dk) : Prop where
  d1 : DiskAt w S1 g1 D1
  d2 : DiskAt w S2 g2 D2
  d3 : DiskAt w S3 g3 D3
  n1 : ∀ k, S1 k → w0.heap.size ≤ k
  n2 : ∀ k, S2 k → w0.heap.size ≤ k
  n3 : ∀ k, S3 k → w0.heap.size ≤ k
  a12 : ∀ k, S1 k → ¬ S2 k
  a13 : ∀ k, S1 k → ¬ S3 k
  a23 : ∀ k, S2 k → ¬ S3 k
  below : Below w0.heap.size w0 w
section
variable {w0 w w' : World} {g1 g2 g3 : Nat} {S1 S2 S3 S' : Nat → Prop} {D1 D2 D3 D' : Dk}
theorem Disk3.rot (h : Disk3 w0 w g1 S1 D1 g2 S2 D2 g3 S3 D3) : Disk3 w0 w g2 S2 D2 g3 S3 D3 g1 S1 D1 :=
  ⟨h.d2, h.d3, h.d1, h.n2, h.n3, h.n1, h.a23, fun k h2 h1 => h.a12 k h1 h2, fun k h3 h1 => h.a13 k h1 h3, h.below⟩
theorem Disk3.quiet (h : Disk3 w0 w g1 S1 D1 g2 S2 D2 g3 S3 D3) (hb : Below w.heap.size w w') : Disk3 w0 w' g1 S1 D1 g2 S2 D2 g3 S3 D3 :=
  ⟨h.d1.below hb, h.d2.below hb, h.d3.below hb, h.n1, h.n2, h.n3, h.a12, h.a13, h.a23, h.below.trans (hb.mono h.below.size)⟩
theorem Disk3.next (h : Disk3 w0 w g1 S1 D1 g2 S2 D2 g3 S3 D3) (hd : DiskAt w' S' g1 D') (ho : Only S1 w w') (hs : ∀ k, S' k → S1 k ∨ w.heap.size ≤ k) : Disk3 w0 w' g1 S' D' g2 S2 D2 g3 S3 D3 :=
  ⟨hd, h.d2.only ho (fun k h2 h1 => h.a12 k h1 h2), h.d3.only ho (fun k h3 h1 => h.a13 k h1 h3), fun k hk => (hs k hk).elim (h.n1 k) (fun hk => Nat.le_trans h.below.size hk), h.n2, h.n3,
    fun k hk h2 => (hs k hk).elim (fun h1 => h.a12 k h1 h2) (fun hk => by have := h.d2.lt k h2; omega), fun k hk h3 => (hs k hk).elim (fun h1 => h.a13 k h1 h3) (fun hk => by have := h.d3.lt k h3; omega), h.a23,
    h.below.trans (ho.below h.below.size fun i hi hS => by have := h.n1 i hS; omega)⟩
theorem Disk3.next2 (h : Disk3 w0 w g1 S1 D1 g2 S2 D2 g3 S3 D3) (hd : DiskAt w' S' g2 D') (ho : Only S2 w w') (hs : ∀ k, S' k → S2 k ∨ w.heap.size ≤ k) : Disk3 w0 w' g1 S1 D1 g2 S' D' g3 S3 D3 := (h.rot.next hd ho hs).rot.rot
theorem Disk3.next3 (h : Disk3 w0 w g1 S1 D1 g2 S2 D2 g3 S3 D3) (hd : DiskAt w' S' g3 D') (ho : Only S3 w w') (hs : ∀ k, S' k → S3 k ∨ w.heap.size ≤ k) : Disk3 w0 w' g1 S1 D1 g2 S2 D2 g3 S' D' := (h.rot.rot.next hd ho hs).rot
end

theorem two_at (w : World) (x y : UInt8) : BytesAt (w.alloc (.cells #[.int .u8 (x.toNat : Int), .int .u8 (y.toNat : Int)] 5)) (some ⟨w.heap.size, 0, none⟩) 2 2 [x, y] := by
  refine BytesAt.of_cells rfl (Nat.le_refl _) (by unfold maxLen; omega) fun i hi => ?_
  rw [Nat.zero_add, cell_of_row _ _ _ _ _ _ (heap_alloc_new w _)]
  match i, hi with
  | 0, _ => rfl
  | 1, _ => rfl

theorem true_at (w : World) : BoolsAt (w.alloc (.cells #[.bool true] 4)) (some ⟨w.heap.size, 0, none⟩) 1 1 [true] := by
  refine ⟨rfl, Nat.le_refl _, by unfold maxLen; omega, by simp [boolC], .inr ⟨_, rfl, fun i j x hi hj => ?_⟩⟩
  obtain rfl : j = 0 := by omega
  rw [Addr.add_mid, cell_of_row _ _ _ _ _ _ (heap_alloc_new w _)]
  match i, hi with
  | 0, hi => simp at hi; subst hi; rfl

set_option maxHeartbeats 8000000 in
set_option maxRecDepth 100000 in
theorem awake04 (w : World) : Calls Try.prog 10 #[] w fun e w' => e = .returned (.bool true) ∧ Below w.heap.size w w' := by
  go_enter Try.func10, Try.ntmps10
  go_wp2_with fail
  refine (made_any 43 w (by omega) (by omega)).mono ?_
  rintro e w1 ⟨g1, S1, rfl, hd1, hb1, hn1⟩
  dsimp only [id]
  have X1 := Lib.hid (And.intro hd1 (And.intro hb1 hn1))
  clear hd1 hb1 hn1
  go_wp2_with fail
  refine (made_any 43 w1 (by omega) (by omega)).mono ?_
  rintro e w2 ⟨g2, S2, rfl, hd2, hb2, hn2⟩
  dsimp only [id]
  have X2 := Lib.hid (And.intro hd2 (And.intro hb2 hn2))
  clear hd2 hb2 hn2
  go_wp2_with fail
  refine (made_any 43 w2 (by omega) (by omega)).mono ?_
  rintro e w3 ⟨g3, S3, rfl, hd3, hb3, hn3⟩
  dsimp only [id]
  have T3 := Lib.hid (show Disk3 w w3 g1 S1 (Dk.new 43) g2 S2 (Dk.new 43) g3 S3 (Dk.new 43) by
    obtain ⟨p1, p2, p3⟩ := X1.out
    obtain ⟨q1, q2, q3⟩ := X2.out
    have z1 := p2.size
    have z2 := q2.size
    exact ⟨(p1.below q2).below hb3, q1.below hb3, hd3, p3, fun k hk => by have := q3 k hk; omega, fun k hk => by have := hn3 k hk; omega, fun k h1 h2 => by have := p1.lt k h1; have := q3 k h2; omega,
      fun k h1 h3 => by have := p1.lt k h1; have := hn3 k h3; omega, fun k h2 h3 => by have := q1.lt k h2; have := hn3 k h3; omega, p2.trans ((q2.trans (hb3.mono q2.size)).mono p2.size)⟩)
  clear hd3 hb3 hn3 X1 X2
  -- a is committed
  go_wp2_with fail
  refine (both_any w3).mono ?_
  rintro e w4 ⟨a4, n4, c4, M4, rfl, hp4, hm4, hb4⟩
  have T4 := Lib.hid (T3.out.quiet hb4)
  have C5 := Lib.hid (commit_any g1 (Dk.new 43) S1 _ a4 n4 c4 M4 w4 T4.out.d1 (fun k hk hS => by have := T3.out.d1.lt k hS; omega) hp4 (by simp [Dk.new]))
  rw [hm4, exA_commit] at C5
  clear hp4 hm4 hb4 T3
  go_wp2_with fail
  refine (C5.out).mono ?_
  rintro e w5 ⟨rfl, S1', hd, ho, hs⟩
  have T5 := Lib.hid (T4.out.next hd ho hs)
  clear hd ho hs T4 C5
  -- b, on a budget
  go_wp2_with fail
  refine (budget_yes g2 4 (Dk.new 43) S2 w5 T5.out.d2 (by omega) (by omega)).mono ?_
  rintro e w6 ⟨rfl, S2', hd, ho, hs⟩
  have T6 := Lib.hid (T5.out.next2 hd ho hs)
  clear hd ho hs T5
  go_wp2_with fail
  refine (both_any w6).mono ?_
  rintro e w7 ⟨a7, n7, c7, M7, rfl, hp7, hm7, hb7⟩
  have T7 := Lib.hid (T6.out.quiet hb7)
  have C8 := Lib.hid (commit_any g2 { Dk.new 43 with budget := 4 } S2' _ a7 n7 c7 M7 w7 T7.out.d2 (fun k hk hS => by have := T6.out.d2.lt k hS; omega) hp7 (by simp [Dk.new]))
  rw [hm7, exB_commit] at C8
  clear hp7 hm7 hb7 T6
  go_wp2_with fail
  refine (C8.out).mono ?_
  rintro e w8 ⟨rfl, S2a, hd, ho, hs⟩
  have T8 := Lib.hid (T7.out.next2 hd ho hs)
  clear hd ho hs T7 C8
  have hba : Below w8.heap.size w8 (w8.alloc (.cells #[.bool true] 4)) := (Below.refl _ _).alloc (Nat.le_refl _) _
  have T8' := Lib.hid (T8.out.quiet hba)
  have C9 := Lib.hid (cut_any g2 exB S2a _ 1 1 [true] _ T8'.out.d2 (true_at w8) (fun p hp _ hS => by cases hp; have := T8.out.d2.lt _ hS; simp at this))
  clear hba T8
  go_wp2_with fail
  refine (C9.out).mono ?_
  rintro e w9 ⟨rfl, S2b, hd, ho, hs⟩
  have T9 := Lib.hid (T8'.out.next2 hd ho hs)
  clear hd ho hs T8' C9
  go_wp2_with fail
  refine (on_any g2 (exB.cut [true]) S2b w9 T9.out.d2).mono ?_
  rintro e w10 ⟨rfl, S2c, hd, ho, hs⟩
  rw [exB_cut] at hd
  have T10 := Lib.hid (T9.out.next2 hd ho hs)
  have C11 := Lib.hid (recover_any g2 exR S2c w10 hd (by simp [exR]))
  unfold RecTo at C11
  rw [exR_recover] at C11
  clear hd ho hs T9
  go_wp2_with fail
  refine (C11.out).mono ?_
  rintro e w11 ⟨rfl, S2d, hd, ho, hs⟩
  have T11 := Lib.hid (T10.out.next2 hd ho hs)
  clear hd ho hs T10 C11
  -- c, on a budget
  go_wp2_with fail
  refine (budget_yes g3 4 (Dk.new 43) S3 w11 T11.out.d3 (by omega) (by omega)).mono ?_
  rintro e w12 ⟨rfl, S3a, hd, ho, hs⟩
  have T12 := Lib.hid (T11.out.next3 hd ho hs)
  clear hd ho hs T11
  go_wp2_with fail
  refine (both_any w12).mono ?_
  rintro e w13 ⟨a13, n13, c13, M13, rfl, hp13, hm13, hb13⟩
  have T13 := Lib.hid (T12.out.quiet hb13)
  have C14 := Lib.hid (commit_any g3 { Dk.new 43 with budget := 4 } S3a _ a13 n13 c13 M13 w13 T13.out.d3 (fun k hk hS => by have := T12.out.d3.lt k hS; omega) hp13 (by simp [Dk.new]))
  rw [hm13, exB_commit] at C14
  clear hp13 hm13 hb13 T12
  go_wp2_with fail
  refine (C14.out).mono ?_
  rintro e w14 ⟨rfl, S3b, hd, ho, hs⟩
  have T14 := Lib.hid (T13.out.next3 hd ho hs)
  have C15 := Lib.hid (cut_any g3 exB S3b none 0 0 [] w14 hd (CameAt.nil _ _ _) (fun p hp => by cases hp))
  clear hd ho hs T13 C14
  go_wp2_with fail
  refine (C15.out).mono ?_
  rintro e w15 ⟨rfl, S3c, hd, ho, hs⟩
  have T15 := Lib.hid (T14.out.next3 hd ho hs)
  clear hd ho hs T14 C15
  go_wp2_with fail
  refine (on_any g3 (exB.cut []) S3c w15 T15.out.d3).mono ?_
  rintro e w16 ⟨rfl, S3d, hd, ho, hs⟩
  rw [exC_cut] at hd
  have T16 := Lib.hid (T15.out.next3 hd ho hs)
  have C17 := Lib.hid (recover_any g3 exC S3d w16 hd (by simp [exC]))
  unfold RecTo at C17
  rw [exC_recover] at C17
  clear hd ho hs T15
  go_wp2_with fail
  refine (C17.out).mono ?_
  rintro e w17 ⟨rfl, S3e, hd, ho, hs⟩
  have T17 := Lib.hid (T16.out.next3 hd ho hs)
  clear hd ho hs T16 C17
  -- what is read
  have hb18 : Below w17.heap.size w17 (w17.alloc (.cells #[.int .u8 (7 : UInt8).toNat, .int .u8 (8 : UInt8).toNat] 5)) := (Below.refl _ _).alloc (Nat.le_refl _) _
  have T18 := Lib.hid (T17.out.quiet hb18)
  have R18 := Lib.hid (reads_yes g1 exA S1' _ 2 2 [7, 8] _ T18.out.d1 (two_at w17 7 8) rfl (by omega) (by rw [exA_len]; omega) (fun i hi => by
    rw [exA_read i hi]
    match i, hi with
    | 0, _ => rfl
    | 1, _ => rfl))
  clear hb18 T17
  go_wp2_with fail
  refine (R18.out).mono ?_
  rintro e w19 ⟨rfl, hb⟩
  have T19 := Lib.hid (T18.out.quiet hb)
  clear hb T18 R18
  have hb20 : Below w19.heap.size w19 (w19.alloc (.cells #[.int .u8 (7 : UInt8).toNat, .int .u8 (8 : UInt8).toNat] 5)) := (Below.refl _ _).alloc (Nat.le_refl _) _
  have T20 := Lib.hid (T19.out.quiet hb20)
  have R20 := Lib.hid (reads_yes g2 exS S2d _ 2 2 [7, 8] _ T20.out.d2 (two_at w19 7 8) rfl (by omega) (by show 43 ≤ exA.secs.length; rw [exA_len]; omega) (fun i hi => by
    have := exA_read i hi
    show exA.content (41 + i) = _
    rw [this]
    match i, hi with
    | 0, _ => rfl
    | 1, _ => rfl))
  clear hb20 T19
  go_wp2_with fail
  refine (R20.out).mono ?_
  rintro e w21 ⟨rfl, hb⟩
  have T21 := Lib.hid (T20.out.quiet hb)
  clear hb T20 R20
  have hb22 : Below w21.heap.size w21 (w21.alloc (.cells #[.int .u8 (0 : UInt8).toNat, .int .u8 (0 : UInt8).toNat] 5)) := (Below.refl _ _).alloc (Nat.le_refl _) _
  have T22 := Lib.hid (T21.out.quiet hb22)
  have R22 := Lib.hid (reads_yes g3 exC S3e _ 2 2 [0, 0] _ T22.out.d3 (two_at w21 0 0) rfl (by omega) (by rw [exC_len]; omega) (fun i hi => by
    rw [exC_read i hi]
    match i, hi with
    | 0, _ => rfl
    | 1, _ => rfl))
  clear hb22 T21
  go_wp2_with fail
  refine (R22.out).mono ?_
  rintro e w23 ⟨rfl, hb⟩
  have T23 := Lib.hid (T22.out.quiet hb)
  clear hb T22 R22
  go_wp2_with fail
  refine (all_any 1 w23).mono ?_
  rintro e w24 ⟨a24, c24, rfl, hr24, hb24, hn24⟩
  have T24 := Lib.hid (T23.out.quiet hb24)
  have Y24 := Lib.hid hr24
  have N24 := Lib.hid hn24
  have HLT := Lib.hid (T23.out.d1.lt)
  clear hr24 hb24 hn24 T23
  dsimp only [id]
  have bp := built_put 40 a24 128 c24
  unfold putV at bp
  have hb25 : Below w24.heap.size w24 (w24.alloc (.cells #[.int .i64 40, .slice a24 128 c24] 69)) := (Below.refl _ _).alloc (Nat.le_refl _) _
  have T25 := Lib.hid (T24.out.quiet hb25)
  have C25 := Lib.hid (commit_any g1 exA S1' (fun k => w23.heap.size ≤ k ∧ k < (w24.alloc (.cells #[.int .i64 40, .slice a24 128 c24] 69)).heap.size) _ 1 1 [⟨40, a24, 128, c24, sec 1⟩] _ T25.out.d1 (fun k hk hS => by have := HLT.out k hS; omega)
    (puts_one (heap_alloc_new w24 _) (Y24.out.below hb25) (fun k hk => hk.2) ⟨by
      have := T24.out.below.size
      rcases Nat.lt_or_ge w24.heap.size w23.heap.size with h | h
      · exfalso
        cases a24 with
        | none => have := Y24.out.2.2.2; rcases this with ⟨_, h0, _⟩ | ⟨x, hx, _⟩
                  · omega
                  · cases hx
        | some p => have := N24.out p rfl; omega
      · exact h, by simp⟩ (fun p hp => ⟨(N24.out p hp).1, by have := (N24.out p hp).2; simp; omega⟩)) (by simp [exA]))
  rw [show ([⟨40, a24, 128, c24, sec 1⟩] : List PutM).map PutM.pt = [(40, sec 1)] from rfl, exA_arg] at C25
  clear hb25
  go_wp2_with fail
  refine (C25.out).mono ?_
  rintro e w26 ⟨rfl, S1b, hd, ho, hs⟩
  have T26 := Lib.hid (T25.out.next hd ho hs)
  clear hd ho hs T24 T25 C25
  go_wp2
  go_ret
  exact ⟨rfl, T26.out.below⟩

end Go.Proofs.Ytinfgfgmijjhjaa
