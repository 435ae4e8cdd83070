/-
  awake of layer 8: the chapter's examples.
-/
import Derived.Test.YtkkjmkihehbomaaBtU
namespace Go.Proofs.Ytkkjmkihehbomaa
open Go.RowKit
set_option linter.unusedVariables false
set_option linter.unusedSimpArgs false
set_option maxRecDepth 100000

theorem aw8_a : fitE 1 1 = 0 ∧ putL 1 1 [] = [true] := by decide +kernel
theorem aw8_b : fitE 2 2 = 0 ∧ putL 2 2 [true] = [true, false, true] := by decide +kernel
theorem aw8_c : fitE 6 3 = 0 ∧ turnL 6 3 [true, false, true] = [true, false, true, true, true, false] := by decide +kernel
theorem aw8_d : packB [true, false, true] = [5] ∧ octN [true, false, true].length = 1 := by decide +kernel
theorem aw8_e : packB [true, false, true, true, true, false] = [29] ∧ octN [true, false, true, true, true, false].length = 1 := by decide +kernel
theorem aw8_f : takeR [29] 0 1 = (1, 0, 1) ∧ takeR [29] 1 2 = (2, 0, 3) ∧ takeR [29] 3 9 = (0, 2, 3) := by decide +kernel

set_option maxHeartbeats 4000000 in
theorem awake08 (w : World) : Calls Try.prog 19 #[] w fun e w' => e = .returned (.bool true) ∧ Below w.heap.size w w' := by
  have CN := Lib.hid (newS w w.heap.size (Nat.le_refl _))
  go_enter Try.func19, Try.ntmps19
  go_wp2_with fail
  refine CN.out.mono ?_
  rintro e w1 ⟨rfl, hs1, hb1⟩
  generalize hB : w.heap.size = n0 at *
  have C2 := putS hs1 1 1 (by omega) (by simp)
  rw [aw8_a.1, aw8_a.2] at C2
  have C2 := Lib.hid C2
  have B1 := Lib.hid hb1
  clear hs1 hb1 CN
  go_wp2_with fail
  refine C2.out.mono ?_
  rintro e w2 ⟨rfl, hs2, hb2, -⟩
  have C3 := putS hs2 2 2 (by omega) (by simp)
  rw [aw8_b.1, aw8_b.2] at C3
  have C3 := Lib.hid C3
  have B2 := Lib.hid (B1.out.trans hb2)
  clear hs2 hb2 C2 B1
  go_wp2_with fail
  refine C3.out.mono ?_
  rintro e w3 ⟨rfl, hs3, hb3, -⟩
  have C4 := bytesS hs3 (by simp)
  rw [aw8_d.1, aw8_d.2] at C4
  have S3 := Lib.hid hs3
  have C4 := Lib.hid C4
  have B3 := Lib.hid (B2.out.trans hb3)
  have HN3 := Lib.hid hs3.le
  clear hs3 hb3 C3 B2
  go_wp2_with fail
  refine C4.out.mono ?_
  rintro e w4 ⟨a4, k4, rfl, h4, hb4⟩
  have S4 := Lib.hid (S3.out.below hb4)
  have B4 := Lib.hid (B3.out.trans (hb4.mono HN3.out))
  have HC4 := h4.conv
  have C5 := turnS S4.out 6 3 (by omega) (by simp)
  rw [aw8_c.1, aw8_c.2] at C5
  have C5 := Lib.hid C5
  clear C4 h4 hb4 S3 HN3 B3
  try dsimp only [id]
  go_wp2_with fail
  clear HC4
  refine C5.out.mono ?_
  rintro e w5 ⟨rfl, hs5, hb5, -⟩
  have C6 := bytesS hs5 (by simp)
  rw [aw8_e.1, aw8_e.2] at C6
  have S5 := Lib.hid hs5
  have C6 := Lib.hid C6
  have B5 := Lib.hid (B4.out.trans hb5)
  have HN5 := Lib.hid hs5.le
  clear hs5 hb5 C5 B4 S4
  go_wp2_with fail
  refine C6.out.mono ?_
  rintro e w6 ⟨a6, k6, rfl, h6, hb6⟩
  have S6 := Lib.hid (S5.out.below hb6)
  have B6 := Lib.hid (B5.out.trans (hb6.mono HN5.out))
  have HN6 := Lib.hid S6.out.le
  have C7 := Lib.hid (readS a6 1 k6 [29] w6 h6 (by omega))
  clear C6 h6 hb6 B5 S5 HN5
  try dsimp only [id]
  go_wp2_with fail
  refine C7.out.mono ?_
  rintro e w7 ⟨Br, rfl, hr7, hb7⟩
  have C8 := takeS hr7 1 (by simp) (by simp)
  rw [aw8_f.1] at C8
  have C8 := Lib.hid C8
  have D7 := Lib.hid hb7
  clear C7 hr7 hb7
  go_wp2_with fail
  refine C8.out.mono ?_
  rintro e w8 ⟨rfl, hr8, hb8, -⟩
  try dsimp only at hr8
  have C9 := takeS hr8 2 (by simp) (by simp)
  rw [aw8_f.2.1] at C9
  have C9 := Lib.hid C9
  have D8 := Lib.hid (D7.out.trans hb8)
  clear C8 hr8 hb8 D7
  go_wp2_with fail
  refine C9.out.mono ?_
  rintro e w9 ⟨rfl, hr9, hb9, -⟩
  try dsimp only at hr9
  have C10 := Lib.hid (atS hr9)
  have R9 := Lib.hid hr9
  have D9 := Lib.hid (D8.out.trans hb9)
  clear C9 hr9 hb9 D8
  go_wp2_with fail
  refine C10.out.mono ?_
  rintro e w10 ⟨rfl, rfl⟩
  have C11 := takeS R9.out 9 (by simp) (by simp)
  rw [aw8_f.2.2] at C11
  have C11 := Lib.hid C11
  clear C10
  go_wp2_with fail
  refine C11.out.mono ?_
  rintro e w11 ⟨rfl, hr11, hb11, -⟩
  have D11 := Lib.hid (D9.out.trans hb11)
  have S11 := Lib.hid (S6.out.below D11.out)
  have B11 := Lib.hid (B6.out.trans (D11.out.mono HN6.out))
  have C12 := bytesS S11.out (by simp)
  rw [aw8_e.1, aw8_e.2] at C12
  have C12 := Lib.hid C12
  have HN11 := Lib.hid S11.out.le
  clear C11 hr11 hb11
  go_wp2_with fail
  refine C12.out.mono ?_
  rintro e w12 ⟨a12, k12, rfl, h12, hb12⟩
  have HC12 := h12.conv
  have B12 := Lib.hid (B11.out.trans (hb12.mono HN11.out))
  clear C12 h12 hb12
  try dsimp only [id]
  go_wp2
  go_ret
  exact ⟨rfl, by rw [hB]; exact B12.out⟩
end Go.Proofs.Ytkkjmkihehbomaa
