/-
  Few, tokens, awake of layer 11.
-/
import Derived.Test.YtonfppbijofapaaMaCode
import Derived.Test.YtonfppbijofapaaLit
import Derived.Lib.SlBytesConst
import Derived.Deep.DeepCutAuto
import Derived.Deep.CutBlock
namespace Go.Proofs.Ytonfppbijofapaa
open Go.RowKit Go.Deep
set_option linter.unusedVariables false
set_option linter.unusedSimpArgs false
set_option maxRecDepth 100000

theorem headOfB {w : World} {a : Option Addr} {n cap : Nat} {b : List UInt8} (h : BytesAt w a n cap b) (m : Nat) (hm : m ≤ n) : BytesAt w a m cap (b.take m) := by
  obtain ⟨h1, h2, h3, h4⟩ := h
  refine ⟨by rw [List.length_take]; omega, by omega, h3, ?_⟩
  rcases h4 with ⟨rfl, h5, h6⟩ | ⟨x, rfl, hx⟩
  · exact .inl ⟨rfl, by omega, h6⟩
  · refine .inr ⟨x, rfl, fun i hi => ?_⟩
    rw [hx i (by omega)]
    simp [List.getD, List.getElem?_take_of_lt hi]
def FewB (a : Option Addr) (cap : Nat) (w : World) (e : Ending) (w' : World) : Prop := w = w' ∧ ∃ m M, e = .returned (.slice a m cap) ∧ BytesAt w a m cap M ∧ m ≤ 65537
theorem maFew_any (a : Option Addr) (n cap : Nat) (b : List UInt8) (w : World) (h : BytesAt w a n cap b) :
    Calls Try.prog 8 #[.slice a n cap] w (FewB a cap w) := by
  have hcap := h.2.1
  have HL := Lib.hid h
  clear h
  by_cases hb : 65537 < n
  · have hbi : (65537 : Int) < n := by omega
    go_enter Try.func8, Try.ntmps8
    go_wp2
    go_ret
    exact ⟨rfl, 65537, _, rfl, headOfB HL.out 65537 (by omega), by omega⟩
  · have hbi : ¬ (65537 : Int) < n := by omega
    by_cases h60 : 700 < n
    · have h60i : (700 : Int) < n := by omega
      by_cases h320 : n ≤ 65536
      · have h320i : (n : Int) ≤ 65536 := by omega
        go_enter Try.func8, Try.ntmps8
        go_wp2
        go_ret
        exact ⟨rfl, 700, _, rfl, headOfB HL.out 700 (by omega), by omega⟩
      · have h320i : ¬ (n : Int) ≤ 65536 := by omega
        go_enter Try.func8, Try.ntmps8
        go_wp2
        go_ret
        exact ⟨rfl, n, _, rfl, HL.out, by omega⟩
    · have h60i : ¬ (700 : Int) < n := by omega
      go_enter Try.func8, Try.ntmps8
      go_wp2
      go_ret
      exact ⟨rfl, n, _, rfl, HL.out, by omega⟩
theorem toks_head {w : World} {n cap : Nat} {a : Option Addr} {L : List Tok} (h : TokAt w a n cap L) (m : Nat) (hm : m ≤ n) : TokAt w a m cap (L.take m) := by
  obtain ⟨h1, h2, h3, h4, h5⟩ := h
  refine ⟨by simp; omega, by omega, h3, fun x hx => h4 x (List.mem_of_mem_take hx), ?_⟩
  rcases h5 with ⟨rfl, h5, h6⟩ | ⟨x, rfl, hx⟩
  · exact .inl ⟨rfl, by omega, h6⟩
  · refine .inr ⟨x, rfl, fun i j y hi hj => hx i j y ?_ hj⟩
    have him : i < m := by
      have := (List.getElem?_eq_some_iff.1 hi).1
      simp at this; omega
    rwa [List.getElem?_take_of_lt him] at hi
def FewTk (a : Option Addr) (cap : Nat) (w : World) (e : Ending) (w' : World) : Prop := w = w' ∧ ∃ m M, e = .returned (.slice a m cap) ∧ TokAt w a m cap M ∧ m ≤ 120
theorem maTokens_any (a : Option Addr) (n cap : Nat) (L : List Tok) (w : World) (h : TokAt w a n cap L) :
    Calls Try.prog 15 #[.slice a n cap] w (FewTk a cap w) := by
  have hcap := h.2.1
  have HL := Lib.hid h
  clear h
  by_cases hb : 120 < n
  · have hbi : (120 : Int) < n := by omega
    go_enter Try.func15, Try.ntmps15
    go_wp2
    go_ret
    exact ⟨rfl, 120, _, rfl, toks_head HL.out 120 (by omega), by omega⟩
  · have hbi : ¬ (120 : Int) < n := by omega
    go_enter Try.func15, Try.ntmps15
    go_wp2
    go_ret
    exact ⟨rfl, n, _, rfl, HL.out, by omega⟩
/-! ### awake -/
theorem aw11_a : findE [97, 97, 97, 97] = 0 ∧ findT [97, 97, 97, 97] = [⟨97, 0, 0⟩, ⟨0, 3, 1⟩] := by decide +kernel
theorem aw11_b : findE [97, 98, 99, 97, 98, 99, 100] = 0 ∧ findT [97, 98, 99, 97, 98, 99, 100] = [⟨97, 0, 0⟩, ⟨98, 0, 0⟩, ⟨99, 0, 0⟩, ⟨0, 3, 3⟩, ⟨100, 0, 0⟩] := by decide +kernel
theorem aw11_c : expandM [⟨0, 3, 1⟩] 9 = ([], 12, 0) := by decide +kernel
theorem lit_toks (w : World) (L : List Tok) (hL : L.length ≤ 1000) : TokAt (w.alloc (.cells (L.flatMap tokC).toArray 51)) (some ⟨w.heap.size, 0, none⟩) L.length L.length L := by
  refine ⟨rfl, Nat.le_refl _, by unfold maxLen; omega, fun _ _ => rfl, .inr ⟨_, rfl, fun i j x hi hj => ?_⟩⟩
  rw [Addr.add_mid, Nat.zero_add, cell_of_row _ _ _ _ _ _ (heap_alloc_new w _), List.getElem?_toArray, flatMap_at (size := 3) L (fun _ _ => rfl) i j x hi hj]
theorem lit_bytesC (w : World) (l : List UInt8) (fr : Nat × Nat) (hl : l.length ≤ 1000) : BytesAt (w.alloc (.cells (vals l).toArray 5 fr)) (some ⟨w.heap.size, 0, none⟩) l.length l.length l := by
  refine ⟨rfl, Nat.le_refl _, by unfold maxLen; omega, .inr ⟨_, rfl, fun i hi => ?_⟩⟩
  rw [Addr.add_mid, Nat.zero_add, cell_of_row _ _ _ _ _ _ (heap_alloc_new w _), List.getElem?_toArray]
  simp [vals, List.getD, List.getElem?_eq_getElem hi]
theorem alloc_belowM (w : World) (o : Obj) : Below w.heap.size w (w.alloc o) := (Below.refl _ _).alloc (Nat.le_refl _) _
set_option maxHeartbeats 8000000 in
theorem awake11 (w : World) : Calls Try.prog 10 #[] w fun e w' => e = .returned (.bool true) ∧ Below w.heap.size w w' := by
  have C1 := matFind_any _ _ _ _ _ (lit_bytesC w [97, 97, 97, 97] (4, 5) (by simp))
  unfold FindTo at C1
  rw [aw11_a.1, aw11_a.2] at C1
  have C1 := Lib.hid C1
  have B1 := Lib.hid (alloc_belowM w (.cells #[.int .u8 97, .int .u8 97, .int .u8 97, .int .u8 97] 5 (4, 5)))
  have hc1 := Lib.run_convert_bytes_const (P := Try.prog) w 22 5 #[.int .u8 97, .int .u8 97, .int .u8 97, .int .u8 97] 4 4 Try.underlying22 Try.underlying5
  go_enter Try.func10, Try.ntmps10
  go_wp2_with fail
  refine C1.out.mono ?_
  rintro e w1 ⟨a1, n1, c1, rfl, h1, hb1⟩
  have H1 := Lib.hid h1
  have B2 := Lib.hid (B1.out.trans (hb1.mono B1.out.size))
  clear C1 B1 h1 hb1 hc1
  have C2 := matFind_any _ _ _ _ _ (lit_bytesC w1 [97, 98, 99, 97, 98, 99, 100] (7, 8) (by simp))
  unfold FindTo at C2
  rw [aw11_b.1, aw11_b.2] at C2
  have C2 := Lib.hid C2
  have hb2 := alloc_belowM w1 (.cells #[.int .u8 97, .int .u8 98, .int .u8 99, .int .u8 97, .int .u8 98, .int .u8 99, .int .u8 100] 5 (7, 8))
  have B3 := Lib.hid (B2.out.trans (hb2.mono B2.out.size))
  have H2 := Lib.hid (show TokAt _ a1 n1 c1 [⟨97, 0, 0⟩, ⟨0, 3, 1⟩] from CameAt.below H1.out (by omega) hb2)
  have hc2 := Lib.run_convert_bytes_const (P := Try.prog) w1 22 5 #[.int .u8 97, .int .u8 98, .int .u8 99, .int .u8 97, .int .u8 98, .int .u8 99, .int .u8 100] 7 7 Try.underlying22 Try.underlying5
  clear hb2 H1 B2
  go_wp2_with fail
  refine C2.out.mono ?_
  rintro e w2 ⟨a2, n2, c2, rfl, h2, hb3⟩
  have B4 := Lib.hid (B3.out.trans (hb3.mono B3.out.size))
  have H3 := Lib.hid (show TokAt _ a1 n1 c1 [⟨97, 0, 0⟩, ⟨0, 3, 1⟩] from CameAt.below H2.out (by omega) hb3)
  have K3 := Lib.hid h2
  clear C2 H2 B3 h2 hb3 hc2
  have C3 := matExpand_any _ _ _ _ 9 _ (lit_toks w2 [⟨0, 3, 1⟩] (by simp)) (by simp) (by decide)
  unfold ExpTo at C3
  rw [aw11_c] at C3
  have C3 := Lib.hid C3
  have hb4 := alloc_belowM w2 (.cells #[.int .u8 0, .int .i64 3, .int .i64 1] 51)
  have B5 := Lib.hid (B4.out.trans (hb4.mono B4.out.size))
  have H4 := Lib.hid (show TokAt _ a1 n1 c1 [⟨97, 0, 0⟩, ⟨0, 3, 1⟩] from CameAt.below H3.out (by omega) hb4)
  have K4 := Lib.hid (show TokAt _ a2 n2 c2 [⟨97, 0, 0⟩, ⟨98, 0, 0⟩, ⟨99, 0, 0⟩, ⟨0, 3, 3⟩, ⟨100, 0, 0⟩] from CameAt.below K3.out (by omega) hb4)
  clear hb4 H3 K3 B4
  go_wp2_with fail
  refine C3.out.mono ?_
  rintro e w3 ⟨a3, n3, c3, s3, er, p3, he3, rfl, _, hb5⟩
  simp only [Prod.mk.injEq] at he3
  obtain ⟨rfl, rfl, rfl⟩ := he3
  have B6 := Lib.hid (B5.out.trans (hb5.mono B5.out.size))
  have H5 := Lib.hid (show TokAt _ a1 n1 c1 [⟨97, 0, 0⟩, ⟨0, 3, 1⟩] from CameAt.below H4.out (by omega) hb5)
  have K5 := Lib.hid (show TokAt _ a2 n2 c2 [⟨97, 0, 0⟩, ⟨98, 0, 0⟩, ⟨99, 0, 0⟩, ⟨0, 3, 3⟩, ⟨100, 0, 0⟩] from CameAt.below K4.out (by omega) hb5)
  clear C3 H4 K4 B5 hb5
  have hb6 := alloc_belowM w3 (.cells #[.int .u8 97, .int .i64 0, .int .i64 0, .int .u8 0, .int .i64 3, .int .i64 1] 51)
  have B7 := Lib.hid (B6.out.trans (hb6.mono B6.out.size))
  have K6 := Lib.hid (show TokAt _ a2 n2 c2 [⟨97, 0, 0⟩, ⟨98, 0, 0⟩, ⟨99, 0, 0⟩, ⟨0, 3, 3⟩, ⟨100, 0, 0⟩] from CameAt.below K5.out (by omega) hb6)
  have C4 := maSame_any a1 n1 c1 _ _ _ _ _ _ (CameAt.below H5.out (by omega) hb6) (lit_toks w3 [⟨97, 0, 0⟩, ⟨0, 3, 1⟩] (by simp))
  simp only [decide_true] at C4
  have C4 := Lib.hid C4
  clear hb6 H5 K5 B6
  go_wp2_with fail
  refine C4.out.mono ?_
  rintro e w4 ⟨rfl, hb7⟩
  have B8 := Lib.hid (B7.out.trans (hb7.mono B7.out.size))
  have K7 := Lib.hid (show TokAt _ a2 n2 c2 [⟨97, 0, 0⟩, ⟨98, 0, 0⟩, ⟨99, 0, 0⟩, ⟨0, 3, 3⟩, ⟨100, 0, 0⟩] from CameAt.below K6.out (by omega) hb7)
  clear C4 K6 B7 hb7
  have hb8 := alloc_belowM w4 (.cells #[.int .u8 97, .int .i64 0, .int .i64 0, .int .u8 98, .int .i64 0, .int .i64 0, .int .u8 99, .int .i64 0, .int .i64 0, .int .u8 0, .int .i64 3, .int .i64 3, .int .u8 100, .int .i64 0, .int .i64 0] 51)
  have B9 := Lib.hid (B8.out.trans (hb8.mono B8.out.size))
  have C5 := maSame_any a2 n2 c2 _ _ _ _ _ _ (CameAt.below K7.out (by omega) hb8) (lit_toks w4 [⟨97, 0, 0⟩, ⟨98, 0, 0⟩, ⟨99, 0, 0⟩, ⟨0, 3, 3⟩, ⟨100, 0, 0⟩] (by simp))
  simp only [decide_true] at C5
  have C5 := Lib.hid C5
  clear hb8 K7 B8
  go_wp2_with fail
  refine C5.out.mono ?_
  rintro e w5 ⟨rfl, hb9⟩
  have B10 := Lib.hid (B9.out.trans (hb9.mono B9.out.size))
  clear C5 B9 hb9
  go_wp2
  go_ret
  exact ⟨rfl, B10.out⟩
end Go.Proofs.Ytonfppbijofapaa
