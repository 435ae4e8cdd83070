/-
  The arguments of layer 9's statements; few, awake.
-/
import Derived.Test.YtgfdonmkhmolpaaCnE
import Derived.Deep.Grids
namespace Go.Proofs.Ytgfdonmkhmolpaa
open Go.ChangeShapes Go.WideShapes Go.ChangeAt Go.RowKit Go.Deep
set_option linter.unusedVariables false
set_option linter.unusedSimpArgs false
set_option maxRecDepth 100000

theorem CameAt.upTo {α : Type} {f : α → List Value} {w : World} {size n cap : Nat} {a : Option Addr} {L : List α} (h : CameAt f size w a n cap L) (m : Nat) (hm : m ≤ n) : CameAt f size w a m cap (L.take m) := by
  obtain ⟨h1, h2, h3, h4, h5⟩ := h
  refine ⟨by simp; omega, by omega, h3, fun x hx => h4 x (List.mem_of_mem_take hx), ?_⟩
  rcases h5 with ⟨rfl, h5, h6⟩ | ⟨x, rfl, hx⟩
  · exact .inl ⟨rfl, by omega, h6⟩
  · refine .inr ⟨x, rfl, fun i j y hi hj => hx i j y ?_ hj⟩
    have him : i < m := by
      have := (List.getElem?_eq_some_iff.1 hi).1
      simp at this; omega
    rwa [List.getElem?_take_of_lt him] at hi
section
variable {H : Type} {enc : TypeId × Value → H} {W : World} {held : Bool}
theorem code_of {fuel : Nat} {cs : List Value} {y : DataW H × List MemPlace} (h : DataW.trod enc Try.prog W 0 (fun _ => true) held fuel 34 cs = some y) : ∃ x : Nat × Int, cs = codeZ x ∧ x.1 < 18446744073709551616 := by
  obtain ⟨xs, n, _, _, hlen, hxl, hf⟩ := DataW.trod_struct Try.underlying34 h
  have h2 : cs.length = 2 := hlen.trans (by kernel_rfl)
  have hx2 : xs.length = 2 := hxl.trans (by simp)
  have c1 : Try.prog.cellsOf 3 = 1 := by kernel_rfl
  have c2 : Try.prog.cellsOf 32 = 1 := by kernel_rfl
  match cs, h2, xs, hx2 with
  | [v0, v1], _, [y0, y1], _ =>
    have g0 := hf 0 _ rfl
    have g1 := hf 1 _ rfl
    simp only [c1, c2, List.drop_zero, List.drop_succ_cons, List.take_succ_cons, List.take_zero, List.getElem?_cons_zero, List.getElem?_cons_succ] at g0 g1
    obtain ⟨n0, e0, _, w0⟩ := DataW.trod_int Try.underlying32 g0
    obtain ⟨n1, e1, _, w1⟩ := DataW.trod_int Try.underlying3 g1
    obtain ⟨rfl, _⟩ := List.cons.inj e0
    obtain ⟨rfl, _⟩ := List.cons.inj e1
    have r0 : 0 ≤ n0 ∧ n0 ≤ 18446744073709551615 := by
      simpa [Lit.wf, IntKind.min, IntKind.max, IntKind.signed, IntKind.bits] using w0
    refine ⟨(n0.toNat, n1), ?_, by dsimp only; omega⟩
    have : ((n0.toNat : Nat) : Int) = n0 := by omega
    simp only [codeZ, this]
theorem codes_of {r : Reach} {b0 : Nat} {v : Value} {d : DataW H} {p : List MemPlace} (hv : Value.okWide Try.prog W r b0 25 v) (h : DataW.Trod enc Try.prog W 0 (fun _ => true) held 25 v d p) :
    ∃ a n cap L, v = .slice a n cap ∧ CodesAt W a n cap L ∧ ∀ x ∈ L, x.1 < 18446744073709551616 := by
  have c5 : Try.prog.cellsOf 34 = 2 := by kernel_rfl
  rcases slice_of Try.underlying25 hv h with rfl | ⟨x, len, cap, rfl, hl, hm, hx⟩
  · exact ⟨_, _, _, [], rfl, CameAt.nil _ _ _, by simp⟩
  · obtain ⟨B, hB⟩ := choose_lt (α := Nat × Int) (n := len) (p := fun i y => (∀ j, j < 2 → W.cell? (x.add (i * 2 + j)) = (codeZ y)[j]?) ∧ y.1 < 18446744073709551616) (fun i hi => by
      obtain ⟨cs, n, y, h1, h2, h3⟩ := hx i hi
      obtain ⟨z, rfl, hz⟩ := code_of h3
      rw [c5] at h2
      exact ⟨z, fun j hj => h2 j (by simpa [codeZ] using hj), hz⟩)
    refine ⟨_, _, _, (List.range len).map B, rfl, ⟨by simp, hl, hm, fun _ _ => rfl, .inr ⟨x, rfl, fun i j y hi hj => ?_⟩⟩, fun y hy => ?_⟩
    · have hil : i < len := by simpa using (List.getElem?_eq_some_iff.1 hi).1
      simp [hil] at hi
      rw [← hi]
      exact (hB i hil).1 j hj
    · simp only [List.mem_map, List.mem_range] at hy
      obtain ⟨i, hi, rfl⟩ := hy
      exact (hB i hi).2
theorem ints_of {r : Reach} {b0 : Nat} {v : Value} {d : DataW H} {p : List MemPlace} (hv : Value.okWide Try.prog W r b0 22 v) (h : DataW.Trod enc Try.prog W 0 (fun _ => true) held 22 v d p) :
    ∃ a n cap L, v = .slice a n cap ∧ IntsAt W a n cap L ∧ True := by
  obtain ⟨a, n, cap, L, h1, h2⟩ := open_intsAt hv h
  exact ⟨a, n, cap, L, h1, h2, trivial⟩
end

def FewI (a : Option Addr) (cap : Nat) (w : World) (e : Ending) (w' : World) : Prop := w = w' ∧ ∃ m M, e = .returned (.slice a m cap) ∧ IntsAt w a m cap M ∧ m ≤ 321
theorem cnFew_any (a : Option Addr) (n cap : Nat) (L : List Int) (w : World) (h : IntsAt w a n cap L) :
    Calls Try.prog 6 #[.slice a n cap] w (FewI a cap w) := by
  have hcap := h.2.1
  have HL := Lib.hid h
  clear h
  by_cases hb : 321 < n
  · have hbi : (321 : Int) < n := by omega
    go_enter Try.func6, Try.ntmps6
    go_wp2
    go_ret
    exact ⟨rfl, 321, _, rfl, CameAt.upTo HL.out 321 (by omega), by omega⟩
  · have hbi : ¬ (321 : Int) < n := by omega
    go_enter Try.func6, Try.ntmps6
    go_wp2
    go_ret
    exact ⟨rfl, n, _, rfl, HL.out, by omega⟩

/-! ### awake -/
theorem lit_ints (w : World) (L : List Int) (hL : L.length ≤ 1000) : IntsAt (w.alloc (.cells (L.map fun z => Value.int .i64 z).toArray 3)) (some ⟨w.heap.size, 0, none⟩) L.length L.length L := by
  refine ⟨rfl, Nat.le_refl _, by unfold maxLen; omega, fun _ _ => rfl, .inr ⟨_, rfl, fun i j x hi hj => ?_⟩⟩
  obtain rfl : j = 0 := by omega
  rw [Addr.add_mid, Nat.zero_add, Nat.mul_one, Nat.add_zero, cell_of_row _ _ _ _ _ _ (heap_alloc_new w _)]
  rw [List.getElem?_toArray, List.getElem?_map, hi]
  rfl
theorem aw9_a : codesE [2, 1, 3, 3] = 0 ∧ codesL [2, 1, 3, 3] = [(2, 2), (0, 1), (6, 3), (7, 3)] := by decide +kernel
theorem aw9_b : newE [0, 1] = 0 ∧ checkE [1, 1, 1] = 8 ∧ checkE [2, 2] = 2 := by decide +kernel
theorem aw9_c : takesN (natsL [0, 1]) (ofL [1]) 0 = (0, 1, 11) := by decide +kernel
theorem lit_bytes (w : World) (l : List UInt8) (hl : l.length ≤ 1000) : BytesAt (w.alloc (.cells (vals l).toArray 5)) (some ⟨w.heap.size, 0, none⟩) l.length l.length l := by
  have h : (w.alloc (.cells (vals l).toArray 5)).ownsRow w.heap.size 5 1 (.slice (some ⟨w.heap.size, 0, none⟩) l.length l.length) l.length (vals l) := by
    refine ⟨by simp [vals], .inr ⟨w.heap.size, l.length, (vals l).toArray, rfl, Nat.le_refl _, heap_alloc_new w _, Nat.le_refl _, by unfold maxLen; omega, by simp [vals], ?_⟩⟩
    simp [vals]
    exact List.take_of_length_le (by simp)
  exact BytesAt.owned h

set_option maxHeartbeats 8000000 in
theorem awake09 (w : World) : Calls Try.prog 10 #[] w fun e w' => e = .returned (.bool true) ∧ Below w.heap.size w w' := by
  have hb1 := (Below.refl w.heap.size w).alloc (Nat.le_refl _) (.cells #[.int .i64 2, .int .i64 1, .int .i64 3, .int .i64 3] 3)
  have hl1 := lit_ints w [2, 1, 3, 3] (by simp)
  have C1 := cnCodesP_any _ _ _ _ _ hl1
  unfold CodesTo at C1
  rw [aw9_a.1, aw9_a.2] at C1
  have C1 := Lib.hid C1
  have B1 := Lib.hid hb1
  clear hb1 hl1
  go_enter Try.func10, Try.ntmps10
  go_wp2_with fail
  refine C1.out.mono ?_
  rintro e w2 ⟨ca, cm, cc, rfl, hI⟩
  have hcm : cm = 4 := hI.2.1.symm
  subst hcm
  have HI := Lib.hid (codes_came (hI.1.came8 fun _ => rfl))
  have B2 := Lib.hid (B1.out.trans (hI.2.2.2.mono B1.out.size))
  clear hI C1 B1
  have C2 := Lib.hid ((cnNewP_any _ _ _ _ _ (lit_ints w2 [0, 1] (by simp))).mono fun e w' h => show Below (w2.alloc (.cells #[.int .i64 0, .int .i64 1] 3)).heap.size _ w' ∧ ∃ D, e = .returned (.tuple #[.pointer (some ⟨D, 0, none⟩), .int .i64 0]) ∧ DecS (w2.alloc (.cells #[.int .i64 0, .int .i64 1] 3)).heap.size w' D (natsL [0, 1]) by
    rcases h.2 with ⟨h1, _⟩ | ⟨_, h2⟩
    · exact absurd aw9_b.1 h1
    · exact ⟨h.1, h2⟩)
  have HI2 := Lib.hid (CameAt.below HI.out (by omega) ((Below.refl w2.heap.size w2).alloc (Nat.le_refl _) (.cells #[.int .i64 0, .int .i64 1] 3)))
  have B3 := Lib.hid (B2.out.alloc B2.out.size (.cells #[.int .i64 0, .int .i64 1] 3))
  clear B2 HI
  go_wp2_with fail
  refine C2.out.mono ?_
  rintro e w4 ⟨hb4, D, rfl, hd⟩
  have B4 := Lib.hid (B3.out.trans (hb4.mono B3.out.size))
  have HI4 := Lib.hid (CameAt.below HI2.out (by omega) hb4)
  have hb5 := (Below.refl w4.heap.size w4).alloc (Nat.le_refl _) (.cells #[.int .u8 1] 5)
  have HD := Lib.hid (hd.below hb5)
  have B5 := Lib.hid (B4.out.trans (hb5.mono B4.out.size))
  have HI5 := Lib.hid (CameAt.below HI4.out (by omega) hb5)
  have C3 := Lib.hid (readS _ _ _ _ _ (lit_bytes w4 [1] (by simp)) (by simp))
  clear hb4 hd hb5 C2 HI2 B3 B4 HI4
  go_wp2_with fail
  refine C3.out.mono ?_
  rintro e w6 ⟨Br, rfl, hr6, hb6⟩
  have C4 := cnTakeP_any (HD.out.below hb6) (newE_dec [0, 1] aw9_b.1).1 hr6 (by simp) (by simp)
  rw [aw9_c] at C4
  have C4 := Lib.hid C4
  have B6 := Lib.hid (B5.out.trans (hb6.mono B5.out.size))
  have HB6 := Lib.hid hb6
  have HN5 := Lib.hid B5.out.size
  clear HD B5 C3 hr6 hb6
  go_wp2_with fail
  refine C4.out.mono ?_
  rintro e w7 ⟨rfl, hk7⟩
  have B7 := Lib.hid (B6.out.trans (hk7.2.1.mono HN5.out))
  have HI7 := Lib.hid (CameAt.below HI5.out (by omega) (HB6.out.trans hk7.2.1))
  clear hk7 C4 HB6 HN5 HI5 B6
  dsimp only
  have E0 : ∀ u, (Op.equalIn 10000 34 (.agg #[.int .u64 2, .int .i64 2]) (.agg #[.int .u64 2, .int .i64 2])).run Try.prog u = .ok true u := fun u => codes_eq (2, 2) (2, 2) u
  have E1 : ∀ u, (Op.equalIn 10000 34 (.agg #[.int .u64 0, .int .i64 1]) (.agg #[.int .u64 0, .int .i64 1])).run Try.prog u = .ok true u := fun u => codes_eq (0, 1) (0, 1) u
  have E3 : ∀ u, (Op.equalIn 10000 34 (.agg #[.int .u64 7, .int .i64 3]) (.agg #[.int .u64 7, .int .i64 3])).run Try.prog u = .ok true u := fun u => codes_eq (7, 3) (7, 3) u
  obtain ⟨cb, coff, rfl, _, hc⟩ := CodesAt.cell HI7.out (by omega)
  obtain ⟨x0, x1⟩ := hc 0 (by omega)
  obtain ⟨x2, x3⟩ := hc 1 (by omega)
  obtain ⟨x6, x7⟩ := hc 3 (by omega)
  simp only [List.map_cons, List.map_nil, toZ, List.getD_cons_zero, List.getD_cons_succ, Nat.zero_mul, Nat.reduceMul, Nat.add_zero] at x0 x1 x2 x3 x6 x7
  have y3 := x3
  have y7 := x7
  rw [Nat.add_assoc] at y3 y7
  simp only [Nat.reduceAdd] at y3 y7
  clear hc HI7
  have C8 := cnChk_any _ _ _ _ _ (lit_ints w7 [1, 1, 1] (by simp))
  rw [aw9_b.2.1] at C8
  have C8 := Lib.hid C8
  have B8 := Lib.hid (B7.out.alloc B7.out.size (.cells #[.int .i64 1, .int .i64 1, .int .i64 1] 3))
  go_wp2_with fail
  refine C8.out.mono ?_
  rintro e w8 ⟨rfl, hb8⟩
  have B9 := Lib.hid (B8.out.trans (hb8.mono B8.out.size))
  have C9 := cnChk_any _ _ _ _ _ (lit_ints w8 [2, 2] (by simp))
  rw [aw9_b.2.2] at C9
  have C9 := Lib.hid C9
  have B10 := Lib.hid (B9.out.alloc B9.out.size (.cells #[.int .i64 2, .int .i64 2] 3))
  clear C8 hb8 B8 B9
  go_wp2_with fail
  refine C9.out.mono ?_
  rintro e w9 ⟨rfl, hb9⟩
  have B11 := Lib.hid (B10.out.trans (hb9.mono B10.out.size))
  clear C9 hb9 B10
  go_wp2
  go_ret
  exact ⟨rfl, B11.out⟩
end Go.Proofs.Ytgfdonmkhmolpaa
