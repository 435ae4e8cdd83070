/-
  The arguments of layer 8's statements: what comes (structs with octets), and what is read (structs of two numbers).
-/
import Derived.Test.YtkkjmkihehbomaaCame
import Derived.Test.YtkkjmkihehbomaaOpen
import Derived.Deep.Grids
namespace Go.Proofs.Ytkkjmkihehbomaa
open Go.ChangeShapes Go.WideShapes Go.ChangeAt Go.RowKit Go.Deep
open Go.ChangeMaps (open_string shut_string)
set_option linter.unusedVariables false
set_option linter.unusedSimpArgs false

structure StepM where
  act : Int
  n : Int
  v : Nat
  a : Option Addr
  m : Nat
  c : Nat
  b : List UInt8
deriving Inhabited
def stepC (x : StepM) : List Value := [.int .i64 x.act, .int .i64 x.n, .int .u64 (x.v : Int), .slice x.a x.m x.c]
structure StepM.Good (W : World) (x : StepM) : Prop where
  v : x.v < 18446744073709551616
  b : BytesAt W x.a x.m x.c x.b
structure AskM where
  act : Int
  n : Int
deriving Inhabited
def askC (x : AskM) : List Value := [.int .i64 x.act, .int .i64 x.n]
structure AskM.Good (x : AskM) : Prop where
  lo : -9223372036854775808 ≤ x.n
  hi : x.n ≤ 9223372036854775807

section
variable {H : Type} {enc : TypeId × Value → H} {W : World} {held : Bool}

theorem step_of {fuel : Nat} {cs : List Value} {y : DataW H × List MemPlace} (h : DataW.trod enc Try.prog W 0 (fun _ => true) held fuel 29 cs = some y) : ∃ x : StepM, cs = stepC x ∧ x.Good W := by
  obtain ⟨xs, n, _, _, hlen, hxl, hf⟩ := DataW.trod_struct Try.underlying29 h
  have h4 : cs.length = 4 := hlen.trans (by kernel_rfl)
  have hx4 : xs.length = 4 := hxl.trans (by simp)
  have c1 : Try.prog.cellsOf 3 = 1 := by kernel_rfl
  have c2 : Try.prog.cellsOf 26 = 1 := by kernel_rfl
  have c3 : Try.prog.cellsOf 27 = 1 := by kernel_rfl
  match cs, h4, xs, hx4 with
  | [v0, v1, v2, v3], _, [y0, y1, y2, y3], _ =>
    have g0 := hf 0 _ rfl
    have g1 := hf 1 _ rfl
    have g2 := hf 2 _ rfl
    have g3 := hf 3 _ rfl
    simp only [c1, c2, c3, List.drop_zero, List.drop_succ_cons, List.take_succ_cons, List.take_zero, List.getElem?_cons_zero, List.getElem?_cons_succ] at g0 g1 g2 g3
    obtain ⟨n0, e0, _, w0⟩ := DataW.trod_int Try.underlying3 g0
    obtain ⟨n1, e1, _, w1⟩ := DataW.trod_int Try.underlying3 g1
    obtain ⟨n2, e2, _, w2⟩ := DataW.trod_int Try.underlying26 g2
    obtain ⟨a, len, cap, l, e3, hb⟩ := trod_bytes g3
    obtain ⟨rfl, _⟩ := List.cons.inj e0
    obtain ⟨rfl, _⟩ := List.cons.inj e1
    obtain ⟨rfl, _⟩ := List.cons.inj e2
    obtain ⟨rfl, _⟩ := List.cons.inj e3
    have r2 : 0 ≤ n2 ∧ n2 ≤ 18446744073709551615 := by
      simpa [Lit.wf, IntKind.min, IntKind.max, IntKind.signed, IntKind.bits] using w2
    refine ⟨⟨n0, n1, n2.toNat, a, len, cap, l⟩, ?_, by dsimp only; omega, hb⟩
    have : ((n2.toNat : Nat) : Int) = n2 := by omega
    simp only [stepC, this]

theorem steps_of {r : Reach} {b0 : Nat} {v : Value} {d : DataW H} {p : List MemPlace} (hv : Value.okWide Try.prog W r b0 22 v) (h : DataW.Trod enc Try.prog W 0 (fun _ => true) held 22 v d p) :
    ∃ a n cap L, v = .slice a n cap ∧ CameAt stepC 4 W a n cap L ∧ ∀ x ∈ L, x.Good W := by
  have c5 : Try.prog.cellsOf 29 = 4 := by kernel_rfl
  rcases slice_of Try.underlying22 hv h with rfl | ⟨x, len, cap, rfl, hl, hm, hx⟩
  · exact ⟨_, _, _, [], rfl, CameAt.nil _ _ _, by simp⟩
  · obtain ⟨B, hB⟩ := choose_lt (α := StepM) (n := len) (p := fun i y => (∀ j, j < 4 → W.cell? (x.add (i * 4 + j)) = (stepC y)[j]?) ∧ y.Good W) (fun i hi => by
      obtain ⟨cs, n, y, h1, h2, h3⟩ := hx i hi
      obtain ⟨z, rfl, hz⟩ := step_of h3
      rw [c5] at h2
      exact ⟨z, fun j hj => h2 j (by simpa [stepC] using hj), hz⟩)
    refine ⟨_, _, _, (List.range len).map B, rfl, ⟨by simp, hl, hm, fun _ _ => rfl, .inr ⟨x, rfl, fun i j y hi hj => ?_⟩⟩, fun y hy => ?_⟩
    · have hil : i < len := by simpa using (List.getElem?_eq_some_iff.1 hi).1
      simp [hil] at hi
      rw [← hi]
      exact (hB i hil).1 j hj
    · simp only [List.mem_map, List.mem_range] at hy
      obtain ⟨i, hi, rfl⟩ := hy
      exact (hB i hi).2

theorem ask_of {fuel : Nat} {cs : List Value} {y : DataW H × List MemPlace} (h : DataW.trod enc Try.prog W 0 (fun _ => true) held fuel 46 cs = some y) : ∃ x : AskM, cs = askC x ∧ x.Good := by
  obtain ⟨xs, n, _, _, hlen, hxl, hf⟩ := DataW.trod_struct Try.underlying46 h
  have h2 : cs.length = 2 := hlen.trans (by kernel_rfl)
  have hx2 : xs.length = 2 := hxl.trans (by simp)
  have c1 : Try.prog.cellsOf 3 = 1 := by kernel_rfl
  match cs, h2, xs, hx2 with
  | [v0, v1], _, [y0, y1], _ =>
    have g0 := hf 0 _ rfl
    have g1 := hf 1 _ rfl
    simp only [c1, List.drop_zero, List.drop_succ_cons, List.take_succ_cons, List.take_zero, List.getElem?_cons_zero, List.getElem?_cons_succ] at g0 g1
    obtain ⟨n0, e0, _, w0⟩ := DataW.trod_int Try.underlying3 g0
    obtain ⟨n1, e1, _, w1⟩ := DataW.trod_int Try.underlying3 g1
    obtain ⟨rfl, _⟩ := List.cons.inj e0
    obtain ⟨rfl, _⟩ := List.cons.inj e1
    have r1 : -9223372036854775808 ≤ n1 ∧ n1 ≤ 9223372036854775807 := by
      simpa [Lit.wf, IntKind.min, IntKind.max, IntKind.signed, IntKind.bits] using w1
    exact ⟨⟨n0, n1⟩, rfl, r1.1, r1.2⟩

theorem asks_of {r : Reach} {b0 : Nat} {v : Value} {d : DataW H} {p : List MemPlace} (hv : Value.okWide Try.prog W r b0 42 v) (h : DataW.Trod enc Try.prog W 0 (fun _ => true) held 42 v d p) :
    ∃ a n cap L, v = .slice a n cap ∧ CameAt askC 2 W a n cap L ∧ ∀ x ∈ L, x.Good := by
  have c5 : Try.prog.cellsOf 46 = 2 := by kernel_rfl
  rcases slice_of Try.underlying42 hv h with rfl | ⟨x, len, cap, rfl, hl, hm, hx⟩
  · exact ⟨_, _, _, [], rfl, CameAt.nil _ _ _, by simp⟩
  · obtain ⟨B, hB⟩ := choose_lt (α := AskM) (n := len) (p := fun i y => (∀ j, j < 2 → W.cell? (x.add (i * 2 + j)) = (askC y)[j]?) ∧ y.Good) (fun i hi => by
      obtain ⟨cs, n, y, h1, h2, h3⟩ := hx i hi
      obtain ⟨z, rfl, hz⟩ := ask_of h3
      rw [c5] at h2
      exact ⟨z, fun j hj => h2 j (by simpa [askC] using hj), hz⟩)
    refine ⟨_, _, _, (List.range len).map B, rfl, ⟨by simp, hl, hm, fun _ _ => rfl, .inr ⟨x, rfl, fun i j y hi hj => ?_⟩⟩, fun y hy => ?_⟩
    · have hil : i < len := by simpa using (List.getElem?_eq_some_iff.1 hi).1
      simp [hil] at hi
      rw [← hi]
      exact (hB i hil).1 j hj
    · simp only [List.mem_map, List.mem_range] at hy
      obtain ⟨i, hi, rfl⟩ := hy
      exact (hB i hi).2
end

section
variable {w w' : World} {a : Option Addr} {n cap : Nat}
theorem steps_at {M : List StepM} (h : CameAt stepC 4 w a n cap M) (hn : 0 < n) : ∃ b off, a = some ⟨b, off, none⟩ ∧ b < w.heap.size ∧ ∀ k, k < n →
    w.cell? ⟨b, off + k * 4, none⟩ = some (.int .i64 (M.getD k default).act) ∧ w.cell? ⟨b, off + k * 4 + 1, none⟩ = some (.int .i64 (M.getD k default).n) ∧
    w.cell? ⟨b, off + k * 4 + 2, none⟩ = some (.int .u64 ((M.getD k default).v : Int)) ∧ w.cell? ⟨b, off + k * 4 + 3, none⟩ = some (.slice (M.getD k default).a (M.getD k default).m (M.getD k default).c) ∧ w.rangeAt b (off + k * 4) (stepC (M.getD k default)) := by
  obtain ⟨b, off, rfl, hb, hc⟩ := CameAt.at h hn (by omega)
  refine ⟨b, off, rfl, hb, fun k hk => ?_⟩
  have hx : M[k]? = some (M.getD k default) := by rw [List.getD, List.getElem?_eq_getElem (by have := h.1; omega)]; rfl
  refine ⟨hc k 0 _ hx (by omega), by rw [Nat.add_assoc]; exact hc k 1 _ hx (by omega), by rw [Nat.add_assoc]; exact hc k 2 _ hx (by omega), by rw [Nat.add_assoc]; exact hc k 3 _ hx (by omega), fun j v hj => ?_⟩
  have hjl : j < 4 := by have := (List.getElem?_eq_some_iff.1 hj).1; simpa [stepC] using this
  rw [Nat.add_assoc, hc k j _ hx hjl, hj]
theorem asks_at {M : List AskM} (h : CameAt askC 2 w a n cap M) (hn : 0 < n) : ∃ b off, a = some ⟨b, off, none⟩ ∧ b < w.heap.size ∧ ∀ k, k < n →
    w.cell? ⟨b, off + k * 2, none⟩ = some (.int .i64 (M.getD k default).act) ∧ w.cell? ⟨b, off + k * 2 + 1, none⟩ = some (.int .i64 (M.getD k default).n) ∧ w.rangeAt b (off + k * 2) (askC (M.getD k default)) := by
  obtain ⟨b, off, rfl, hb, hc⟩ := CameAt.at h hn (by omega)
  refine ⟨b, off, rfl, hb, fun k hk => ?_⟩
  have hx : M[k]? = some (M.getD k default) := by rw [List.getD, List.getElem?_eq_getElem (by have := h.1; omega)]; rfl
  refine ⟨hc k 0 _ hx (by omega), by rw [Nat.add_assoc]; exact hc k 1 _ hx (by omega), fun j v hj => ?_⟩
  have hjl : j < 2 := by have := (List.getElem?_eq_some_iff.1 hj).1; simpa [askC] using this
  rw [Nat.add_assoc, hc k j _ hx hjl, hj]
theorem cameD {α : Type} [Inhabited α] {f : α → List Value} {size : Nat} {M : List α} (h : CameAt f size w a n cap M) (k : Nat) (hk : k < n) : M.getD k default ∈ M := by
  rw [List.getD, List.getElem?_eq_getElem (by rw [h.1]; exact hk)]; exact List.getElem_mem _
end
theorem sizeStep : (Try.prog.info? 29).map (·.size) = some 4 := by kernel_rfl
theorem sizeAsk : (Try.prog.info? 46).map (·.size) = some 2 := by kernel_rfl
theorem stepC_one (x : StepM) : ∀ u ∈ stepC x, u.oneCell' = true := by
  intro u hu; simp only [stepC, List.mem_cons, List.not_mem_nil, or_false] at hu; rcases hu with rfl | rfl | rfl | rfl <;> rfl
theorem askC_one (x : AskM) : ∀ u ∈ askC x, u.oneCell' = true := by
  intro u hu; simp only [askC, List.mem_cons, List.not_mem_nil, or_false] at hu; rcases hu with rfl | rfl <;> rfl
end Go.Proofs.Ytkkjmkihehbomaa
