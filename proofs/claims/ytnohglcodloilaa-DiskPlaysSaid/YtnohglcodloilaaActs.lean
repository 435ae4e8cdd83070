/-
  The arguments of layer 3's statements: what is done (structs with a slice of truth values each).
-/
import Derived.Test.YtnohglcodloilaaCame
import Derived.Test.YtnohglcodloilaaOpen
import Derived.Deep.Grids
namespace Go.Proofs.Ytnohglcodloilaa
open Go.ChangeShapes Go.WideShapes Go.ChangeAt Go.RowKit Go.Deep
open Go.ChangeMaps (open_string shut_string)
set_option linter.unusedVariables false
set_option linter.unusedSimpArgs false

structure ActM where
  act : Int
  i : Int
  c : UInt8
  short : Bool
  ka : Option Addr
  kn : Nat
  kc : Nat
  keep : List Bool
deriving Inhabited

def actC (x : ActM) : List Value := [.int .i64 x.act, .int .i64 x.i, .int .u8 x.c.toNat, .bool x.short, .slice x.ka x.kn x.kc]

structure ActM.Good (W : World) (x : ActM) : Prop where
  ilo : -9223372036854775808 ≤ x.i
  ihi : x.i ≤ 9223372036854775807
  keep : BoolsAt W x.ka x.kn x.kc x.keep

section
variable {H : Type} {enc : TypeId × Value → H} {W : World} {held : Bool}

theorem bools_of {fuel : Nat} {cs : List Value} {y : DataW H × List MemPlace} (h : DataW.trod enc Try.prog W 0 (fun _ => true) held fuel 31 cs = some y) :
    ∃ a len cap L, cs = [.slice a len cap] ∧ BoolsAt W a len cap L := by
  rcases open_bools Try.underlying31 Try.underlying4 (by kernel_rfl) h with ⟨hcs, _⟩ | ⟨x, len, cap, B, hcs, _, hl, hm, _, hcell⟩
  · exact ⟨_, _, _, [], hcs, CameAt.nil _ _ _⟩
  · refine ⟨_, _, _, (List.range len).map B, hcs, by simp, hl, hm, fun _ _ => rfl, .inr ⟨x, rfl, fun i j b hi hj => ?_⟩⟩
    have hil : i < len := by simpa using (List.getElem?_eq_some_iff.1 hi).1
    obtain rfl : j = 0 := by omega
    rw [show i * 1 + 0 = i by omega, hcell i (by omega)]
    simp [hil] at hi
    simp [boolC, hi]

theorem act_of {fuel : Nat} {cs : List Value} {y : DataW H × List MemPlace} (h : DataW.trod enc Try.prog W 0 (fun _ => true) held fuel 33 cs = some y) : ∃ x : ActM, cs = actC x ∧ x.Good W := by
  obtain ⟨xs, n, _, _, hlen, hxl, hf⟩ := DataW.trod_struct Try.underlying33 h
  have h5 : cs.length = 5 := hlen.trans (by kernel_rfl)
  have hx5 : xs.length = 5 := hxl.trans (by simp)
  have c1 : Try.prog.cellsOf 3 = 1 := by kernel_rfl
  have c2 : Try.prog.cellsOf 5 = 1 := by kernel_rfl
  have c3 : Try.prog.cellsOf 4 = 1 := by kernel_rfl
  have c4 : Try.prog.cellsOf 31 = 1 := by kernel_rfl
  match cs, h5, xs, hx5 with
  | [v0, v1, v2, v3, v4], _, [y0, y1, y2, y3, y4], _ =>
    have g0 := hf 0 _ rfl
    have g1 := hf 1 _ rfl
    have g2 := hf 2 _ rfl
    have g3 := hf 3 _ rfl
    have g4 := hf 4 _ rfl
    simp only [c1, c2, c3, c4, List.drop_zero, List.drop_succ_cons, List.take_succ_cons, List.take_zero, List.getElem?_cons_zero, List.getElem?_cons_succ] at g0 g1 g2 g3 g4
    obtain ⟨n0, e0, _, w0⟩ := DataW.trod_int Try.underlying3 g0
    obtain ⟨n1, e1, _, w1⟩ := DataW.trod_int Try.underlying3 g1
    obtain ⟨n2, e2, _, w2⟩ := DataW.trod_int Try.underlying5 g2
    obtain ⟨b3, e3, _⟩ := DataW.trod_bool Try.underlying4 g3
    obtain ⟨a, len, cap, L, e4, hb⟩ := bools_of g4
    obtain ⟨rfl, _⟩ := List.cons.inj e0
    obtain ⟨rfl, _⟩ := List.cons.inj e1
    obtain ⟨rfl, _⟩ := List.cons.inj e2
    obtain ⟨rfl, _⟩ := List.cons.inj e3
    obtain ⟨rfl, _⟩ := List.cons.inj e4
    have r1 : -9223372036854775808 ≤ n1 ∧ n1 ≤ 9223372036854775807 := by
      simpa [Lit.wf, IntKind.min, IntKind.max, IntKind.signed, IntKind.bits] using w1
    have r2 : 0 ≤ n2 ∧ n2 ≤ 255 := by
      simpa [Lit.wf, IntKind.min, IntKind.max, IntKind.signed, IntKind.bits] using w2
    refine ⟨⟨n0, n1, UInt8.ofNat n2.toNat, b3, a, len, cap, L⟩, ?_, r1.1, r1.2, hb⟩
    have : ((UInt8.ofNat n2.toNat).toNat : Int) = n2 := by
      have : (UInt8.ofNat n2.toNat).toNat = n2.toNat := by simp; omega
      omega
    simp only [actC, this]

theorem acts_of {r : Reach} {b0 : Nat} {v : Value} {d : DataW H} {p : List MemPlace} (hv : Value.okWide Try.prog W r b0 22 v) (h : DataW.Trod enc Try.prog W 0 (fun _ => true) held 22 v d p) :
    ∃ a n cap L, v = .slice a n cap ∧ CameAt actC 5 W a n cap L ∧ ∀ x ∈ L, x.Good W := by
  have c5 : Try.prog.cellsOf 33 = 5 := by kernel_rfl
  rcases slice_of Try.underlying22 hv h with rfl | ⟨x, len, cap, rfl, hl, hm, hx⟩
  · exact ⟨_, _, _, [], rfl, CameAt.nil _ _ _, by simp⟩
  · obtain ⟨B, hB⟩ := choose_lt (α := ActM) (n := len) (p := fun i y => (∀ j, j < 5 → W.cell? (x.add (i * 5 + j)) = (actC y)[j]?) ∧ y.Good W) (fun i hi => by
      obtain ⟨cs, n, y, h1, h2, h3⟩ := hx i hi
      obtain ⟨z, rfl, hz⟩ := act_of h3
      rw [c5] at h2
      exact ⟨z, fun j hj => h2 j (by simpa [actC] using hj), hz⟩)
    refine ⟨_, _, _, (List.range len).map B, rfl, ⟨by simp, hl, hm, fun _ _ => rfl, .inr ⟨x, rfl, fun i j y hi hj => ?_⟩⟩, fun y hy => ?_⟩
    · have hil : i < len := by simpa using (List.getElem?_eq_some_iff.1 hi).1
      simp [hil] at hi
      rw [← hi]
      exact (hB i hil).1 j hj
    · simp only [List.mem_map, List.mem_range] at hy
      obtain ⟨i, hi, rfl⟩ := hy
      exact (hB i hi).2
end
end Go.Proofs.Ytnohglcodloilaa
