/-
  The arguments of layer 4's statements: what is done; the law's disk, its twin, and the act in hand.
-/
import Derived.Test.YtinfgfgmijjhjaaJnEval
import Derived.Test.YtinfgfgmijjhjaaFew
namespace Go.Proofs.Ytinfgfgmijjhjaa
open Go.ChangeShapes Go.WideShapes Go.ChangeAt Go.RowKit Go.Deep
open Go.ChangeMaps (open_string shut_string)
set_option linter.unusedVariables false
set_option linter.unusedSimpArgs false
set_option maxRecDepth 100000

structure ActJ where
  do_ : Int
  i : Int
  c : UInt8
  la : Option Addr
  ln : Nat
  lc : Nat
  lm : List PutM
  ka : Option Addr
  kn : Nat
  kc : Nat
  keep : List Bool
deriving Inhabited

def actJC (x : ActJ) : List Value := [.int .i64 x.do_, .int .i64 x.i, .int .u8 x.c.toNat, .slice x.la x.ln x.lc, .slice x.ka x.kn x.kc]
theorem actJC_one (x : ActJ) : ∀ u ∈ actJC x, u.oneCell' = true := by
  intro u hu
  simp only [actJC, List.mem_cons, List.not_mem_nil, or_false] at hu
  rcases hu with rfl | rfl | rfl | rfl | rfl <;> rfl

structure ActJ.Good (W : World) (x : ActJ) : Prop where
  ilo : -9223372036854775808 ≤ x.i
  ihi : x.i ≤ 9223372036854775807
  puts : PutsCame W x.la x.ln x.lc x.lm
  keep : BoolsAt W x.ka x.kn x.kc x.keep

section
variable {H : Type} {enc : TypeId × Value → H} {W : World} {held : Bool}

theorem boolsJ_of {fuel : Nat} {cs : List Value} {y : DataW H × List MemPlace} (h : DataW.trod enc Try.prog W 0 (fun _ => true) held fuel 38 cs = some y) :
    ∃ a len cap L, cs = [.slice a len cap] ∧ BoolsAt W a len cap L := by
  rcases open_bools Try.underlying38 Try.underlying4 (by kernel_rfl) h with ⟨hcs, _⟩ | ⟨x, len, cap, B, hcs, _, hl, hm, _, hcell⟩
  · exact ⟨_, _, _, [], hcs, CameAt.nil _ _ _⟩
  · refine ⟨_, _, _, (List.range len).map B, hcs, by simp, hl, hm, fun _ _ => rfl, .inr ⟨x, rfl, fun i j b hi hj => ?_⟩⟩
    have hil : i < len := by simpa using (List.getElem?_eq_some_iff.1 hi).1
    obtain rfl : j = 0 := by omega
    rw [show i * 1 + 0 = i by omega, hcell i (by omega)]
    simp [hil] at hi
    simp [boolC, hi]

theorem trod_puts {fuel : Nat} {cs : List Value} {y : DataW H × List MemPlace} (h : DataW.trod enc Try.prog W 0 (fun _ => true) held fuel 22 cs = some y) :
    ∃ a n cap L, cs = [.slice a n cap] ∧ PutsCame W a n cap L := by
  have c2 : Try.prog.cellsOf 69 = 2 := by kernel_rfl
  rcases open_slice Try.underlying22 h with ⟨hcs, _⟩ | ⟨x, len, cap, m, n, D, Pl, hcs, _, hl, hm, hmm, _, hx⟩
  · exact ⟨_, _, _, [], hcs, CameAt.nil _ _ _, by simp⟩
  · rw [c2] at hx
    obtain ⟨L, h1, h2⟩ := puts_at (n := 0) (x := x) len cap hl hm (fun i hi => by
      obtain ⟨cs', h1, h2⟩ := hx i (by split at hmm <;> omega)
      obtain ⟨_, hlen, hat⟩ := World.cells?_some h1
      refine ⟨cs', n, _, hlen, fun j hj => ?_, h2⟩
      have := hat j (by omega)
      rw [← this, Go.Deep.add_add])
    exact ⟨_, _, _, L, hcs, h1, h2⟩

theorem actJ_of {fuel : Nat} {cs : List Value} {y : DataW H × List MemPlace} (h : DataW.trod enc Try.prog W 0 (fun _ => true) held fuel 40 cs = some y) : ∃ x : ActJ, cs = actJC x ∧ x.Good W := by
  obtain ⟨xs, n, _, _, hlen, hxl, hf⟩ := DataW.trod_struct Try.underlying40 h
  have h5 : cs.length = 5 := hlen.trans (by kernel_rfl)
  have hx5 : xs.length = 5 := hxl.trans (by simp)
  have c1 : Try.prog.cellsOf 3 = 1 := by kernel_rfl
  have c2 : Try.prog.cellsOf 5 = 1 := by kernel_rfl
  have c3 : Try.prog.cellsOf 22 = 1 := by kernel_rfl
  have c4 : Try.prog.cellsOf 38 = 1 := by kernel_rfl
  match cs, h5, xs, hx5 with
  | [v0, v1, v2, v3, v4], _, [y0, y1, y2, y3, y4], _ =>
    have g0 := hf 0 _ rfl
    have g1 := hf 1 _ rfl
    have g2 := hf 2 _ rfl
    have g3 := hf 3 _ rfl
    have g4 := hf 4 _ rfl
    simp only [c1, c2, c3, c4, List.drop_zero, List.drop_succ_cons, List.take_succ_cons, List.take_zero, List.getElem?_cons_zero, List.getElem?_cons_succ] at g0 g1 g2 g3 g4
    obtain ⟨n0, e0, _, w0⟩ := DataW.trod_int Try.underlying3 g0
    obtain ⟨n1, e1, _, w1⟩ := DataW.trod_int Try.underlying3 g1
    obtain ⟨n2, e2, _, w2⟩ := DataW.trod_int Try.underlying5 g2
    obtain ⟨pa, pn, pc, pm, e3, hp⟩ := trod_puts g3
    obtain ⟨a, len, cap, L, e4, hb⟩ := boolsJ_of g4
    obtain ⟨rfl, _⟩ := List.cons.inj e0
    obtain ⟨rfl, _⟩ := List.cons.inj e1
    obtain ⟨rfl, _⟩ := List.cons.inj e2
    obtain ⟨rfl, _⟩ := List.cons.inj e3
    obtain ⟨rfl, _⟩ := List.cons.inj e4
    have r1 : -9223372036854775808 ≤ n1 ∧ n1 ≤ 9223372036854775807 := by
      simpa [Lit.wf, IntKind.min, IntKind.max, IntKind.signed, IntKind.bits] using w1
    have r2 : 0 ≤ n2 ∧ n2 ≤ 255 := by
      simpa [Lit.wf, IntKind.min, IntKind.max, IntKind.signed, IntKind.bits] using w2
    refine ⟨⟨n0, n1, UInt8.ofNat n2.toNat, pa, pn, pc, pm, a, len, cap, L⟩, ?_, r1.1, r1.2, hp, hb⟩
    have : ((UInt8.ofNat n2.toNat).toNat : Int) = n2 := by
      have : (UInt8.ofNat n2.toNat).toNat = n2.toNat := by simp; omega
      omega
    simp only [actJC, this]

theorem actsJ_of {r : Reach} {b0 : Nat} {v : Value} {d : DataW H} {p : List MemPlace} (hv : Value.okWide Try.prog W r b0 32 v) (h : DataW.Trod enc Try.prog W 0 (fun _ => true) held 32 v d p) :
    ∃ a n cap L, v = .slice a n cap ∧ CameAt actJC 5 W a n cap L ∧ ∀ x ∈ L, x.Good W := by
  have c5 : Try.prog.cellsOf 40 = 5 := by kernel_rfl
  rcases slice_of Try.underlying32 hv h with rfl | ⟨x, len, cap, rfl, hl, hm, hx⟩
  · exact ⟨_, _, _, [], rfl, CameAt.nil _ _ _, by simp⟩
  · obtain ⟨B, hB⟩ := choose_lt (α := ActJ) (n := len) (p := fun i y => (∀ j, j < 5 → W.cell? (x.add (i * 5 + j)) = (actJC y)[j]?) ∧ y.Good W) (fun i hi => by
      obtain ⟨cs, n, y, h1, h2, h3⟩ := hx i hi
      obtain ⟨z, rfl, hz⟩ := actJ_of h3
      rw [c5] at h2
      exact ⟨z, fun j hj => h2 j (by simpa [actJC] using hj), hz⟩)
    refine ⟨_, _, _, (List.range len).map B, rfl, ⟨by simp, hl, hm, fun _ _ => rfl, .inr ⟨x, rfl, fun i j y hi hj => ?_⟩⟩, fun y hy => ?_⟩
    · have hil : i < len := by simpa using (List.getElem?_eq_some_iff.1 hi).1
      simp [hil] at hi
      rw [← hi]
      exact (hB i hil).1 j hj
    · simp only [List.mem_map, List.mem_range] at hy
      obtain ⟨i, hi, rfl⟩ := hy
      exact (hB i hi).2
end

/-- the law's disk and its twin, since the world w0; the act in hand lies at B -/
structure SceneJ (w0 w : World) (S T : Nat → Prop) (g r B : Nat) (D E : Dk) (x : ActJ) : Prop where
  run : Run w0 w S g D
  ref : RefAt w T r E
  newT : ∀ k, T k → w0.heap.size ≤ k
  apart : ∀ k, S k → ¬ T k
  box : w.heap[B]? = some (.cells (actJC x).toArray 40 (0, 0))
  offS : ¬ S B
  offT : ¬ T B
  newB : w0.heap.size ≤ B
section
variable {w0 w w' : World} {S T S' T' : Nat → Prop} {g r B : Nat} {D E D' E' : Dk} {x : ActJ}
theorem SceneJ.ltB (h : SceneJ w0 w S T g r B D E x) : B < w.heap.size := (Array.getElem?_eq_some_iff.1 h.box).1
theorem Two.sceneJ (h : Two w0 w S T g r D E) (hB : B = w.heap.size) (hb : Below w.heap.size w w') (hx : w'.heap[B]? = some (.cells (actJC x).toArray 40 (0, 0))) : SceneJ w0 w' S T g r B D E x := by
  subst hB
  exact ⟨h.run.quiet hb, h.ref.below hb, h.newT, h.apart, hx, fun hS => Nat.lt_irrefl _ (h.run.disk.lt _ hS), fun hT => Nat.lt_irrefl _ (h.ref.lt _ hT), h.run.below.size⟩
theorem SceneJ.two (h : SceneJ w0 w S T g r B D E x) : Two w0 w S T g r D E := ⟨h.run, h.ref, h.newT, h.apart⟩
theorem SceneJ.quiet (h : SceneJ w0 w S T g r B D E x) (hb : Below w.heap.size w w') : SceneJ w0 w' S T g r B D E x :=
  ⟨h.run.quiet hb, h.ref.below hb, h.newT, h.apart, (hb.block B h.ltB).trans h.box, h.offS, h.offT, h.newB⟩
theorem SceneJ.disk (h : SceneJ w0 w S T g r B D E x) (hd : DiskAt w' S' g D') (ho : Only S w w') (hs : ∀ k, S' k → S k ∨ w.heap.size ≤ k) : SceneJ w0 w' S' T g r B D' E x := by
  refine ⟨h.run.to hd ho hs, h.ref.only ho fun k hT hS => h.apart k hS hT, h.newT, fun k hS hT => ?_, (ho.block B h.ltB h.offS).trans h.box, fun hS => ?_, h.offT, h.newB⟩
  · rcases hs k hS with h1 | h1
    · exact h.apart k h1 hT
    · have := h.ref.lt k hT; omega
  · rcases hs B hS with h1 | h1
    · exact h.offS h1
    · have := h.ltB; omega
theorem SceneJ.refd (h : SceneJ w0 w S T g r B D E x) (hd : RefAt w' T' r E') (ho : Only T w w') (hs : ∀ k, T' k → T k ∨ w.heap.size ≤ k) : SceneJ w0 w' S T' g r B D E' x := by
  refine ⟨⟨h.run.disk.only ho h.apart, h.run.below.trans (ho.below h.run.below.size fun i hi hT => by have := h.newT i hT; omega), h.run.new⟩, hd, fun k hk => (hs k hk).elim (h.newT k) fun hk => Nat.le_trans h.run.below.size hk, fun k hS hT => ?_, (ho.block B h.ltB h.offT).trans h.box, h.offS, fun hT => ?_, h.newB⟩
  · rcases hs k hT with h1 | h1
    · exact h.apart k hS h1
    · have := h.run.disk.lt k hS; omega
  · rcases hs B hT with h1 | h1
    · exact h.offT h1
    · have := h.ltB; omega
/-- memory that is neither disk's -/
theorem SceneJ.other (h : SceneJ w0 w S T g r B D E x) {U : Nat → Prop} (ho : Only U w w') (hU : ∀ k, U k → w0.heap.size ≤ k ∧ ¬ S k ∧ ¬ T k ∧ k ≠ B) : SceneJ w0 w' S T g r B D E x :=
  ⟨⟨h.run.disk.only ho fun k hS hk => (hU k hk).2.1 hS, h.run.below.trans (ho.below h.run.below.size fun i hi hT => by have := (hU i hT).1; omega), h.run.new⟩, h.ref.only ho fun k hS hk => (hU k hk).2.2.1 hS, h.newT, h.apart,
    (ho.block B h.ltB fun hk => (hU B hk).2.2.2 rfl).trans h.box, h.offS, h.offT, h.newB⟩
theorem SceneJ.cells (h : SceneJ w0 w S T g r B D E x) : w.cell? ⟨B, 0, none⟩ = some (.int .i64 x.do_) ∧ w.cell? ⟨B, 1, none⟩ = some (.int .i64 x.i) ∧ w.cell? ⟨B, 2, none⟩ = some (.int .u8 x.c.toNat) ∧ w.cell? ⟨B, 3, none⟩ = some (.slice x.la x.ln x.lc) ∧ w.cell? ⟨B, 4, none⟩ = some (.slice x.ka x.kn x.kc) :=
  ⟨by rw [cell_of_row w B 0 _ _ _ h.box]; rfl, by rw [cell_of_row w B 1 _ _ _ h.box]; rfl, by rw [cell_of_row w B 2 _ _ _ h.box]; rfl, by rw [cell_of_row w B 3 _ _ _ h.box]; rfl, by rw [cell_of_row w B 4 _ _ _ h.box]; rfl⟩
theorem SceneJ.keep (h : SceneJ w0 w S T g r B D E x) (hg : x.Good w0) : BoolsAt w x.ka x.kn x.kc x.keep ∧ (∀ p, x.ka = some p → 0 < x.kn → ¬ S p.block) ∧ (∀ p, x.ka = some p → 0 < x.kn → ¬ T p.block) := by
  refine ⟨CameAt.below hg.keep (by omega) h.run.below, fun p hp hn hS => ?_, fun p hp hn hT => ?_⟩
  · obtain ⟨b, off, he, hb, _⟩ := BoolsAt.cell hg.keep hn
    rw [he] at hp; cases hp
    have := h.run.new _ hS; dsimp only at this; omega
  · obtain ⟨b, off, he, hb, _⟩ := BoolsAt.cell hg.keep hn
    rw [he] at hp; cases hp
    have := h.newT _ hT; dsimp only at this; omega
end

end Go.Proofs.Ytinfgfgmijjhjaa
