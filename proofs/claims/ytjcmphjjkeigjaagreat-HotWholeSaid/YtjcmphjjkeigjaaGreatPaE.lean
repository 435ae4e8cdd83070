/-
  A piece of the proof, laid together by program: SpT SpR Awake05 Open SpL HtA HtB HtC HtD HtE OctRd TrC.
-/
import Derived.Test.YtjcmphjjkeigjaaGreatPaA
import Derived.Test.YtjcmphjjkeigjaaGreatPaB
import Derived.Test.YtjcmphjjkeigjaaGreatPaD
import Derived.OpenShut
import Derived.ChangeOld
import Derived.Deep.Slices
import Derived.Deep.Fields
import Derived.BigFrame
import Derived.Deep.MidRow
import Derived.Lib.SlBytesConst
import Derived.Deep.QuietTactic
import Derived.BigQuiet
import Derived.StillTailTactics

namespace Go.Proofs.YtjcmphjjkeigjaaGreat
open Go.RowKit Go.Shelf
attribute [local go_sem] Oper.semAt_some
set_option linter.unusedVariables false
set_option linter.unusedSimpArgs false
set_option maxRecDepth 100000

/-- what Take answers, in new memory -/
def TakeTo (r : List Bool × List Nat × Int) (w : World) (e : Ending) (w' : World) : Prop :=
  ∃ a n cap a' cap', e = .returned (.tuple #[.agg (spV r.1.length a n cap), .slice a' r.2.1.length cap', .int .i64 r.2.2]) ∧
    w'.ownsRow w.heap.size 5 1 (.slice a n cap) n (vals (packB r.1)) ∧ w'.ownsRow w.heap.size 3 1 (.slice a' r.2.1.length cap') r.2.1.length (ivals r.2.1) ∧ Below w.heap.size w w'

theorem wpListIn_store_rowS {F : Fence} {n : Nat} {P : Program} {ops : Array Oper} {rest : List Oper} {o : Oper} {a : Act} {w : World} {Q : Exit → Act → World → Prop} (hgd : o.guard = none) (ty : TypeId) (x y : Operand) (ho : o.op = .store ty x y)
    (g : Nat) (cells : Array Value) (hx : a.eval x = .pointer (some ⟨g, 0, none⟩)) (hy : a.eval y = .agg cells)
    (t : TypeId) (old : Array Value) (hg : w.heap[g]? = some (.cells old t (0, 0))) (hi : (P.info? ty).map (·.size) = some cells.size)
    (hold : old.size = cells.size) (h1 : cells.all (·.oneCell') = true)
    (h : wpListIn F n P ops Q rest (a.put o.dst undef) (w.setRow g cells)) : wpListIn F n P ops Q (o :: rest) a w := by
  refine wpListIn_plain hgd fun K hK => ?_
  unfold Oper.wpIn
  refine ⟨by simp [Oper.about, ho], ?_⟩
  rw [Oper.semAt_plain F _ _ (by rw [ho]; intro c hc'; cases hc')]
  simp only [execOp, ho, hx, hy, Instr.storeAt, Instr.sureAddr, Sem.run_bind, Sem.run_pure, Result.andThen_ok, run_storeVar_row w g t ty old cells hg hi hold h1]
  exact hK _ _ h

/-- the three boxes -/
def boxes3 (N k : Int) (a : Option Addr) (n cap : Nat) (w : World) : World := ((w.alloc (.cells (spV N a n cap) 101)).alloc (.cells #[.int .i64 k] 3)).alloc (.cells (spV 0 none 0 0) 101)
structure Three (N k : Int) (a : Option Addr) (n cap : Nat) (w u : World) : Prop where
  b0 : u.heap[w.heap.size]? = some (.cells (spV N a n cap) 101 (0, 0))
  b1 : u.heap[w.heap.size + 1]? = some (.cells #[.int .i64 k] 3 (0, 0))
  b2 : u.heap[w.heap.size + 2]? = some (.cells (spV 0 none 0 0) 101 (0, 0))
  sz : w.heap.size + 3 ≤ u.heap.size
  bel : Below w.heap.size w u
theorem Three.start (N k : Int) (a : Option Addr) (n cap : Nat) (w : World) : Three N k a n cap w (boxes3 N k a n cap w) := by
  refine ⟨?_, ?_, ?_, by simp [boxes3], ((((Below.refl _ w).alloc (Nat.le_refl _) _).alloc (by simp) _).alloc (by simp; omega) _)⟩
  · exact (Below.heap_alloc _ _ _ (by simp; omega)).trans (heap_alloc2_old _ _ _)
  · exact (Below.heap_alloc _ _ _ (by simp)).trans (heap_alloc2_new _ _ _)
  · have := heap_alloc_new ((w.alloc (.cells (spV N a n cap) 101)).alloc (.cells #[.int .i64 k] 3)) (.cells (spV 0 none 0 0) 101)
    simpa [boxes3] using this
theorem Three.below {N k : Int} {a : Option Addr} {n cap : Nat} {w u u' : World} (h : Three N k a n cap w u) (hb : Below u.heap.size u u') : Three N k a n cap w u' :=
  ⟨(hb.block _ (by have := h.sz; omega)).trans h.b0, (hb.block _ (by have := h.sz; omega)).trans h.b1, (hb.block _ (by have := h.sz; omega)).trans h.b2, Nat.le_trans h.sz hb.size, h.bel.trans (hb.mono (by have := h.sz; omega))⟩
theorem Three.cells {N k : Int} {a : Option Addr} {n cap : Nat} {w u : World} (h : Three N k a n cap w u) :
    u.cell? ⟨w.heap.size, 0, none⟩ = some (.int .i64 N) ∧ u.cell? ⟨w.heap.size, 1, none⟩ = some (.slice a n cap) ∧ u.cell? ⟨w.heap.size + 1, 0, none⟩ = some (.int .i64 k) :=
  ⟨(sp_cells h.b0).1, (sp_cells h.b0).2, by rw [cell_of_row _ _ _ _ _ _ h.b1]; rfl⟩

/-! ### what has been made of region 5's four new things, whichever came first -/
def I1 (B : Nat) (F : List Bool) (u : World) (x : Value) : Prop := ∃ ac nc cc, x = .agg (spV F.length ac nc cc) ∧ u.ownsRow B 5 1 (.slice ac nc cc) nc (vals (packB F))
def I3 (B M : Nat) (u : World) (x : Value) : Prop := ∃ g, x = .slice (some ⟨g, 0, none⟩) 0 M ∧ u.ownsRow B 3 1 (.slice (some ⟨g, 0, none⟩) 0 M) 0 []
def I4 (B : Nat) (u : World) (x y : Value) (b : Bool) : Prop := ∃ g c, x = .pointer (some ⟨g, 0, none⟩) ∧ B ≤ g ∧ u.heap[g]? = some (.cells c 101 (0, 0)) ∧ c.size = 2 ∧ (b = true → y = .agg c)
def I5 (B : Nat) (u : World) (x y : Value) (b : Bool) : Prop := ∃ g c, x = .pointer (some ⟨g, 0, none⟩) ∧ B ≤ g ∧ u.heap[g]? = some (.cells #[c] 78 (0, 0)) ∧ (b = true → y = c)
section
variable {B M : Nat} {F : List Bool} {u u' : World} {x y : Value} {b : Bool}
theorem I1.below (h : I1 B F u x) (hb : Below u.heap.size u u') : I1 B F u' x := by
  obtain ⟨ac, nc, cc, e, ho⟩ := h
  exact ⟨ac, nc, cc, e, owned_below ho hb⟩
theorem I3.below (h : I3 B M u x) (hb : Below u.heap.size u u') : I3 B M u' x := by
  obtain ⟨g, e, ho⟩ := h
  exact ⟨g, e, owned_below ho hb⟩
theorem I4.below (h : I4 B u x y b) (hb : Below u.heap.size u u') : I4 B u' x y b := by
  obtain ⟨g, c, e, h1, h2, h3⟩ := h
  exact ⟨g, c, e, h1, (hb.block g (Array.getElem?_eq_some_iff.1 h2).1).trans h2, h3⟩
theorem I4.other {z : Value} (h : I4 B u x y b) (hb : b = false) : I4 B u x z b := by
  obtain ⟨g, c, e, h1, h2, h3, h4⟩ := h
  exact ⟨g, c, e, h1, h2, h3, fun h => by rw [hb] at h; cases h⟩
theorem I5.other {z : Value} (h : I5 B u x y b) (hb : b = false) : I5 B u x z b := by
  obtain ⟨g, c, e, h1, h2, h3⟩ := h
  exact ⟨g, c, e, h1, h2, fun h => by rw [hb] at h; cases h⟩
theorem I5.below (h : I5 B u x y b) (hb : Below u.heap.size u u') : I5 B u' x y b := by
  obtain ⟨g, c, e, h1, h2, h3⟩ := h
  exact ⟨g, c, e, h1, (hb.block g (Array.getElem?_eq_some_iff.1 h2).1).trans h2, h3⟩
end

theorem flipF_len (P : List Nat) : ∀ F : List Bool, (flipF F P).length = F.length := by
  induction P with
  | nil => intro F; rfl
  | cons p P ih => intro F; show (flipF (F.set p _) P).length = _; rw [ih, List.length_set]
theorem flipF_snoc (F : List Bool) (P : List Nat) (p : Nat) : flipF F (P ++ [p]) = (flipF F P).set p (!(flipF F P).getD p false) := by simp [flipF, List.foldl_append]

/-- between two rounds of Take's loop -/
structure TkI (w : World) (B Bs M g4 g5 : Nat) (a : Option Addr) (n cap : Nat) (F : List Bool) (ac : Option Addr) (nc cc : Nat) (pre : List (Fin F.length)) (W : World) : Prop where
  b1 : W.heap[w.heap.size + 1]? = some (.cells #[.int .i64 (M : Int)] 3 (0, 0))
  b2 : W.heap[w.heap.size + 2]? = some (.cells (spV 0 none 0 0) 101 (0, 0))
  hs : W.heap[Bs]? = some (.cells (spV F.length a n cap) 101 (0, 0))
  h4 : W.heap[g4]? = some (.cells (spV F.length ac nc cc) 101 (0, 0))
  bits : W.ownsRow B 5 1 (.slice ac nc cc) nc (vals (packB (flipF F (pre.map (·.1)))))
  h5 : ∃ av cv, W.heap[g5]? = some (.cells #[.slice av pre.length cv] 78 (0, 0)) ∧ W.ownsRow B 3 1 (.slice av pre.length cv) pre.length (ivals (pre.map (·.1)))
  bel : Below w.heap.size w W
  len : pre.length ≤ M
theorem cells_kept {X Y : World} {row : Option Nat} {j : Nat} {c : Array Value} {t : TypeId} {fr : Nat × Nat} (h : X.heap[j]? = some (.cells c t fr)) (hg : X.grownBy Y row) (hr : ∀ r, row = some r → ∃ o : Obj, X.heap[r]? = some o ∧ o.isCells = false) : Y.heap[j]? = some (.cells c t fr) := by
  refine (hg.block j (Array.getElem?_eq_some_iff.1 h).1 (fun e => ?_)).trans h
  obtain ⟨o, ho, hc⟩ := hr j e.symm
  rw [h] at ho
  cases ho
  cases hc
theorem owned_kept {X Y : World} {row : Option Nat} {base sz k : Nat} {t : TypeId} {v : Value} {xs : List Value} (h : X.ownsRow base t sz v k xs) (hg : X.grownBy Y row) (hr : ∀ r, row = some r → ∃ o : Obj, X.heap[r]? = some o ∧ o.isCells = false) : Y.ownsRow base t sz v k xs := by
  refine ⟨h.1, ?_⟩
  rcases h.2 with hn | ⟨g, cap, cur, rfl, hbg, hg', rest⟩
  · exact .inl hn
  · exact .inr ⟨g, cap, cur, rfl, hbg, cells_kept hg' hg hr, rest⟩
theorem TkI.own {w : World} {B0 B Bs M g4 g5 : Nat} {a : Option Addr} {n cap : Nat} {F : List Bool} {ac : Option Addr} {nc cc : Nat} (hB : w.heap.size ≤ B0) : OwnFrom B0 (TkI w B Bs M g4 g5 a n cap F ac nc cc) := by
  intro pre X Y row h hg hr
  have hr' : ∀ r, row = some r → ∃ o : Obj, X.heap[r]? = some o ∧ o.isCells = false := fun r e => (hr r e).2
  obtain ⟨av, cv, h5, h6⟩ := h.h5
  exact ⟨cells_kept h.b1 hg hr', cells_kept h.b2 hg hr', cells_kept h.hs hg hr', cells_kept h.h4 hg hr', owned_kept h.bits hg hr', ⟨av, cv, cells_kept h5 hg hr', owned_kept h6 hg hr'⟩, h.bel.grown hg h.bel.size (fun k e => Nat.le_trans hB (hr k e).1), h.len⟩
/-- a round has left by the break -/
def TkX (w : World) (B Bs M g4 g5 : Nat) (a : Option Addr) (n cap : Nat) (F : List Bool) (ac : Option Addr) (nc cc : Nat) (c : Code) (pre : List (Fin F.length)) (W : World) : Prop :=
  c = .exit 0 ∧ ∃ ini last, pre = ini ++ [last] ∧ ini.length = M ∧ TkI w B Bs M g4 g5 a n cap F ac nc cc ini W
theorem TkX.own {w : World} {B0 B Bs M g4 g5 : Nat} {a : Option Addr} {n cap : Nat} {F : List Bool} {ac : Option Addr} {nc cc : Nat} {c : Code} (hB : w.heap.size ≤ B0) : OwnFrom B0 (TkX w B Bs M g4 g5 a n cap F ac nc cc c) := by
  rintro pre X Y row ⟨h1, ini, last, h2, h3, h4⟩ hg hr
  exact ⟨h1, ini, last, h2, h3, TkI.own hB ini X Y row h4 hg hr⟩
theorem keepsFrom_only {B g : Nat} {W W' : World} {c : Array Value} {t : TypeId} {fr : Nat × Nat} (h : Only (· = g) W W') (hg : W.heap[g]? = some (.cells c t fr)) : KeepsFrom B W W' :=
  ⟨h.size, fun k o _ h0 hc => by
    refine (h.block k (Array.getElem?_eq_some_iff.1 h0).1 (fun e => ?_)).trans h0
    subst e; rw [hg] at h0; cases h0; cases hc⟩

/-- within a round: the page is flipped, and not yet told -/
structure TkJ (w : World) (B Bs M g4 g5 : Nat) (a : Option Addr) (n cap : Nat) (F : List Bool) (ac : Option Addr) (nc cc : Nat) (pre : List (Fin F.length)) (x : Fin F.length) (W : World) : Prop where
  b1 : W.heap[w.heap.size + 1]? = some (.cells #[.int .i64 (M : Int)] 3 (0, 0))
  b2 : W.heap[w.heap.size + 2]? = some (.cells (spV 0 none 0 0) 101 (0, 0))
  hs : W.heap[Bs]? = some (.cells (spV F.length a n cap) 101 (0, 0))
  h4 : W.heap[g4]? = some (.cells (spV F.length ac nc cc) 101 (0, 0))
  bits : W.ownsRow B 5 1 (.slice ac nc cc) nc (vals (packB (flipF F ((pre ++ [x]).map (·.1)))))
  h5 : ∃ av cv, W.heap[g5]? = some (.cells #[.slice av pre.length cv] 78 (0, 0)) ∧ W.ownsRow B 3 1 (.slice av pre.length cv) pre.length (ivals (pre.map (·.1)))
  bel : Below w.heap.size w W
theorem TkI.flip {w : World} {B B0 Bs M g4 g5 : Nat} {a : Option Addr} {n cap : Nat} {F : List Bool} {ac : Option Addr} {nc cc : Nat} {pre : List (Fin F.length)} {W : World}
    (h : TkI w B Bs M g4 g5 a n cap F ac nc cc pre W) (x : Fin F.length) (hF : F.length ≤ 2048) (hB : w.heap.size + 3 ≤ B) :
    Calls Tryz.prog 137 #[.agg #[.int .i64 (F.length : Int), .slice ac nc cc], .int .i64 (x.1 : Int)] W fun e W1 => e = .returned (.tuple #[]) ∧ TkJ w B Bs M g4 g5 a n cap F ac nc cc pre x W1 ∧ KeepsFrom B0 W W1 ∧ KpS w.heap.size Bs W W1 := by
  have hxl : x.1 < (flipF F (pre.map (·.1))).length := by rw [flipF_len]; exact x.2
  obtain ⟨gb, rfl⟩ : ∃ gb, ac = some ⟨gb, 0, none⟩ := by
    rcases h.bits.2 with ⟨h', h0⟩ | ⟨g', cap', cur, h', _⟩
    · have := h.bits.1; rw [vals_length, packB_length, flipF_len] at this; have := x.2; omega
    · simp only [Value.slice.injEq] at h'; exact ⟨g', h'.1⟩
  have hfl : (flipF F (pre.map (·.1))).length ≤ 2048 := by rw [flipF_len]; exact hF
  have hsn := flipF_snoc F (pre.map (·.1)) x.1
  have hbits := h.bits
  generalize flipF F (pre.map (·.1)) = G at *
  have CF := flip_any (F.length : Int) x.1 B gb nc cc G W hxl hfl hbits
  rw [← hsn] at CF
  obtain ⟨cur, hgb⟩ : ∃ cur, W.heap[gb]? = some (.cells cur 5 (0, 0)) := by
    rcases h.bits.2 with ⟨h', h0⟩ | ⟨g', cap', cur, h', _, hg, _⟩
    · cases h'
    · simp only [Value.slice.injEq, Option.some.injEq, Addr.mk.injEq, and_true] at h'
      obtain ⟨rfl, _⟩ := h'
      exact ⟨cur, hg⟩
  have hgB : B ≤ gb := (h.bits.lt gb rfl).1
  obtain ⟨av, cv, h5, h6⟩ := h.h5
  unfold spV at CF
  refine CF.mono ?_
  rintro e W1 ⟨rfl, hr, ho⟩
  have keep : ∀ {j : Nat} {c : Array Value} {t : TypeId} {fr : Nat × Nat}, W.heap[j]? = some (.cells c t fr) → t ≠ 5 → W1.heap[j]? = some (.cells c t fr) := by
    intro j c t fr hj ht
    refine (ho.block j (Array.getElem?_eq_some_iff.1 hj).1 (fun e => ?_)).trans hj
    subst e
    rw [hgb] at hj
    injection hj with hj
    injection hj with _ hj
    exact ht hj.symm
  have hbel : Below w.heap.size W W1 := ho.below h.bel.size (fun i hi e => by omega)
  refine ⟨rfl, ⟨keep h.b1 (by decide), keep h.b2 (by decide), keep h.hs (by decide), keep h.h4 (by decide), by simpa using hr, ⟨av, cv, keep h5 (by decide), owned_keep h6 fun k hk => ho.block k (h6.lt k hk).2 (fun e => owned_ne h6 hgb (by decide) k hk e)⟩, h.bel.trans hbel⟩, keepsFrom_only ho hgb, hbel, (keep h.hs (by decide)).trans h.hs.symm⟩
theorem TkJ.told {w : World} {B B0 Bs M g4 g5 : Nat} {a : Option Addr} {n cap : Nat} {F : List Bool} {ac : Option Addr} {nc cc : Nat} {pre : List (Fin F.length)} {x : Fin F.length} {W w1 : World} {av : Option Addr} {cv : Nat} {av' : Option Addr} {cv' : Nat} {tmp : Obj}
    (h : TkJ w B Bs M g4 g5 a n cap F ac nc cc pre x W) (hB : w.heap.size + 3 ≤ B) (hB5 : B ≤ g5) (hlen : pre.length + 1 ≤ M)
    (h5 : W.heap[g5]? = some (.cells #[.slice av pre.length cv] 78 (0, 0))) (hrow : W.ownsRow B 3 1 (.slice av pre.length cv) pre.length (ivals (pre.map (·.1)))) (hBW : B ≤ W.heap.size)
    (hown : w1.ownsRow B 3 1 (.slice av' (pre.length + 1) cv') (pre.length + 1) (ivals (pre.map (·.1)) ++ [.int .i64 (x.1 : Int)])) (hgrow : (W.alloc tmp).grownBy w1 (Value.slice av pre.length cv).ownBlock) :
    Boxed w1 g5 78 (.slice av pre.length cv) ∧ TkI w B Bs M g4 g5 a n cap F ac nc cc (pre ++ [x]) (w1.setCell ⟨g5, 0, none⟩ (.slice av' (pre.length + 1) cv')) ∧ KeepsFrom B0 W (w1.setCell ⟨g5, 0, none⟩ (.slice av' (pre.length + 1) cv')) ∧ KpS w.heap.size Bs W (w1.setCell ⟨g5, 0, none⟩ (.slice av' (pre.length + 1) cv')) := by
  have hv : Boxed W g5 78 (.slice av pre.length cv) := h5
  obtain ⟨hv1, hv2, hr2, hk2, hb2⟩ := hv.appended (by decide) hrow hBW hB5 hown hgrow
  have keep : ∀ {j : Nat} {c : Array Value} {t : TypeId} {fr : Nat × Nat}, W.heap[j]? = some (.cells c t fr) → t ≠ 3 → t ≠ 78 → (w1.setCell ⟨g5, 0, none⟩ (.slice av' (pre.length + 1) cv')).heap[j]? = some (.cells c t fr) := by
    intro j c t fr hj ht ht2
    have hjl := (Array.getElem?_eq_some_iff.1 hj).1
    have e1 : j ≠ g5 := fun e => by
      subst e
      rw [h5] at hj
      injection hj with hj
      injection hj with _ hj
      exact ht2 hj.symm
    have e2 := owned_ne hrow hj (fun e => ht e.symm)
    rw [heap_setCell_other _ _ _ _ e1, hgrow.block j (by simp; omega) (fun e => e2 j e.symm rfl), Below.heap_alloc _ _ _ hjl]
    exact hj
  have hlow : ∀ {j : Nat} {o : Obj}, j < B → W.heap[j]? = some o → (w1.setCell ⟨g5, 0, none⟩ (.slice av' (pre.length + 1) cv')).heap[j]? = some o := fun hj ho => (hb2.block _ hj).trans ho
  refine ⟨hv1, ⟨hlow (by omega) h.b1, keep h.b2 (by decide) (by decide), keep h.hs (by decide) (by decide), keep h.h4 (by decide) (by decide), ?_, ⟨av', cv', by rw [List.length_append]; exact hv2, by rw [List.length_append, List.map_append]; simpa [ivals] using hr2⟩, h.bel.trans (hb2.mono (by omega)), by rw [List.length_append]; exact hlen⟩, hk2.from _, hb2.mono (by omega), (keep h.hs (by decide) (by decide)).trans h.hs.symm⟩
  refine owned_keep h.bits fun k hk => ?_
  rcases h.bits.2 with ⟨h', h0⟩ | ⟨g', cap', cur, h', _, hg, _⟩
  · rw [h'] at hk; simp [Value.ownBlock] at hk
  · rw [h'] at hk
    simp only [Value.ownBlock, Option.some.injEq] at hk
    subst hk
    exact (keep hg (by decide) (by decide)).trans hg.symm

theorem mk_ints (m : Nat) (hm : m ≤ 1048576) (u : World) : (Instr.makeSlice 78 (.int .i64 0) (.int .i64 m)).run Tryz.prog u = .ok (.slice (some ⟨u.heap.size, 0, none⟩) 0 m) (u.alloc (.cells (madeCells #[.int .i64 0] m) 3)) := by
  obtain ⟨i0, hi, hz0, hz1, hz2⟩ := info_parts infoIntS
  have := run_make u 78 3 i0 _ Tryz.underlying78 hi hz0 .i64 .i64 0 m (by omega) (by omega) (by rw [hz2]; omega) (by omega)
  rw [hz1] at this
  simpa [Value.cells] using this

set_option maxHeartbeats 2000000 in
theorem take_ok (N : Int) (k : Int) (a : Option Addr) (n cap : Nat) (F : List Bool) (w : World) (h : SpAt w N a n cap F) (hk : 0 ≤ k) :
    Calls Tryz.prog 95 #[.agg (spV N a n cap), .int .i64 k] w (TakeTo (takeR F k) w) := by
  have hnum := h.num
  subst hnum
  have h3 := Three.start F.length k a n cap w
  have CM := Lib.hid ((h.below h3.bel).may)
  have H3 := Lib.hid h3
  have HS := Lib.hid h
  have HF := Lib.hid h.len
  clear h h3
  unfold boxes3 spV at CM
  unfold spV
  have h0 : decide (k < 0) = false := by simp; omega
  refine (callsIn_wide (n := 6)).1 ?_
  refine callsIn_of_wp_marks Tryz.func95 rfl trivial ?_ rfl
  simp only [Tryz.ntmps95, List.size_toArray, List.length_cons, List.length_nil, Nat.reduceAdd, Nat.reduceSub, Array.replicate_succ, Array.replicate_zero, List.push_toArray, List.append_toArray, List.nil_append, List.cons_append]
  gi_wp2
  refine ⟨trivial, ?_⟩
  refine (callsIn_wide.2 CM.out).mono ?_
  rintro e w1 ⟨rfl, hb1⟩
  have k3 := H3.out.below hb1
  obtain ⟨c0, c1, c2⟩ := k3.cells
  have K3 := Lib.hid k3
  clear hb1 CM k3
  gi_wp2
  refine wpIn_wide.2 ?_
  have hfc := frees_count F
  have hw3 : IntKind.i64.wrap ((F.length : Int) - (F.count true : Nat)) = ((frees F).length : Nat) := by rw [IntWalk.i64_in _ (by have := HF.out; omega)]; omega
  have CT := Lib.hid (count_ok F.length a n cap F w1.drew ((HS.out.below K3.out.bel).below (Below.refl _ _).drew))
  unfold spV at CT
  have HFC := Lib.hid hfc
  clear hfc
  generalize F.count true = ct at *
  generalize hfr : (frees F).length = fr at *
  have HFR := Lib.hid hfr
  clear hfr
  refine region_head 7 [0, 1, 2, 3, 4, 5, 6] [4] (fun u => u.cell? ⟨w.heap.size, 0, none⟩ = some (.int .i64 (F.length : Int)) ∧ u.cell? ⟨w.heap.size, 1, none⟩ = some (.slice a n cap) ∧ u.cell? ⟨w.heap.size + 1, 0, none⟩ = some (.int .i64 k)) (by kernel_rfl) (by kernel_rfl) ⟨c0, c1, c2⟩ ?_
  simp only [pickO, List.filterMap_cons, List.filterMap_nil, List.getElem?_cons_zero, List.getElem?_cons_succ, Option.map_some, List.drop_succ_cons, List.drop_zero]
  clear c0 c1 c2
  iterate 4
    refine seqH_read _ rfl rfl (by rintro u ⟨hu1, hu2, hu3⟩; go_simp; with_reducible rfl) ?_
    try simp only [Act.put, List.setIfInBounds_toArray, List.set_cons_zero, List.set_cons_succ]
  refine seqH_move rfl rfl (fun K hK => ?_)
  go_simp
  refine (CT.out).mono ?_
  rintro e w2 ⟨rfl, hb2⟩
  have k3 := (K3.out.below (Below.refl w1.heap.size w1).drew).below hb2
  have K4 := Lib.hid k3
  refine hK _ _ k3.cells ?_
  clear hK K k3 hb2 CT
  try simp only [Act.put, List.setIfInBounds_toArray, List.set_cons_zero, List.set_cons_succ]
  iterate 2
    refine seqH_read _ rfl rfl (by rintro u ⟨hu1, hu2, hu3⟩; go_simp; with_reducible rfl) ?_
    try simp only [Act.put, List.setIfInBounds_toArray, List.set_cons_zero, List.set_cons_succ]
  refine seqH_nil ?_
  have hx := K4.out.b2
  have hbel := K4.out.bel
  go_wp2
  gi_wp2_with (refine wpListIn_store_rowS rfl _ _ _ rfl (w.heap.size + 2) (spV 0 none 0 0) rfl rfl 101 _ hx sizeSp rfl (spV_one _ _ _ _) ?_)
  · have hfull : (fr : Int) < k := by assumption
    have hr : takeR F k = ([], [], 5) := by rw [takeR, if_neg (by omega), HFR.out, if_pos hfull]
    rw [hr]
    exact ⟨.tuple #[.agg (spV 0 none 0 0), .slice none 0 0, .int .i64 5], results_cell_slots rfl _ _ (w.heap.size + 2) 101 (spV 0 none 0 0) (0, 0) _ _ _ rfl (heap_setRow_same _ _ _ _ _ hx) rfl rfl Tryz.underlying101 rfl sizeSp, none, 0, 0, none, 0, rfl, World.ownsRow_nil _ _ _ _, World.ownsRow_nil _ _ _ _, below_setRow hbel (by omega) _⟩
  · have hle : k ≤ (fr : Int) := by assumption
    obtain ⟨M, rfl⟩ : ∃ M : Nat, k = M := ⟨k.toNat, by omega⟩
    have hMf : M ≤ fr := by omega
    have hM : M ≤ 2048 := by have := HFC.out; have := HF.out; omega
    have hmk := mk_ints M (by omega)
    have CC := Lib.hid (fun u (hb : Below w2.heap.size w2 u) => clone_sp F.length a n cap F u ((HS.out.below K4.out.bel).below hb))
    unfold spV at CC
    refine wpIn_wide.2 ?_
    generalize Value.bool (decide ((fr : Int) < (M : Int))) = v24 at *
    refine region_inv (fun s act u => ∃ x7 x8 x26 x27 x28 x29, act = { tmps := #[.agg #[.int .i64 F.length, .slice a n cap], .int .i64 M, .pointer (some ⟨w.heap.size, 0, none⟩), .pointer (some ⟨w.heap.size + 1, 0, none⟩), .pointer (some ⟨w.heap.size + 1 + 1, 0, none⟩), .slice none 0 0, .int .i64 0, x7, x8, undef, .agg #[.int .i64 F.length, .slice a n cap], .bool true, .bool false, .bool false, .int .i64 M, .bool false, .bool false, undef, .int .i64 M, .pointer (some ⟨w.heap.size, 0, none⟩), .int .i64 F.length, .agg #[.int .i64 F.length, .slice a n cap], .int .i64 ct, .int .i64 fr, v24, undef, x26, x27, x28, x29, undef, undef, undef, undef, undef, undef, undef, undef, undef, undef, undef, undef, undef, undef, undef, undef], defers := [] } ∧
      Below w2.heap.size w2 u ∧ (s 0 = true → x26 = .agg #[.int .i64 F.length, .slice a n cap]) ∧ (s 2 = true → x28 = .int .i64 M) ∧
      (s 1 = true → I1 w2.heap.size F u x27) ∧ (s 3 = true → I3 w2.heap.size M u x29) ∧ (s 4 = true → I4 w2.heap.size u x7 x27 (s 6)) ∧ (s 5 = true → I5 w2.heap.size u x8 x29 (s 7)) ∧ (s 6 = true → s 1 = true ∧ s 4 = true) ∧ (s 7 = true → s 3 = true ∧ s 5 = true)) (by kernel_rfl) (by kernel_rfl) ?start ?steps ?done
    case start => exact ⟨undef, undef, undef, undef, undef, undef, rfl, (Below.refl _ _).drew, fun h => (by cases h), fun h => (by cases h), fun h => (by cases h), fun h => (by cases h), fun h => (by cases h), fun h => (by cases h), fun h => (by cases h), fun h => (by cases h)⟩
    case steps =>
      refine ⟨?s0, ?s1, ?s2, ?s3, ?s4, ?s5, ?s6, ?s7, trivial⟩
      case s0 =>
        rintro s act u hs hd ⟨x7, x8, x26, x27, x28, x29, rfl, hb, i0, i2, i1, i3, i4, i5, j6, j7⟩ K hK
        rw [if_pos (by rfl)]
        dsimp only
        obtain ⟨c0, c1, c2⟩ := (K4.out.below hb).cells
        go_simp
        exact hK _ _ ⟨x7, x8, _, x27, x28, x29, rfl, hb, fun _ => rfl, i2, i1, i3, i4, i5, j6, j7⟩
      case s1 =>
        rintro s act u hs hd ⟨x7, x8, x26, x27, x28, x29, rfl, hb, i0, i2, i1, i3, i4, i5, j6, j7⟩ K hK
        rw [if_pos (by rfl)]
        simp [Region.binds] at hd
        have h26 := i0 hd
        have h6 : s 6 = false := by cases h : s 6 with | false => rfl | true => rw [(j6 h).1] at hs; cases hs
        subst h26
        dsimp only
        have C1 := Lib.hid (CC.out u hb)
        clear CC
        go_simp
        refine (C1.out).mono ?_
        rintro e u1 ⟨a1, n1, cap1, rfl, ho1, hb1⟩
        exact hK _ _ ⟨x7, x8, _, _, x28, x29, rfl, hb.trans (hb1.mono hb.size), fun _ => rfl, i2, fun _ => ⟨a1, n1, cap1, rfl, owned_low ho1 hb.size⟩, fun h => (i3 h).below hb1, fun h => ((i4 h).below hb1).other h6, fun h => (i5 h).below hb1, fun h => (by have h' : s 6 = true := h; rw [h6] at h'; cases h'), j7⟩
      case s2 =>
        rintro s act u hs hd ⟨x7, x8, x26, x27, x28, x29, rfl, hb, i0, i2, i1, i3, i4, i5, j6, j7⟩ K hK
        rw [if_pos (by rfl)]
        dsimp only
        obtain ⟨c0, c1, c2⟩ := (K4.out.below hb).cells
        go_simp
        exact hK _ _ ⟨x7, x8, x26, x27, _, x29, rfl, hb, i0, fun _ => rfl, i1, i3, i4, i5, j6, j7⟩
      case s3 =>
        rintro s act u hs hd ⟨x7, x8, x26, x27, x28, x29, rfl, hb, i0, i2, i1, i3, i4, i5, j6, j7⟩ K hK
        rw [if_pos (by rfl)]
        simp [Region.binds] at hd
        have h28 := i2 hd
        have h7 : s 7 = false := by cases h : s 7 with | false => rfl | true => rw [(j7 h).1] at hs; cases hs
        subst h28
        dsimp only
        have hm := hmk u
        have hbu : Below u.heap.size u (u.alloc (.cells (madeCells #[.int .i64 0] M) 3)) := (Below.refl _ _).alloc (Nat.le_refl _) _
        go_simp
        exact hK _ _ ⟨x7, x8, x26, x27, _, _, rfl, hb.trans (hbu.mono hb.size), i0, fun _ => rfl, fun h => (i1 h).below hbu, fun _ => ⟨u.heap.size, rfl, ⟨rfl, .inr ⟨u.heap.size, M, madeCells #[.int .i64 0] M, rfl, hb.size, heap_alloc_new _ _, Nat.zero_le _, by unfold maxLen; omega, by have := congrArg List.length (toList_madeCells_one (.int .i64 0) M); simpa using this, rfl⟩⟩⟩, fun h => (i4 h).below hbu, fun h => ((i5 h).below hbu).other h7, j6, fun h => (by have h' : s 7 = true := h; rw [h7] at h'; cases h')⟩
      case s4 =>
        rintro s act u hs hd ⟨x7, x8, x26, x27, x28, x29, rfl, hb, i0, i2, i1, i3, i4, i5, j6, j7⟩ K hK
        rw [if_pos (by rfl)]
        dsimp only
        have h6 : s 6 = false := by cases h : s 6 with | false => rfl | true => rw [(j6 h).2] at hs; cases hs
        have hbu : Below u.heap.size u (u.alloc (.cells (spV 0 none 0 0) 101)) := (Below.refl _ _).alloc (Nat.le_refl _) _
        unfold spV at hbu
        go_simp
        exact hK _ _ ⟨_, x8, x26, x27, x28, x29, rfl, hb.trans (hbu.mono hb.size), i0, i2, fun h => (i1 h).below hbu, fun h => (i3 h).below hbu, fun _ => ⟨u.heap.size, _, rfl, hb.size, heap_alloc_new _ _, rfl, fun h => (by have h' : s 6 = true := h; rw [h6] at h'; cases h')⟩, fun h => (i5 h).below hbu, fun h => (by have h' : s 6 = true := h; rw [h6] at h'; cases h'), j7⟩
      case s5 =>
        rintro s act u hs hd ⟨x7, x8, x26, x27, x28, x29, rfl, hb, i0, i2, i1, i3, i4, i5, j6, j7⟩ K hK
        rw [if_pos (by rfl)]
        dsimp only
        have h7 : s 7 = false := by cases h : s 7 with | false => rfl | true => rw [(j7 h).2] at hs; cases hs
        have hbu : Below u.heap.size u (u.alloc (.cells #[.slice none 0 0] 78)) := (Below.refl _ _).alloc (Nat.le_refl _) _
        go_simp
        exact hK _ _ ⟨x7, _, x26, x27, x28, x29, rfl, hb.trans (hbu.mono hb.size), i0, i2, fun h => (i1 h).below hbu, fun h => (i3 h).below hbu, fun h => (i4 h).below hbu, fun _ => ⟨u.heap.size, _, rfl, hb.size, heap_alloc_new _ _, fun h => (by have h' : s 7 = true := h; rw [h7] at h'; cases h')⟩, j6, fun h => (by have h' : s 7 = true := h; rw [h7] at h'; cases h')⟩
      case s6 =>
        rintro s act u hs hd ⟨x7, x8, x26, x27, x28, x29, rfl, hb, i0, i2, i1, i3, i4, i5, j6, j7⟩ K hK
        rw [if_pos (by rfl)]
        simp [Region.binds] at hd
        have hd1 : s 1 = true := by simp_all
        have hd4 : s 4 = true := by simp_all
        obtain ⟨ac, nc, cc, rfl, ho⟩ := i1 hd1
        obtain ⟨g4, c4, rfl, hg4, hc4, hz4, _⟩ := i4 hd4
        refine wp_store_row 101 _ _ rfl g4 (spV F.length ac nc cc) rfl rfl 101 _ hc4 sizeSp (by rw [hz4]; rfl) (spV_one _ _ _ _) ?_
        refine hK _ _ ⟨_, x8, x26, _, x28, x29, rfl, below_setRow hb hg4 _, i0, i2, fun _ => ⟨ac, nc, cc, rfl, owned_setRow ho hc4 (by decide)⟩, fun h => ?_, fun _ => ⟨g4, _, rfl, hg4, heap_setRow_same _ _ _ _ _ hc4, rfl, fun _ => rfl⟩, fun h => ?_, fun _ => ⟨hd1, hd4⟩, j7⟩
        · obtain ⟨g3, e, ho3⟩ := i3 h
          exact ⟨g3, e, owned_setRow ho3 hc4 (by decide)⟩
        · obtain ⟨g5, c5, e, hg5, hc5, h5⟩ := i5 h
          refine ⟨g5, c5, e, hg5, (heap_setRow_other _ _ _ _ (fun e => ?_)).trans hc5, h5⟩
          subst e
          rw [hc4] at hc5
          injection hc5 with hc5
          injection hc5 with _ hc5
          exact absurd hc5 (by decide)
      case s7 =>
        rintro s act u hs hd ⟨x7, x8, x26, x27, x28, x29, rfl, hb, i0, i2, i1, i3, i4, i5, j6, j7⟩ K hK
        rw [if_pos (by rfl)]
        simp [Region.binds] at hd
        have hd3 : s 3 = true := by simp_all
        have hd5 : s 5 = true := by simp_all
        obtain ⟨g3, rfl, ho3⟩ := i3 hd3
        obtain ⟨g5, c5, rfl, hg5, hc5, _⟩ := i5 hd5
        have hcl : u.cell? ⟨g5, 0, none⟩ = some c5 := by rw [cell_of_row _ _ _ _ _ _ hc5]; rfl
        have hfz : u.frozen? ⟨g5, 0, none⟩ = false := frozen_of_row _ _ _ _ _ hc5
        dsimp only
        go_simp
        refine hK _ _ ⟨x7, _, _, x27, _, _, rfl, hb.setCell hg5 _, fun _ => rfl, fun _ => rfl, fun h => ?_, fun _ => ⟨g3, rfl, owned_setCell ho3 hc5 (by decide)⟩, fun h => ?_, fun _ => ⟨g5, _, rfl, hg5, heap_setCell_same _ _ _ _ _ _ hc5, fun _ => rfl⟩, j6, fun _ => ⟨hd3, hd5⟩⟩
        · obtain ⟨ac, nc, cc, e, ho⟩ := i1 h
          exact ⟨ac, nc, cc, e, owned_setCell ho hc5 (by decide)⟩
        · obtain ⟨g4, c4, e, hg4, hc4, hz4, h4⟩ := i4 h
          refine ⟨g4, c4, e, hg4, (heap_setCell_other _ _ _ _ (fun e => ?_)).trans hc4, hz4, h4⟩
          simp only at e
          subst e
          rw [hc4] at hc5
          injection hc5 with hc5
          injection hc5 with _ hc5
          exact absurd hc5 (by decide)
    case done =>
      rintro s act u hall ⟨x7, x8, x26, x27, x28, x29, rfl, hb, i0, i2, i1, i3, i4, i5, j6, j7⟩
      have hs : ∀ i, i < 8 → s i = true := hall
      have e26 := i0 (hs 0 (by omega))
      have e28 := i2 (hs 2 (by omega))
      obtain ⟨ac, nc, cc, e27, hoc⟩ := i1 (hs 1 (by omega))
      obtain ⟨g3, e29, ho3⟩ := i3 (hs 3 (by omega))
      obtain ⟨g4, c4, e7, hg4, hc4, _, h4⟩ := i4 (hs 4 (by omega))
      obtain ⟨g5, c5, e8, hg5, hc5, h5⟩ := i5 (hs 5 (by omega))
      have h6 := h4 (hs 6 (by omega))
      have h7 := h5 (hs 7 (by omega))
      rw [e27] at h6
      rw [e29] at h7
      obtain rfl : c4 = spV F.length ac nc cc := by injection h6 with h6; exact h6.symm
      subst h7 e26 e28 e27 e29 e7 e8
      clear hall hs i0 i1 i2 i3 i4 i5 j6 j7 h4 h5 h6
      have k3 := K4.out.below hb
      obtain ⟨c0, c1, c2⟩ := k3.cells
      have HU := Lib.hid (unused_in 5 F.length a n cap u)
      unfold spV at HU
      dsimp only
      gi_wp2
      refine ⟨trivial, ?_⟩
      refine (HU.out).mono ?_
      rintro e u1 ⟨rfl, rfl⟩
      gi_wp2
      have hbu : Below u.heap.size u (u.alloc (.cells (spV F.length a n cap) 101)) := (Below.refl _ _).alloc (Nat.le_refl _) _
      have k4 := k3.below hbu
      have hz := heap_alloc_new u (.cells (spV F.length a n cap) 101)
      have hoc' := owned_below hoc hbu
      have ho3' := owned_below ho3 hbu
      have hc4' := (hbu.block g4 (Array.getElem?_eq_some_iff.1 hc4).1).trans hc4
      have hc5' := (hbu.block g5 (Array.getElem?_eq_some_iff.1 hc5).1).trans hc5
      have hsz : (u.alloc (.cells (spV F.length a n cap) 101)).heap.size = u.heap.size + 1 := by simp
      have h0 : TkI w w2.heap.size u.heap.size M g4 g5 a n cap F ac nc cc [] (u.alloc (.cells (spV F.length a n cap) 101)) :=
        ⟨k4.b1, k4.b2, hz, hc4', hoc', ⟨_, _, hc5', ho3'⟩, k4.bel, Nat.zero_le _⟩
      have hS0 := HS.out.below k4.bel
      have HSTOP := unused_stops 5 (by omega) u.heap.size w.heap.size F.length a n cap F _ hz hS0 (BytesAt.lt HS.out.oct) k4.bel.size
      have hg4s : w2.heap.size ≤ g4 := hg4
      have hw23 : w.heap.size + 3 ≤ w2.heap.size := K4.out.sz
      have hus : w2.heap.size ≤ u.heap.size := hb.size
      have hgl5 : g5 < u.heap.size := (Array.getElem?_eq_some_iff.1 hc5).1
      have hgl4 : g4 < u.heap.size := (Array.getElem?_eq_some_iff.1 hc4).1
      clear c0 c1 c2 HU k3 k4 hoc ho3 hc4 hc5 hz hoc' ho3' hc4' hc5' hx hbel CC hmk hS0
      unfold spV at *
      generalize u.alloc (.cells #[.int .i64 (F.length : Int), .slice a n cap] 101) = u0 at *
      refine wpIn_rangeFunc_ownG (encs := fun x : Fin F.length => #[.int .i64 (x.1 : Int)]) rfl (by omega) (gf := 172) (lb := #[.pointer (some ⟨u.heap.size, 0, none⟩)]) rfl trivial (enters_of Tryz.func172 (by kernel_rfl) rfl)
        HSTOP kps_t (kps_b (by omega) (by omega)) (Below.refl _ _) (fun _ => rfl)
        (TkI w w2.heap.size u.heap.size M g4 g5 a n cap F ac nc cc)
        (TkX w w2.heap.size u.heap.size M g4 g5 a n cap F ac nc cc)
        (TkI.own (by omega)) (fun c => TkX.own (by omega)) h0
        (fun x => { tmps := #[.agg #[.int .i64 F.length, .slice a n cap], .int .i64 M, .pointer (some ⟨w.heap.size, 0, none⟩), .pointer (some ⟨w.heap.size + 1, 0, none⟩), .pointer (some ⟨w.heap.size + 1 + 1, 0, none⟩), .slice none 0 0, .int .i64 0, .pointer (some ⟨g4, 0, none⟩), .pointer (some ⟨g5, 0, none⟩), .int .i64 (x.1 : Int), .agg #[.int .i64 F.length, .slice a n cap], .bool true, .bool false, .bool false, .int .i64 M, .bool false, .bool false, undef, .int .i64 M, .pointer (some ⟨w.heap.size, 0, none⟩), .int .i64 F.length, .agg #[.int .i64 F.length, .slice a n cap], .int .i64 ct, .int .i64 fr, v24, undef, .agg #[.int .i64 F.length, .slice a n cap], .agg #[.int .i64 F.length, .slice ac nc cc], .int .i64 M, .slice (some ⟨g3, 0, none⟩) 0 M, .agg #[.int .i64 F.length, .slice a n cap], .func (.func 172) #[] #[.pointer (some ⟨u.heap.size, 0, none⟩)], .int .i64 (x.1 : Int), undef, undef, undef, undef, undef, undef, undef, undef, undef, undef, undef, undef, undef], defers := [] }) ?assign ?body ?fin ?stop
      case assign =>
        intro l x W K hK
        gi_wp2
        exact hK
      case body =>
        rintro l pre x W hI hlt
        dsimp only
        obtain ⟨av, cv, h5, h6⟩ := hI.h5
        have c5 : W.cell? ⟨g5, 0, none⟩ = some (.slice av pre.length cv) := by rw [cell_of_row _ _ _ _ _ _ h5]; rfl
        have c1 : W.cell? ⟨w.heap.size + 1, 0, none⟩ = some (.int .i64 (M : Int)) := by rw [cell_of_row _ _ _ _ _ _ hI.b1]; rfl
        by_cases heq : pre.length = M
        · have HE := Lib.hid heq
          have hd : ((pre.length : Int) == (M : Int)) = true := by rw [heq]; simp
          have HI := Lib.hid hI
          clear heq hI h5 h6
          gi_wp2
          exact ⟨KeepsFrom.refl _ _, rfl, pre, x, rfl, HE.out, HI.out⟩
        · have HE := Lib.hid heq
          have hd : ((pre.length : Int) == (M : Int)) = false := by rw [beq_eq_false_iff_ne]; omega
          clear heq
          have CF := Lib.hid (TkI.flip (B0 := u0.heap.size) hI x HF.out hw23)
          have HI := Lib.hid hI
          obtain ⟨d0, d1⟩ := sp_cells hI.h4
          clear hI h5 h6
          gi_wp2
          refine ⟨trivial, ?_⟩
          refine (CallsIn.inRound l (callsIn_wide.2 CF.out)).mono ?_
          rintro e W1 ⟨rfl, hJ, hk1, hk2⟩
          obtain ⟨av1, cv1, h5, h6⟩ := hJ.h5
          have HJ := Lib.hid hJ
          have HK1 := Lib.hid hk1
          have HK2 := Lib.hid hk2
          have H5 := Lib.hid h5
          have H6 := Lib.hid h6
          have hlen : pre.length + 1 ≤ M := by have := HI.out.len; have := HE.out; omega
          have hBW : w2.heap.size ≤ W1.heap.size := by have := (Array.getElem?_eq_some_iff.1 h5).1; omega
          have c5' : W1.cell? ⟨g5, 0, none⟩ = some (.slice av1 pre.length cv1) := by rw [cell_of_row _ _ _ _ _ _ h5]; rfl
          obtain ⟨i0, hi, hz0, hz1, hz2⟩ := info_parts infoIntS
          clear hJ hk1 hk2 h5 h6 c5 c1 d0 d1 CF hd HE
          gi_wp2_with (gi_at_builtin; refine wpListIn_append_own _ rfl _ _ 78 rfl w2.heap.size 3 i0 (.int .i64 0) 1 8 Tryz.underlying78 hi hz0 hz1 hz2 rfl (by decide) _ _ _ rfl (H6.out.alloc _) ⟨W1.heap.size, 0, none⟩ 1 1 [.int .i64 (x.1 : Int)] rfl rfl (cell_one_new _ _ _) (by simp [Value.oneCell']) (by unfold maxLen; omega) (by omega) (by simp; omega) ?_; intro v' w1' hown' hgrow _; obtain ⟨g', cap', rfl⟩ := ownsRow_succ hown'; obtain ⟨htb, hti, htk, htp⟩ := TkJ.told (B0 := u0.heap.size) HJ.out hw23 hg5 hlen H5.out H6.out hBW hown' hgrow; have hc1 := htb.cell; have hf1 := htb.frozen)
          exact ⟨HK1.out.trans htk, kps_t HK2.out htp, hti⟩
      case fin =>
        rintro D ys W hD hys hI hK
        have hl : ys.length = M := by have h1 := congrArg List.length hys; rw [List.length_map] at h1; have := hI.len; have := HFR.out; omega
        have hP : ys.map (·.1) = (frees F).take M := by rw [List.take_of_length_le (by have h1 := congrArg List.length hys; rw [List.length_map] at h1; omega)]; exact hys
        have HI := Lib.hid hI
        have HD := Lib.hid hK
        have HPM := Lib.hid hP
        have HLM := Lib.hid hl
        obtain ⟨d0, d1⟩ := sp_cells hI.h4
        obtain ⟨av, cv, h5, h6⟩ := hI.h5
        have c5 : W.cell? ⟨g5, 0, none⟩ = some (.slice av ys.length cv) := by rw [cell_of_row _ _ _ _ _ _ h5]; rfl
        have H6 := Lib.hid h6
        have hb2 := hI.b2
        have HB2 := Lib.hid hb2
        have ho5 : g5 ≠ w.heap.size + 2 := by omega
        have ho4 : g4 ≠ w.heap.size + 2 := by omega
        have HB := Lib.hid hI.bits
        clear hI hK hP hl h5 h6 HSTOP hb2
        gi_wp2
        refine wpIn_wide.2 ?_
        refine region_head 3 [0, 1, 2] [2] (fun u => u.cell? ⟨g4, 0, none⟩ = some (.int .i64 (F.length : Int)) ∧ u.cell? ⟨g4, 1, none⟩ = some (.slice ac nc cc) ∧ u.cell? ⟨g5, 0, none⟩ = some (.slice av ys.length cv)) (by kernel_rfl) (by kernel_rfl) ⟨d0, d1, c5⟩ ?_
        simp only [pickO, List.filterMap_cons, List.filterMap_nil, List.getElem?_cons_zero, List.getElem?_cons_succ, Option.map_some, List.drop_succ_cons, List.drop_zero]
        iterate 2
          refine seqH_read _ rfl rfl (by rintro u ⟨hu1, hu2, hu3⟩; go_simp; with_reducible rfl) ?_
          try simp only [Act.put, List.setIfInBounds_toArray, List.set_cons_zero, List.set_cons_succ]
        refine seqH_move rfl rfl (fun K hK => ?_)
        refine wp_store_row 101 _ _ rfl (w.heap.size + 2) (spV F.length ac nc cc) rfl rfl 101 _ HB2.out sizeSp rfl (spV_one _ _ _ _) ?_
        refine hK _ _ ?_ ?_
        · refine ⟨?_, ?_, ?_⟩
          · rw [World.cell?_of_block (w := W.drew) (heap_setRow_other _ _ _ _ ho4)]; exact d0
          · rw [World.cell?_of_block (w := W.drew) (heap_setRow_other _ _ _ _ ho4)]; exact d1
          · rw [World.cell?_of_block (w := W.drew) (heap_setRow_other _ _ _ _ ho5)]; exact c5
        · clear hK K
          refine seqH_nil ?_
          go_wp2
          gi_wp2
          have hDr : (W.drew.setRow (w.heap.size + 2) (spV F.length ac nc cc)).heap[D]? = some (.deferred (some [])) := (heap_setRow_other _ _ _ _ (by omega)).trans HD.out
          have hx2 : (W.drew.setRow (w.heap.size + 2) (spV F.length ac nc cc)).heap[w.heap.size + 2]? = some (.cells (spV F.length ac nc cc) 101 (0, 0)) := heap_setRow_same _ _ _ _ _ HB2.out
          have hrb : (W.drew.setRow (w.heap.size + 2) (spV F.length ac nc cc)).ownsRow w2.heap.size 5 1 (.slice ac nc cc) nc (vals (packB (flipF F (ys.map (·.1))))) := owned_setRow (w := W.drew) HB.out HB2.out (by decide)
          have hri : (W.drew.setRow (w.heap.size + 2) (spV F.length ac nc cc)).ownsRow w2.heap.size 3 1 (.slice av ys.length cv) ys.length (ivals (ys.map (·.1))) := owned_setRow (w := W.drew) H6.out HB2.out (by decide)
          have hbl : Below w.heap.size w (W.drew.setRow (w.heap.size + 2) (spV F.length ac nc cc)) := below_setRow (HI.out.bel.drew) (by omega) _
          refine ⟨by simp, .inl ⟨_, _, rfl, run_takeDeferred hDr, ?_⟩⟩
          generalize W.drew.setRow (w.heap.size + 2) (spV F.length ac nc cc) = W2 at *
          have hlk : (W2.putObj D (.deferred none)).heap[w.heap.size + 2]? = some (.cells (spV F.length ac nc cc) 101 (0, 0)) := (World.putObj_heap_other (by omega)).trans hx2
          have htr : takeR F (M : Int) = (markF F ((frees F).take M), (frees F).take M, 0) := by
            rw [takeR, if_neg (by omega), if_neg (by rw [HFR.out]; omega), Int.toNat_natCast]
          have hlt : ((frees F).take M).length = ys.length := by rw [← HPM.out, List.length_map]
          rw [HPM.out, flip_take] at hrb
          rw [HPM.out] at hri
          rw [htr]
          have hfin := hbl.trans (belowK_b (w := w) (Nat.le_refl _) W2 D _ (.deferred none) (by omega) hDr rfl rfl)
          exact ⟨.tuple #[.agg (spV F.length ac nc cc), .slice av ys.length cv, .int .i64 0], results_cell_slots rfl _ _ (w.heap.size + 2) 101 (spV F.length ac nc cc) (0, 0) _ _ _ rfl hlk rfl rfl Tryz.underlying101 rfl sizeSp, ac, nc, cc, av, cv, by simp only [markF_len, hlt], owned_low (ownsRow_putObj hrb _ hDr rfl) (by omega), by rw [hlt]; exact owned_low (ownsRow_putObj hri _ hDr rfl) (by omega), hfin⟩
      case stop =>
        rintro D c pre W hD hsp ⟨rfl, ini, last, rfl, hl, hI⟩ hK
        have hP : ini.map (·.1) = (frees F).take M := by
          have h1 : ini.map (·.1) <+: frees F := by rw [List.map_append] at hsp; exact (List.prefix_append _ _).trans hsp
          have h2 := List.prefix_iff_eq_take.1 h1
          rwa [List.length_map, hl] at h2
        have HI := Lib.hid hI
        have HD := Lib.hid hK
        have HPM := Lib.hid hP
        have HLM := Lib.hid hl
        obtain ⟨d0, d1⟩ := sp_cells hI.h4
        obtain ⟨av, cv, h5, h6⟩ := hI.h5
        have c5 : W.cell? ⟨g5, 0, none⟩ = some (.slice av ini.length cv) := by rw [cell_of_row _ _ _ _ _ _ h5]; rfl
        have H6 := Lib.hid h6
        have hb2 := hI.b2
        have HB2 := Lib.hid hb2
        have ho5 : g5 ≠ w.heap.size + 2 := by omega
        have ho4 : g4 ≠ w.heap.size + 2 := by omega
        have HB := Lib.hid hI.bits
        clear hI hK hP hl h5 h6 HSTOP hb2
        gi_wp2
        refine wpIn_wide.2 ?_
        refine region_head 3 [0, 1, 2] [2] (fun u => u.cell? ⟨g4, 0, none⟩ = some (.int .i64 (F.length : Int)) ∧ u.cell? ⟨g4, 1, none⟩ = some (.slice ac nc cc) ∧ u.cell? ⟨g5, 0, none⟩ = some (.slice av ini.length cv)) (by kernel_rfl) (by kernel_rfl) ⟨d0, d1, c5⟩ ?_
        simp only [pickO, List.filterMap_cons, List.filterMap_nil, List.getElem?_cons_zero, List.getElem?_cons_succ, Option.map_some, List.drop_succ_cons, List.drop_zero]
        iterate 2
          refine seqH_read _ rfl rfl (by rintro u ⟨hu1, hu2, hu3⟩; go_simp; with_reducible rfl) ?_
          try simp only [Act.put, List.setIfInBounds_toArray, List.set_cons_zero, List.set_cons_succ]
        refine seqH_move rfl rfl (fun K hK => ?_)
        refine wp_store_row 101 _ _ rfl (w.heap.size + 2) (spV F.length ac nc cc) rfl rfl 101 _ HB2.out sizeSp rfl (spV_one _ _ _ _) ?_
        refine hK _ _ ?_ ?_
        · refine ⟨?_, ?_, ?_⟩
          · rw [World.cell?_of_block (w := W.drew) (heap_setRow_other _ _ _ _ ho4)]; exact d0
          · rw [World.cell?_of_block (w := W.drew) (heap_setRow_other _ _ _ _ ho4)]; exact d1
          · rw [World.cell?_of_block (w := W.drew) (heap_setRow_other _ _ _ _ ho5)]; exact c5
        · clear hK K
          refine seqH_nil ?_
          go_wp2
          gi_wp2
          have hDr : (W.drew.setRow (w.heap.size + 2) (spV F.length ac nc cc)).heap[D]? = some (.deferred (some [])) := (heap_setRow_other _ _ _ _ (by omega)).trans HD.out
          have hx2 : (W.drew.setRow (w.heap.size + 2) (spV F.length ac nc cc)).heap[w.heap.size + 2]? = some (.cells (spV F.length ac nc cc) 101 (0, 0)) := heap_setRow_same _ _ _ _ _ HB2.out
          have hrb : (W.drew.setRow (w.heap.size + 2) (spV F.length ac nc cc)).ownsRow w2.heap.size 5 1 (.slice ac nc cc) nc (vals (packB (flipF F (ini.map (·.1))))) := owned_setRow (w := W.drew) HB.out HB2.out (by decide)
          have hri : (W.drew.setRow (w.heap.size + 2) (spV F.length ac nc cc)).ownsRow w2.heap.size 3 1 (.slice av ini.length cv) ini.length (ivals (ini.map (·.1))) := owned_setRow (w := W.drew) H6.out HB2.out (by decide)
          have hbl : Below w.heap.size w (W.drew.setRow (w.heap.size + 2) (spV F.length ac nc cc)) := below_setRow (HI.out.bel.drew) (by omega) _
          refine ⟨by simp, .inl ⟨_, _, rfl, run_takeDeferred hDr, ?_⟩⟩
          generalize W.drew.setRow (w.heap.size + 2) (spV F.length ac nc cc) = W2 at *
          have hlk : (W2.putObj D (.deferred none)).heap[w.heap.size + 2]? = some (.cells (spV F.length ac nc cc) 101 (0, 0)) := (World.putObj_heap_other (by omega)).trans hx2
          have htr : takeR F (M : Int) = (markF F ((frees F).take M), (frees F).take M, 0) := by
            rw [takeR, if_neg (by omega), if_neg (by rw [HFR.out]; omega), Int.toNat_natCast]
          have hlt : ((frees F).take M).length = ini.length := by rw [← HPM.out, List.length_map]
          rw [HPM.out, flip_take] at hrb
          rw [HPM.out] at hri
          rw [htr]
          have hfin := hbl.trans (belowK_b (w := w) (Nat.le_refl _) W2 D _ (.deferred none) (by omega) hDr rfl rfl)
          exact ⟨.tuple #[.agg (spV F.length ac nc cc), .slice av ini.length cv, .int .i64 0], results_cell_slots rfl _ _ (w.heap.size + 2) 101 (spV F.length ac nc cc) (0, 0) _ _ _ rfl hlk rfl rfl Tryz.underlying101 rfl sizeSp, ac, nc, cc, av, cv, by simp only [markF_len, hlt], owned_low (ownsRow_putObj hrb _ hDr rfl) (by omega), by rw [hlt]; exact owned_low (ownsRow_putObj hri _ hDr rfl) (by omega), hfin⟩

end Go.Proofs.YtjcmphjjkeigjaaGreat

namespace Go.Proofs.YtjcmphjjkeigjaaGreat
open Go.RowKit
set_option linter.unusedVariables false
set_option linter.unusedSimpArgs false
set_option maxRecDepth 100000

theorem came_owned {α : Type} {f : α → Value} {w : World} {base n cap : Nat} {a : Option Addr} {L : List α} {t : TypeId} (h : w.ownsRow base t 1 (.slice a n cap) n (L.map f)) : CameAt (fun x => [f x]) 1 w a n cap L := by
  have hl : L.length = n := by have := h.1; simpa using this
  rcases h.2 with ⟨h', h0⟩ | ⟨g, cap', cur, h', hb, hg, hnc, hcm, hcs, htake⟩
  · simp at h'
    obtain ⟨rfl, rfl, rfl⟩ := h'
    exact ⟨hl, Nat.le_refl _, by simp, by simp, .inl ⟨rfl, rfl, rfl⟩⟩
  · simp only [Value.slice.injEq, true_and] at h'
    obtain ⟨rfl, rfl⟩ := h'
    refine ⟨hl, hnc, hcm, by simp, .inr ⟨_, rfl, fun i j x hx hj => ?_⟩⟩
    obtain rfl : j = 0 := by omega
    have hi : i < L.length := (List.getElem?_eq_some_iff.1 hx).1
    rw [Addr.add_mid, Nat.zero_add, World.ownsRow.cellAt h (i * 1 + 0) (by omega), Nat.mul_one, Nat.add_zero, List.getElem?_map, hx]
    rfl
theorem ints_owned {w : World} {base n cap : Nat} {a : Option Addr} {P : List Nat} {t : TypeId} (h : w.ownsRow base t 1 (.slice a n cap) n (ivals P)) : IntsAt w a n cap (P.map Int.ofNat) := by
  have : ivals P = (P.map Int.ofNat).map fun z => .int .i64 z := by simp [ivals]
  rw [this] at h
  exact came_owned h
end Go.Proofs.YtjcmphjjkeigjaaGreat

namespace Go.Proofs.YtjcmphjjkeigjaaGreat
open Go.RowKit
set_option linter.unusedVariables false
set_option linter.unusedSimpArgs false
set_option maxRecDepth 100000

theorem ints1 (w : World) (z : Int) : IntsAt (w.alloc (.cells #[.int .i64 z] 3)) (some ⟨w.heap.size, 0, none⟩) 1 1 [z] := by
  refine ⟨rfl, Nat.le_refl _, by unfold maxLen; omega, by simp [intCS], .inr ⟨_, rfl, fun i j x hx hj => ?_⟩⟩
  obtain rfl : j = 0 := by omega
  have hi : i < 1 := (List.getElem?_eq_some_iff.1 hx).1
  obtain rfl : i = 0 := by omega
  simp only [List.getElem?_cons_zero, Option.some.injEq] at hx
  subst hx
  rw [Addr.add_mid, cell_of_row _ _ _ _ _ _ (heap_alloc_new w _)]
  rfl
def f5 : List Bool := List.replicate 5 false
/-! ### the contracts, as reading asks them -/
end Go.Proofs.YtjcmphjjkeigjaaGreat

namespace Go.Proofs.YtjcmphjjkeigjaaGreat
open Go.ChangeShapes Go.WideShapes Go.ChangeAt Go.RowKit Go.Deep
open Go.ChangeMaps (open_string shut_string)
set_option linter.unusedVariables false
set_option maxRecDepth 100000
set_option linter.unusedSimpArgs false

section
variable {H : Type} {enc : TypeId × Value → H} {W : World} {base : Nat} {sp : Nat → Bool} {held : Bool}

theorem trod_bytes {fuel : Nat} {cs : List Value} {y : DataW H × List MemPlace} (h : DataW.trod enc Tryz.prog W base sp held fuel 49 cs = some y) :
    ∃ a len cap l, cs = [.slice a len cap] ∧ BytesAt W a len cap l := by
  rcases open_ints Tryz.underlying49 Tryz.underlying5 (by kernel_rfl) h with ⟨hcs, _⟩ | ⟨x, l, c, zs, hcs, _, hl, hm, hz, _, hcell, hwz⟩
  · exact ⟨_, _, _, [], hcs, BytesAt.nil W⟩
  · refine ⟨_, _, _, (zs.take l).map (fun z => UInt8.ofNat z.toNat), hcs, ⟨by simp; split at hz <;> omega, hl, hm, .inr ⟨x, rfl, fun i hi => ?_⟩⟩⟩
    have hi2 : i < zs.length := by split at hz <;> omega
    rw [hcell i hi2]
    have hr : 0 ≤ zs[i] ∧ zs[i] ≤ 255 := by
      have := hwz zs[i] (List.getElem_mem hi2)
      simpa [Lit.wf, IntKind.min, IntKind.max, IntKind.signed, IntKind.bits] using this
    simp only [List.getD, List.getElem?_map, List.getElem?_take_of_lt hi, List.getElem?_eq_getElem hi2, Option.map_some, Option.getD_some]
    congr 2
    have : (UInt8.ofNat zs[i].toNat).toNat = zs[i].toNat := by simp; omega
    omega

end
end Go.Proofs.YtjcmphjjkeigjaaGreat

namespace Go.Proofs.YtjcmphjjkeigjaaGreat
open Go.ChangeShapes Go.WideShapes Go.ChangeAt Go.RowKit
set_option linter.unusedVariables false
set_option linter.unusedSimpArgs false
set_option maxRecDepth 100000

def zvals (L : List Int) : List Value := L.map fun z => .int .i64 z
theorem zvals_one (l : List Int) : ∀ u ∈ zvals l, u.oneCell' = true := by
  intro u hu
  simp only [zvals, List.mem_map] at hu
  obtain ⟨b, _, rfl⟩ := hu
  rfl
/-- ints laid behind a row of the call's own, whatever slice they come from; the operation may stand behind a guard -/
theorem wpList_append_intsG {w : World} {ops : Array Oper} {rest : List Oper} {o : Oper} {a : Act} {Q : Exit → Act → World → Prop} (hw : Region.wanted o (yielded ops a.tmps) = true) (s x : Operand)
    (ho : o.op = .call { callee := .builtin .append, args := #[s, x], argTypes := #[78, 78] })
    (base : Nat) (v : Value) (n : Nat) (xs : List Value) (hs : a.eval s = v) (hown : w.ownsRow base 3 1 v n xs)
    (sa : Option Addr) (m c : Nat) (l : List Int) (hx : a.eval x = .slice sa m c) (hsrc : IntsAt w sa m c l) (N : Nat) (hN : N = n + m)
    (h63 : N * 8 ≤ 140737488355328) (hbase : base ≤ w.heap.size)
    (h : ∀ a' cap' w', w'.ownsRow base 3 1 (.slice a' N cap') N (xs ++ zvals l) → w.grownBy w' v.ownBlock → wpList Tryz.prog ops Q rest (a.put o.dst (.slice a' N cap')) w') : wpList Tryz.prog ops Q (o :: rest) a w := by
  refine Go.BigFrame.wpList_want hw fun K hK => ?_
  obtain ⟨i0, hi, hz0, hz1, hz2⟩ := info_parts infoIntS
  subst hN
  obtain ⟨h1, h2, h3, h5, h4⟩ := hsrc
  rcases h4 with ⟨rfl, rfl, rfl⟩ | ⟨ad, rfl, hc⟩
  · have : l = [] := List.eq_nil_of_length_eq_zero h1
    subst this
    have hrun := run_append_owned_none (P := Tryz.prog) (w := w) base 78 o.type 3 i0 1 Tryz.underlying78 hi v n xs hown
    unfold Oper.wp
    simp [execOp, ho, resolve, invoke, builtin, hs, hx, hrun, Result.andThen]
    rw [Oper.upon_value]
    obtain ⟨a', cap', rfl⟩ := owned_shape hown
    have := h a' cap' w (by simpa [zvals] using hown) (World.grownBy.refl _ _)
    exact hK _ _ (by simpa using this)
  · subst h1
    refine wp_append_own w s x 78 ho base 3 i0 (.int .i64 0) 1 8 Tryz.underlying78 hi hz0 hz1 hz2 rfl (by decide) v n xs hs hown ad l.length c (zvals l) hx (by simp [zvals]) ?_ (zvals_one l) (by unfold maxLen; omega) (by omega) hbase ?_
    · intro j u hj
      have hj' : j < l.length := by
        have := (List.getElem?_eq_some_iff.1 hj).1
        simpa [zvals] using this
      have := hc j 0 l[j] (List.getElem?_eq_getElem hj') (by omega)
      rw [Nat.mul_one, Nat.add_zero] at this
      rw [this, ← hj]
      simp [intCS, zvals, List.getElem?_eq_getElem hj']
    · intro v' w' ho' hg' _
      obtain ⟨a', cap', rfl⟩ := owned_shape ho'
      exact hK _ _ (h a' cap' w' ho' hg')
theorem build_ints (u : World) : (Instr.buildSlice 78 0 #[]).run Tryz.prog u = .ok (.slice (some ⟨u.heap.size, 0, none⟩) 0 0) (u.alloc (.cells #[] 3)) := by
  obtain ⟨i0, hi, hz0, hz1, hz2⟩ := info_parts infoIntS
  simp [Instr.buildSlice, run_underlying Tryz.underlying78, sizeOf, typeInfo, hi, Instr.fill, newRow, Array.range_zero']

section
variable {u : World} {N : Int} {a : Option Addr} {n cap : Nat} {F : List Bool} {l : List UInt8}
end

section
variable {H : Type} {enc : TypeId × Value → H} {W : World} {base : Nat} {sp : Nat → Bool} {held : Bool}
end

end Go.Proofs.YtjcmphjjkeigjaaGreat

namespace Go.Proofs.YtjcmphjjkeigjaaGreat
open Go.RowKit
set_option linter.unusedVariables false
set_option linter.unusedSimpArgs false
set_option maxRecDepth 100000

theorem hnumber_any (v : Nat) (w : World) (hv : v < 65536) :
    Calls Tryz.prog 144 #[.int .i64 v] w (FreshB id 2 (leB 2 v) w) := by
  have hu : IntKind.u64.wrap (v : Int) = (v : Int) := by rw [IntKind.wrap_u64]; omega
  have CP := Lib.hid (put_ok v 2 w (by omega) (by omega) (by omega))
  go_enter Tryz.func144, Tryz.ntmps144
  go_wp2_with fail
  refine CP.out.mono ?_
  rintro e w1 ⟨a, cap, rfl, ho, hb⟩
  go_wp2
  go_ret
  exact ⟨a, cap, rfl, ho, hb⟩
theorem hpagesFor_any (n : Nat) (w : World) (hn : n ≤ 1000000) :
    Calls Tryz.prog 99 #[.int .i64 n] w fun e w' => e = .returned (.int .i64 (pfor n : Nat)) ∧ w' = w := by
  obtain ⟨q, hq⟩ : ∃ q, q = pfor n := ⟨_, rfl⟩
  have hqj : ((n : Int) + 126 - 1) / 126 = (q : Int) := by rw [hq]; unfold pfor; omega
  rw [← hq]
  clear hq
  go_enter Tryz.func99, Tryz.ntmps99
  go_wp2
  go_ret
  refine ⟨?_, rfl⟩
  show Ending.returned (.int .i64 (((n : Int) + 126 - 1) / 126)) = _
  rw [hqj]
theorem linkTo_any (a : Option Addr) (n cap : Nat) (l : List Nat) (w : World) (h : IntsAt w a n cap (pagesI l)) (hl : ∀ p ∈ l, p < 1000000) :
    Calls Tryz.prog 145 #[.slice a n cap] w fun e w' => e = .returned (.int .i64 (linkN l : Nat)) ∧ w' = w := by
  have hlen : l.length = n := by have := h.1; simpa [pagesI] using this
  cases l with
  | nil =>
    have h0 : n = 0 := by simpa using hlen.symm
    subst h0
    clear h hlen
    go_enter Tryz.func145, Tryz.ntmps145
    go_wp2
    go_ret
    exact ⟨rfl, rfl⟩
  | cons p l =>
    have hn0 : 0 < n := by simp at hlen; omega
    have hne : ¬ (n : Int) = 0 := by omega
    obtain ⟨b, off, rfl, hb, hc⟩ := IntsAt.cell h hn0
    have hc0 := hc 0 hn0
    have hp := hl p (by simp)
    have e0 : (pagesI (p :: l)).getD 0 0 = (p : Int) := rfl
    rw [e0, Nat.add_zero] at hc0
    clear h hl hc hlen e0
    go_enter Tryz.func145, Tryz.ntmps145
    go_wp2
    go_ret
    exact ⟨by simp [linkN], rfl⟩
theorem sizePutH : (Tryz.prog.info? 118).map (·.size) = some 2 := by kernel_rfl
theorem pagePut_any (p : Nat) (v : Value) (w : World) (hp : p < 1000000) (hv : ∃ a n c, v = .slice a n c) :
    Calls Tryz.prog 146 #[.int .i64 p, v] w fun e w' => e = .returned (.agg #[.int .i64 ((42 + p : Nat) : Int), v]) ∧ Below w.heap.size w w' := by
  obtain ⟨a, n, c, rfl⟩ := hv
  have h0 : (42 : Int) + (p : Int) = ((42 + p : Nat) : Int) := by omega
  obtain ⟨q, hq⟩ : ∃ q, q = 42 + p := ⟨_, rfl⟩
  rw [← hq] at h0 ⊢
  clear hq
  go_enter Tryz.func146, Tryz.ntmps146
  go_wp2
  exact bodyPost_ret (v := .agg #[.int .i64 (q : Int), .slice a n c]) (results_cell_row rfl _ _ w.heap.size 118 #[.int .i64 (q : Int), .slice a n c] (0, 0) _ rfl (heap_alloc_new w _) Tryz.underlying118 rfl sizePutH) rfl ⟨rfl, (Below.refl _ _).alloc (Nat.le_refl _) _⟩

section
variable {w : World} {S U : Nat → Prop} {g gd : Nat} {D : Dk} {h : Ht}
/-- what a page has -/
def pageAt (D : Dk) (N p : Nat) : List UInt8 := if p < N then D.content (42 + p) else []
theorem total_any (k : HotAt w S U g gd D h) : Calls Tryz.prog 38 #[.pointer (some ⟨g, 0, none⟩)] w fun e w' => e = .returned (.int .i64 (h.used.length : Nat)) ∧ w' = w := by
  obtain ⟨mb, da, dn, dc, ba, bn, bc, M, hg, hv⟩ := k.ex
  obtain ⟨c0, c1, c2, c3, c4, cf⟩ := hot_cells hg
  clear k hg hv
  go_enter Tryz.func38, Tryz.ntmps38
  go_wp2
  go_ret
  exact ⟨rfl, rfl⟩
theorem has7_any (k : HotAt w S U g gd D h) (q : Nat) (hq : q < 18446744073709551616) : Calls Tryz.prog 48 #[.pointer (some ⟨g, 0, none⟩), .int .u64 q] w fun e w' => e = .returned (.bool (hasL h.at_ q)) ∧ Below w.heap.size w w' := by
  obtain ⟨mb, da, dn, dc, ba, bn, bc, M, hg, hv⟩ := k.ex
  obtain ⟨c0, c1, c2, c3, c4, cf⟩ := hot_cells hg
  obtain ⟨fa, fn, fc, hl, _, _, _⟩ := hv.found q hq
  generalize hasL h.at_ q = bb at *
  generalize lenAt h.at_ q = sz at *
  generalize sumAt h.at_ q = sm at *
  clear k hg hv
  go_enter Tryz.func48, Tryz.ntmps48
  go_wp2
  go_ret
  exact ⟨rfl, (Below.refl _ _).alloc (Nat.le_refl _) _⟩
/-- what Read answers of a page, with the power on: in memory of its own -/
theorem readp_any (k : HotAt w S U g gd D h) (p : Nat) (hp : p < 1000000) (hpw : D.power = true) : Calls Tryz.prog 25 #[.pointer (some ⟨gd, 0, none⟩), .int .i64 ((42 + p : Nat) : Int)] w fun e w' => ∃ a m cap ee, e = .returned (.tuple #[.slice a m cap, .int .i64 ee]) ∧ decide (p < h.used.length) = decide (ee = 0) ∧ BytesAt w' a m cap (pageAt D h.used.length p) ∧ Below w.heap.size w w' ∧ ∀ x, a = some x → w.heap.size ≤ x.block := by
  have hsz := k.size
  by_cases hlt : p < h.used.length
  · refine (read_yes gd (42 + p) D S w k.disk (by omega) hpw).mono fun e w' ⟨a, cap, he, hr, hb, hf⟩ => ⟨a, 128, cap, 0, he, by simp [hlt], by unfold pageAt; rw [if_pos hlt]; exact hr, hb, fun x hx => (hf x hx).1⟩
  · refine (read_range gd _ D S w k.disk (.inr (by omega))).mono fun e w' ⟨he, hw⟩ => ?_
    subst hw
    exact ⟨none, 0, 0, 4, he, by simp [hlt], by unfold pageAt; rw [if_neg hlt]; exact BytesAt.nil _, Below.refl _ _, by simp⟩
theorem read7_any (k : HotAt w S U g gd D h) (p : Nat) (hp : p < 1000000) (hpw : D.power = true) : Calls Tryz.prog 66 #[.pointer (some ⟨g, 0, none⟩), .int .i64 p] w fun e w' => ∃ a m cap, e = .returned (.tuple #[.slice a m cap, .bool (decide (p < h.used.length))]) ∧ BytesAt w' a m cap (pageAt D h.used.length p) ∧ Below w.heap.size w w' ∧ ∀ x, a = some x → w.heap.size ≤ x.block := by
  obtain ⟨mb, da, dn, dc, ba, bn, bc, M, hg, hv⟩ := k.ex
  obtain ⟨c0, c1, c2, c3, c4, cf⟩ := hot_cells hg
  have CR := Lib.hid (readp_any k p hp hpw)
  obtain ⟨q, hq⟩ : ∃ q, q = 42 + p := ⟨_, rfl⟩
  have hqi : (42 : Int) + (p : Int) = (q : Int) := by omega
  rw [← hq] at CR
  clear k hg hv hq
  go_enter Tryz.func66, Tryz.ntmps66
  go_wp2_with fail
  refine CR.out.mono ?_
  rintro e w1 ⟨a, m, cap, ee, rfl, he, hr, hb, hf⟩
  have HR := Lib.hid hr
  have HB := Lib.hid hb
  have HF := Lib.hid hf
  have HE := Lib.hid he
  clear hr hb hf he
  go_wp2
  go_ret2
  refine ⟨a, m, cap, ?_, HR.out, HB.out, HF.out⟩
  rw [HE.out]
  rfl
theorem ids_any (k : HotAt w S U g gd D h) (hf : h.at_.length ≤ 60000) : Calls Tryz.prog 62 #[.pointer (some ⟨g, 0, none⟩)] w (KeysTo (h.at_.map (·.key)) w) := by
  obtain ⟨mb, da, dn, dc, ba, bn, bc, M, hg, hv⟩ := k.ex
  obtain ⟨c0, c1, c2, c3, c4, cf⟩ := hot_cells hg
  have hb0 : Below w.heap.size w (w.alloc (.cells #[.map (some mb)] 99)) := (Below.refl _ _).alloc (Nat.le_refl _) _
  have hml : (mapL M).map (·.1) = h.at_.map (·.key) := by rw [← hv.eq]; simp [mapL]
  have CS := Lib.hid (sortedkeys_any w.heap.size mb (mapL M) _ (by have := congrArg List.length hml; simp only [List.length_map] at this; omega) (heap_alloc_new w (.cells #[.map (some mb)] 99)) (hv.at_.below hb0))
  rw [hml] at CS
  have HB0 := Lib.hid hb0
  clear k hg hv hml hb0
  go_enter Tryz.func62, Tryz.ntmps62
  go_wp2_with fail
  refine (keys_any mb w).mono ?_
  rintro e w1 ⟨rfl, rfl⟩
  go_wp2_with fail
  refine CS.out.mono ?_
  rintro e w2 ⟨v, rfl, hr, hbl, hb⟩
  go_wp2
  go_ret
  exact ⟨v, rfl, hr, fun q hq => by have := hbl q hq; simp at this; omega, HB0.out.trans (hb.mono (by simp))⟩
end

end Go.Proofs.YtjcmphjjkeigjaaGreat

namespace Go.Proofs.YtjcmphjjkeigjaaGreat
open Go.RowKit
set_option linter.unusedVariables false
set_option linter.unusedSimpArgs false
set_option maxRecDepth 100000

/-- the pages that are used, rising, among the first i -/
def usedB (F : List Bool) (i : Nat) : List Nat := (List.range i).filter fun p => F.getD p false
theorem usedB_succ (F : List Bool) (i : Nat) : usedB F (i + 1) = usedB F i ++ (if F.getD i false then [i] else []) := by
  unfold usedB
  rw [List.range_succ, List.filter_append]
  congr 1
  rw [List.filter_cons]
  cases h : F.getD i false <;> rfl
theorem usedB_len (F : List Bool) (i : Nat) : (usedB F i).length ≤ i := by
  have := List.length_filter_le (fun p => F.getD p false) (List.range i)
  simpa [usedB] using this
def usedsL (F : List Bool) : List Nat := usedB F F.length
section
variable {w : World} {S U : Nat → Prop} {g gd : Nat} {D : Dk} {h : Ht}
/-- the cells of a store in a later world -/
theorem HotAt.later (k : HotAt w S U g gd D h) : ∃ mb da dn dc ba bn bc M, (∀ u, Below w.heap.size w u → u.heap[g]? = some (.cells (hotC gd mb da dn dc h.used.length ba bn bc) 103 (0, 0)) ∧ HotV u U mb da dn dc ba bn bc M h) := by
  obtain ⟨mb, da, dn, dc, ba, bn, bc, M, hg, hv⟩ := k.ex
  exact ⟨mb, da, dn, dc, ba, bn, bc, M, fun u hu => ⟨(hu.block g k.lt).trans hg, hv.below hu⟩⟩
theorem hot_space {u : World} {mb : Nat} {da : Option Addr} {dn dc N : Nat} {ba : Option Addr} {bn bc : Nat} (hg : u.heap[g]? = some (.cells (hotC gd mb da dn dc N ba bn bc) 103 (0, 0))) : u.rangeAt g 3 [.int .i64 (N : Nat), .slice ba bn bc] := by
  obtain ⟨_, _, _, c3, c4, _⟩ := hot_cells hg
  intro j x hj
  match j, hj with
  | 0, hj => simp only [List.getElem?_cons_zero, Option.some.injEq] at hj; rw [← hj]; exact c3
  | 1, hj => simp only [List.getElem?_cons_succ, List.getElem?_cons_zero, Option.some.injEq] at hj; rw [← hj]; exact c4
  | j + 2, hj => simp at hj

theorem free7_any (k : HotAt w S U g gd D h) : Calls Tryz.prog 37 #[.pointer (some ⟨g, 0, none⟩)] w fun e w' => e = .returned (.int .i64 ((h.used.length - h.used.count true : Nat) : Int)) ∧ Below w.heap.size w w' := by
  obtain ⟨mb, da, dn, dc, ba, bn, bc, M, hL⟩ := k.later
  have CT := Lib.hid (fun u (hu : Below w.heap.size w u) => total_any (k.below hu))
  have CC := Lib.hid (fun u (hu : Below w.heap.size w u) => count_ok h.used.length ba bn bc h.used u (hL u hu).2.used)
  have HL := Lib.hid hL
  have hc : h.used.count true ≤ h.used.length := List.count_le_length
  have hlen := (hL w (Below.refl _ _)).2.used.len
  have hci : (h.used.length : Int) - (h.used.count true : Nat) = ((h.used.length - h.used.count true : Nat) : Int) := by omega
  generalize h.used.count true = ct at *
  generalize h.used.length = N at *
  have hci2 : IntKind.i64.wrap ((N : Int) - (ct : Int)) = ((N - ct : Nat) : Int) := by rw [IntWalk.i64_in _ (by omega)]; exact hci
  obtain ⟨rr, hrr⟩ : ∃ r, r = N - ct := ⟨_, rfl⟩
  have hrw : IntKind.i64.wrap (rr : Int) = (rr : Int) := IntWalk.i64_in _ (by omega)
  rw [← hrr] at hci hci2 ⊢
  clear k hL hrr
  unfold spV at CC
  go_enter Tryz.func37, Tryz.ntmps37
  go_upto_region 1 with (fail)
  refine region_head 8 [0, 2, 3, 4, 5, 1, 6, 7] [1, 6] (fun u => Below w.heap.size w u) (by kernel_rfl) (by kernel_rfl) ((Below.refl _ _).drew) ?_
  simp only [pickO, List.filterMap_cons, List.filterMap_nil, List.getElem?_cons_zero, List.getElem?_cons_succ, Option.map_some, List.drop_succ_cons, List.drop_zero]
  have hb0 : Below w.heap.size w w.drew := (Below.refl _ _).drew
  generalize w.drew = w0 at *
  refine seqH_read _ rfl rfl (by rintro u hu; go_simp; with_reducible rfl) ?_
  try simp only [Act.put, List.setIfInBounds_toArray, List.set_cons_zero, List.set_cons_succ]
  iterate 3
    refine seqH_read _ rfl rfl (by rintro u hu; obtain ⟨c0, c1, c2, c3, c4, cf⟩ := hot_cells (HL.out u hu).1; clear hu; go_simp; with_reducible rfl) ?_
    try simp only [Act.put, List.setIfInBounds_toArray, List.set_cons_zero, List.set_cons_succ]
  refine seqH_load_mid rfl rfl 101 _ rfl g 3 rfl [.int .i64 (N : Nat), .slice ba bn bc] _ (fun u hu => hot_space (HL.out u hu).1) Tryz.underlying101 rfl sizeSp ?_
  try simp only [Act.put, List.setIfInBounds_toArray, List.set_cons_zero, List.set_cons_succ]
  refine seqH_move rfl rfl (fun K hK => ?_)
  go_simp
  refine (CT.out w0 hb0).mono ?_
  rintro e w1 ⟨rfl, rfl⟩
  refine hK _ _ hb0 ?_
  clear hK K
  try simp only [Act.put, List.setIfInBounds_toArray, List.set_cons_zero, List.set_cons_succ]
  refine seqH_move rfl rfl (fun K hK => ?_)
  go_simp
  refine (CC.out w1 hb0).mono ?_
  rintro e w2 ⟨rfl, hb⟩
  have hb2 : Below w.heap.size w w2 := hb0.trans (hb.mono hb0.size)
  refine hK _ _ hb2 ?_
  clear hK K
  try simp only [Act.put, List.setIfInBounds_toArray, List.set_cons_zero, List.set_cons_succ]
  refine seqH_read (.int .i64 (rr : Int)) rfl rfl (by rintro u hu; clear hu; go_simp; try rw [hrw]) ?_
  try simp only [Act.put, List.setIfInBounds_toArray, List.set_cons_zero, List.set_cons_succ]
  refine seqH_nil ?_
  go_wp2
  go_ret
  exact ⟨rfl, hb2⟩

/-- pages, in memory of the call's own -/
def IntsTo (P : List Nat) (w : World) (e : Ending) (w' : World) : Prop := ∃ a cap, e = .returned (.slice a P.length cap) ∧ w'.ownsRow w.heap.size 3 1 (.slice a P.length cap) P.length (ivals P) ∧ Below w.heap.size w w'

set_option maxHeartbeats 2000000 in
theorem used7_any (k : HotAt w S U g gd D h) : Calls Tryz.prog 36 #[.pointer (some ⟨g, 0, none⟩)] w (IntsTo (usedsL h.used) w) := by
  obtain ⟨mb, da, dn, dc, ba, bn, bc, M, hL⟩ := k.later
  have CT := Lib.hid (total_any k)
  have CU := Lib.hid (fun (p : Int) u (hu : Below w.heap.size w u) => used_ok p h.used.length ba bn bc h.used u (hL u hu).2.used)
  have HL := Lib.hid hL
  have hlen := (hL w (Below.refl _ _)).2.used.len
  have HF := Lib.hid (show usedsL h.used = usedB h.used h.used.length from rfl)
  generalize h.used = F at *
  generalize hN : F.length = N at *
  rw [HF.out]
  clear k hL HF hN
  unfold spV at CU
  go_enter Tryz.func36, Tryz.ntmps36
  go_wp2_with fail
  refine CT.out.mono ?_
  rintro e w1 ⟨rfl, rfl⟩
  go_wp2
  go_loopw [3, 7] (fun x i wr => ∃ (j a cap : _) (n : Nat), n = (usedB F j).length ∧ j ≤ N ∧ i = .int .i64 (j : Nat) ∧ x = .slice a n cap ∧ wr.ownsRow w1.heap.size 3 1 (.slice a n cap) n (ivals (usedB F j)) ∧ Below w1.heap.size w1 wr) (fun _ i _ => N - (intOf i).toNat)
  case atStart => exact ⟨0, none, 0, 0, rfl, Nat.zero_le _, rfl, rfl, World.ownsRow_nil _ _ _ _, Below.refl _ _⟩
  case round =>
    obtain ⟨j, a, cap, n, hn, hj, rfl, rfl, hr, hb⟩ := hrel
    have HR := Lib.hid hr
    have HB := Lib.hid hb
    have hnj : n ≤ j := by rw [hn]; exact usedB_len F j
    have HN := Lib.hid hn
    clear hr hb hn
    by_cases hlt : j < N
    · have hlti : (j : Int) < (N : Int) := by omega
      have hsc := usedB_succ F j
      have HSC := Lib.hid hsc
      obtain ⟨c0, c1, c2, c3, c4, cf⟩ := hot_cells (HL.out wr HB.out).1
      have hsp := hot_space (HL.out wr HB.out).1
      have HSP := Lib.hid hsp
      have CU1 := CU.out (j : Int) wr HB.out
      have hdj : decide (0 ≤ (j : Int)) = true := by simp
      rw [hdj, Bool.true_and, Int.toNat_natCast] at CU1
      obtain ⟨bb, hbb⟩ : ∃ bb, bb = F.getD j false := ⟨_, rfl⟩
      rw [← hbb] at CU1 HSC
      have CU2 := Lib.hid CU1
      clear hsc hsp CU1 hdj hbb
      go_wp2_with (refine wpList_load_mid rfl 101 _ rfl g 3 rfl [.int .i64 (N : Nat), .slice ba bn bc] _ HSP.out Tryz.underlying101 rfl sizeSp ?_)
      refine CU2.out.mono ?_
      rintro e w2 ⟨rfl, hb2⟩
      have HB2 := Lib.hid (HB.out.trans (hb2.mono HB.out.size))
      have HR2 := Lib.hid (owned_below HR.out hb2)
      cases bb with
      | false =>
        have hse : usedB F (j + 1) = usedB F j := by rw [HSC.out]; simp
        have HSE := Lib.hid hse
        clear hse hb2 c0 c1 c2 c3 c4 cf
        go_wp2_with fail
        go_roundw
        case rel => exact ⟨j + 1, a, cap, n, by rw [HSE.out]; exact HN.out, by omega, by first | rfl | simp, rfl, by rw [HSE.out]; exact HR2.out, HB2.out⟩
        case measure => simp only [intOf]; omega
      | true =>
        have hse : usedB F (j + 1) = usedB F j ++ [j] := by rw [HSC.out]; simp
        have HSE := Lib.hid hse
        clear hse hb2 c0 c1 c2 c3 c4 cf
        go_wp2_with (at_builtin; go_loud (refine wpList_append_intsG (by rfl) (.tmp 16) (.tmp 18) rfl w1.heap.size _ n _ rfl (HR2.out.alloc _) (some ⟨w2.heap.size, 0, none⟩) 1 1 [(j : Int)] rfl (ints1 w2 (j : Int)) (n + 1) rfl (by omega) (by have := HB2.out.size; simp; omega) ?_; intro a' cap' w3 ho3 hg3))
        go_roundw
        case rel =>
          refine ⟨j + 1, a', cap', n + 1, by rw [HSE.out]; simp [HN.out], by omega, by first | rfl | simp, rfl, ?_, ?_⟩
          · rw [HSE.out]
            simpa [ivals, zvals] using ho3
          · exact HB2.out.trans (((Only.alloc (S := fun q => (Value.slice a n cap).ownBlock = some q) w2 _).trans (Only.of_grown (S := fun q => (Value.slice a n cap).ownBlock = some q) hg3 fun q e => e) fun _ _ e => e).below HB2.out.size fun q hq e => by have := (HR2.out.lt q e).1; omega)
        case measure => simp only [intOf]; omega
    · have hlti : ¬ (j : Int) < (N : Int) := by omega
      have hjN : j = N := by omega
      subst hjN
      have hn2 := HN.out
      subst hn2
      go_wp2
      go_ret
      exact ⟨a, cap, rfl, HR.out, HB.out⟩
end

end Go.Proofs.YtjcmphjjkeigjaaGreat

namespace Go.Proofs.YtjcmphjjkeigjaaGreat
open Go.RowKit
set_option linter.unusedVariables false
set_option linter.unusedSimpArgs false
set_option maxRecDepth 100000

def HotTo (v : Value) (S U : Nat → Prop) (g gd : Nat) (D : Dk) (h' : Ht) (w : World) (e : Ending) (w' : World) : Prop :=
  e = .returned v ∧ ∃ U', HotAt w' S U' g gd D h' ∧ Only (fun q => q = g) w w' ∧ ∀ k, U' k → U k ∨ w.heap.size ≤ k

theorem turnF_err (st : Bool) (e : Int) (he : e ≠ 0) : ∀ (L : List Int) (F : List Bool), ((turnF st e F L).1 = none → (turnF st e F L).2 ≠ 0) ∧ (∀ F', (turnF st e F L).1 = some F' → (turnF st e F L).2 = 0 ∧ F'.length = F.length)
  | [], F => ⟨fun h => by simp [turnF] at h, fun F' h => by simp [turnF] at h ⊢; rw [h]⟩
  | p :: L, F => by
    unfold turnF
    split
    · exact ⟨fun _ => by simp, fun F' h => by simp at h⟩
    · split
      · exact ⟨fun _ => he, fun F' h => by simp at h⟩
      · have ih := turnF_err st e he L (F.set p.toNat !st)
        exact ⟨ih.1, fun F' h => by obtain ⟨h1, h2⟩ := ih.2 F' h; rw [List.length_set] at h2; exact ⟨h1, h2⟩⟩

theorem hot_there {w : World} {g gd : Nat} {mb : Nat} {da : Option Addr} {dn dc N : Nat} {ba : Option Addr} {bn bc : Nat} (hg : w.heap[g]? = some (.cells (hotC gd mb da dn dc N ba bn bc) 103 (0, 0))) : w.there g 3 2 := by
  obtain ⟨_, _, _, c3, c4, cf⟩ := hot_cells hg
  intro j hj
  have h2 : j = 0 ∨ j = 1 := by omega
  rcases h2 with rfl | rfl
  · exact ⟨by rw [c3]; rfl, cf _⟩
  · exact ⟨by rw [c4]; rfl, cf _⟩
theorem hot_stored {w : World} {g gd : Nat} {mb : Nat} {da : Option Addr} {dn dc N : Nat} {ba : Option Addr} {bn bc : Nat} (hg : w.heap[g]? = some (.cells (hotC gd mb da dn dc N ba bn bc) 103 (0, 0))) (N' : Nat) (a : Option Addr) (n c : Nat) :
    (w.setCells g 3 [.int .i64 (N' : Nat), .slice a n c]).heap[g]? = some (.cells (hotC gd mb da dn dc N' a n c) 103 (0, 0)) ∧ Only (fun q => q = g) w (w.setCells g 3 [.int .i64 (N' : Nat), .slice a n c]) := by
  have h1 := heap_setCell_same w g 3 _ _ (.int .i64 (N' : Nat)) hg
  have h2 := heap_setCell_same (w.setCell ⟨g, 3, none⟩ (.int .i64 (N' : Nat))) g 4 _ _ (.slice a n c) h1
  exact ⟨h2, (Only.setCell (S := fun q => q = g) w ⟨g, 3, none⟩ _ rfl).trans (Only.setCell (S := fun q => q = g) _ ⟨g, 4, none⟩ _ rfl) fun _ _ e => e⟩

section
variable {w : World} {S U : Nat → Prop} {g gd : Nat} {D : Dk} {h : Ht}

def ClaimTo (r : Option (List Bool)) (S U : Nat → Prop) (g gd : Nat) (D : Dk) (h : Ht) (w : World) (e : Ending) (w' : World) : Prop :=
  (∃ F', r = some F' ∧ HotTo (.bool true) S U g gd D { h with used := F' } w e w') ∨ (r = none ∧ e = .returned (.bool false) ∧ Below w.heap.size w w')

set_option maxHeartbeats 2000000 in
theorem claim_any (k : HotAt w S U g gd D h) (la : Option Addr) (ln lc : Nat) (L : List Nat) (hl : IntsAt w la ln lc (pagesI L)) :
    Calls Tryz.prog 121 #[.pointer (some ⟨g, 0, none⟩), .slice la ln lc] w (ClaimTo (turnF false 15 h.used (pagesI L)).1 S U g gd D h w) := by
  obtain ⟨mb, da, dn, dc, ba, bn, bc, M, hg, hv⟩ := k.ex
  obtain ⟨c0, c1, c2, c3, c4, cf⟩ := hot_cells hg
  have hsp := hot_space hg
  have CM := Lib.hid (mark_ok h.used.length ba bn bc h.used la ln lc (pagesI L) w hv.used hl)
  have HTE := Lib.hid (turnF_err false 15 (by omega) (pagesI L) h.used)
  have HK := Lib.hid k
  have HG := Lib.hid hg
  have HV := Lib.hid hv
  have hglt := k.lt
  have HSP := Lib.hid hsp
  have HUL := Lib.hid (show h.used.length ≤ 2048 from hv.used.len)
  unfold spV at CM
  clear k hv hg hl hsp
  generalize (turnF false 15 h.used (pagesI L)).1 = r at *
  generalize (turnF false 15 h.used (pagesI L)).2 = er at *
  generalize hN : h.used.length = N at *
  have HNN := Lib.hid hN
  clear hN
  go_enter Tryz.func121, Tryz.ntmps121
  go_wp2_with (refine wpList_load_mid rfl 101 _ rfl g 3 rfl [.int .i64 (N : Nat), .slice ba bn bc] _ HSP.out Tryz.underlying101 rfl sizeSp ?_)
  refine CM.out.mono ?_
  rintro e w1 ⟨a1, n1, cp1, rfl, ho1, hb1⟩
  have HO1 := Lib.hid ho1
  have HB1 := Lib.hid hb1
  unfold spV
  have hb2 : Below w.heap.size w (w1.alloc (.cells #[.int .i64 (((r.getD []).length : Nat) : Int), .slice a1 n1 cp1] 101)) := hb1.trans (((Below.refl w1.heap.size w1).alloc (Nat.le_refl _) _).mono hb1.size)
  have HB2 := Lib.hid hb2
  cases r with
  | none =>
    have he : er ≠ 0 := HTE.out.1 rfl
    have hei : ¬ er = 0 := he
    clear ho1 hb1 hb2 c0 c1 c2 c3 c4 cf he
    go_wp2
    go_ret
    exact Or.inr ⟨rfl, rfl, HB2.out⟩
  | some F' =>
    have he : er = 0 := (HTE.out.2 F' rfl).1
    have hfl : F'.length = N := (HTE.out.2 F' rfl).2
    have HFL := Lib.hid hfl
    subst he
    simp only [Option.getD_some] at ho1 hb2 HB2 HO1 ⊢
    have hg2 := (hb2.block g hglt).trans HG.out
    have hth := hot_there hg2
    have hst := hot_stored hg2 F'.length a1 n1 cp1
    have HTH := Lib.hid hth
    have HST := Lib.hid hst
    clear ho1 hb1 hb2 c0 c1 c2 c3 c4 cf hg2 hth hst hfl
    go_wp2_with (refine wpList_store_mid rfl 101 _ _ rfl g 3 #[.int .i64 ((F'.length : Nat) : Int), .slice a1 n1 cp1] rfl rfl HTH.out sizeSp (by simp [Value.oneCell']) ?_)
    go_ret
    refine Or.inl ⟨F', rfl, rfl, fun q => U q ∨ (w.heap.size ≤ q ∧ q < w1.heap.size), ?_, ?_, fun q hq => hq.imp id fun hh => hh.1⟩
    · have ho := HST.out.2
      have hpost := HST.out.1
      have hOn : Only (fun q => q = g) w ((w1.alloc (.cells #[.int .i64 ((F'.length : Nat) : Int), .slice a1 n1 cp1] 101)).setCells g 3 [.int .i64 ((F'.length : Nat) : Int), .slice a1 n1 cp1]) := (Only.of_below HB2.out).trans ho fun _ _ e => e
      have hvv := HV.out.only hOn fun q hq e => HK.out.offU (e ▸ hq)
      have howb : (w1.alloc (.cells #[.int .i64 ((F'.length : Nat) : Int), .slice a1 n1 cp1] 101)).ownsRow w.heap.size 5 1 (.slice a1 n1 cp1) n1 (vals (packB F')) := owned_below HO1.out ((Below.refl _ _).alloc (Nat.le_refl _) _)
      have hblk : ∀ p, a1 = some p → w.heap.size ≤ p.block ∧ p.block < w1.heap.size := fun p hp => by
        subst hp
        have hx := HO1.out.lt p.block (by simp [Value.ownBlock])
        exact hx
      have hby := (BytesAt.owned howb).only ho fun x hx => by have := hblk x hx; omega
      refine ⟨HK.out.disk.only hOn fun q hq e => HK.out.offS (e ▸ hq), ⟨mb, da, dn, dc, a1, n1, cp1, M, hpost, ⟨hvv.at_, hvv.eq, hvv.pages, hvv.dir, ⟨by show F'.length ≤ 2048; rw [HFL.out]; exact HUL.out, rfl, hby⟩, fun q hq => ?_, .inl hvv.inM, fun x hx p hp => .inl (hvv.inP x hx p hp), fun p hp => .inl (hvv.inD p hp), fun p hp => .inr (hblk p hp)⟩⟩, fun q hq hS => ?_, HK.out.offS, fun hq => ?_, by show F'.length + 42 = _; rw [HFL.out, ← HNN.out]; exact HK.out.size⟩
      · rcases hq with hq | hq
        · exact hvv.lt q hq
        · have := ho.size; simp at this; omega
      · rcases hq with hq | hq
        · exact HK.out.apart q hq hS
        · have := HK.out.disk.lt q hS; omega
      · rcases hq with hq | hq
        · exact HK.out.offU hq
        · omega
    · exact (Only.of_below HB2.out).trans HST.out.2 fun _ _ e => e
end

end Go.Proofs.YtjcmphjjkeigjaaGreat

namespace Go.Proofs.YtjcmphjjkeigjaaGreat
open Go.RowKit
set_option linter.unusedVariables false
set_option linter.unusedSimpArgs false
set_option maxRecDepth 100000

/-- what is read so far, before what is left of a chain -/
def chainPre (P : List Nat) (X : List UInt8) : Option (List Nat × List UInt8) → Option (List Nat × List UInt8)
  | none => none
  | some r => some (P ++ r.1, X ++ r.2)
theorem chainPre_nil (o : Option (List Nat × List UInt8)) : chainPre [] [] o = o := by cases o <;> rfl
theorem chain_zero (D : Dk) (N : Nat) (P : List Nat) (X : List UInt8) (n : Nat) : chainPre P X (chainOf D N (n + 1) 0) = none := by simp [chainOf, chainPre]
theorem chain_out (D : Dk) (N : Nat) (P : List Nat) (X : List UInt8) (n p : Nat) (h : ¬ p < N) : chainPre P X (chainOf D N (n + 1) (p + 1)) = none := by
  simp only [chainOf]; rw [if_pos (by omega)]; rfl
theorem chain_step (D : Dk) (N : Nat) (P : List Nat) (X : List UInt8) (n p : Nat) (h : p < N) :
    chainPre P X (chainOf D N (n + 1) (p + 1)) = chainPre (P ++ [p]) (X ++ (D.content (42 + p)).drop 2) (chainOf D N n (le ((D.content (42 + p)).take 2))) := by
  simp only [chainOf]
  rw [if_neg (by omega), show 41 + (p + 1) = 42 + p by omega]
  cases chainOf D N n (le ((D.content (42 + p)).take 2)) with
  | none => rfl
  | some r => simp [chainPre]
theorem chain_end (D : Dk) (N : Nat) (P : List Nat) (X : List UInt8) (lk : Nat) : chainPre P X (chainOf D N 0 lk) = if lk = 0 then some (P, X) else none := by
  simp only [chainOf]
  split <;> simp [chainPre]

def ChainTo (r : Option (List Nat × List UInt8)) (w : World) (e : Ending) (w' : World) : Prop :=
  Below w.heap.size w w' ∧ ((r = none ∧ ∃ v, e = .returned (.tuple #[v, .bool false])) ∨
    ∃ P X a cap, r = some (P, X) ∧ e = .returned (.tuple #[.slice a P.length cap, .bool true]) ∧ w'.ownsRow w.heap.size 3 1 (.slice a P.length cap) P.length (ivals P))

section
variable {w : World} {S U : Nat → Prop} {g gd : Nat} {D : Dk} {h : Ht}
set_option maxHeartbeats 4000000 in
theorem chain_any (k : HotAt w S U g gd D h) (hp : D.power = true) (link n : Nat) (hlk : link < 65536) (hn : n ≤ 100) :
    Calls Tryz.prog 123 #[.pointer (some ⟨g, 0, none⟩), .int .i64 link, .int .i64 n] w (ChainTo (chainOf D h.used.length n link) w) := by
  have CR := Lib.hid (fun (p : Nat) (hq : p < 1000000) u (hu : Below w.heap.size w u) => read7_any (k.below hu) p hq hp)
  have HSZ := Lib.hid k.size
  have HOK := Lib.hid k.disk.ok
  generalize h.used.length = N at *
  obtain ⟨R, hR⟩ : ∃ R, R = chainOf D N n link := ⟨_, rfl⟩
  have HR := Lib.hid ((chainPre_nil _).trans hR.symm)
  rw [← hR]
  clear k hR
  go_enter Tryz.func123, Tryz.ntmps123
  go_wp2
  go_loopw [1, 8, 15] (fun s1 s8 s15 wr => ∃ (lk j a cap : _) (P : List Nat) (X : List UInt8) (m : Nat), s1 = .int .i64 (lk : Nat) ∧ s15 = .int .i64 (j : Nat) ∧ s8 = .slice a m cap ∧ m = P.length ∧ m = j ∧ j ≤ n ∧ lk < 65536 ∧ wr.ownsRow w.heap.size 3 1 (.slice a m cap) m (ivals P) ∧ Below w.heap.size w wr ∧ chainPre P X (chainOf D N (n - j) lk) = R) (fun _ _ s15 _ => n - (intOf s15).toNat)
  case atStart => exact ⟨link, 0, none, 0, [], [], 0, rfl, rfl, rfl, rfl, rfl, Nat.zero_le _, hlk, World.ownsRow_nil _ _ _ _, Below.refl _ _, HR.out⟩
  case round =>
    clear HR
    obtain ⟨lk, j, a, cap, P, X, m, rfl, rfl, rfl, hmP, hmj, hj, hlk2, hr, hb, hch⟩ := hrel
    have HRW := Lib.hid hr
    have HB := Lib.hid hb
    have HCH := Lib.hid hch
    have HMP := Lib.hid hmP
    have HMJ := Lib.hid hmj
    have hm100 : m ≤ 100 := by omega
    clear hr hb hch hmP hmj
    by_cases hlt : j < n
    · have hlti : (j : Int) < (n : Int) := by omega
      obtain ⟨q, hq⟩ : ∃ q, n - j = q + 1 := ⟨n - j - 1, by omega⟩
      rw [hq] at HCH
      have HQ := Lib.hid hq
      clear hq
      by_cases hl0 : lk = 0
      · subst hl0
        have hnone := HCH.out
        rw [chain_zero] at hnone
        have HN := Lib.hid hnone
        clear hnone
        go_wp2_with fail
        go_ret2
        exact ⟨HB.out, .inl ⟨HN.out.symm, _, rfl⟩⟩
      · have hl0i : ¬ (lk : Int) = 0 := by omega
        obtain ⟨p, hpk⟩ : ∃ p, lk = p + 1 := ⟨lk - 1, by omega⟩
        have hpi : (lk : Int) - 1 = (p : Int) := by omega
        have hp6 : p < 1000000 := by omega
        rw [hpk] at HCH
        clear hpk hl0
        have CR1 := Lib.hid (CR.out p hp6 wr HB.out)
        go_wp2_with fail
        refine CR1.out.mono ?_
        rintro e w1 ⟨ra, rm, rc, rfl, hrb, hb1, hfr⟩
        have HB1 := Lib.hid (HB.out.trans (hb1.mono HB.out.size))
        have HR1 := Lib.hid (owned_below HRW.out hb1)
        by_cases hpN : p < N
        · have hdp : decide (p < N) = true := by simpa using hpN
          rw [hdp]
          have hpg : pageAt D N p = D.content (42 + p) := by unfold pageAt; rw [if_pos hpN]
          rw [hpg] at hrb
          have h128 : (D.content (42 + p)).length = 128 := HOK.out.content _ (by have := HSZ.out; omega)
          have hst := HCH.out
          rw [chain_step D N P X q p hpN] at hst
          have HST := Lib.hid hst
          obtain ⟨nl, hnl⟩ : ∃ nl, nl = le ((D.content (42 + p)).take 2) := ⟨_, rfl⟩
          have hnl6 : nl < 65536 := by
            rw [hnl]
            have := le_lt ((D.content (42 + p)).take 2)
            rw [List.length_take, h128] at this
            exact this
          rw [← hnl] at HST
          generalize D.content (42 + p) = pg at *
          have hrm : rm = 128 := by have := hrb.1; omega
          subst hrm
          have HRB := Lib.hid hrb
          have HFR := Lib.hid hfr
          have hsz1 := hb1.size
          clear hrb hb1 hdp hpg hst h128 hfr
          go_wp2_with (at_builtin; refine wpList_append_intsG (by rfl) (.tmp 29) (.tmp 31) rfl w.heap.size _ m _ rfl (HR1.out.alloc _) (some ⟨w1.heap.size, 0, none⟩) 1 1 [(p : Int)] rfl (ints1 w1 (p : Int)) (m + 1) rfl (by omega) (by have := HB1.out.size; simp; omega) ?_; intro a' cap' w3 ho3 hg3)
          have hon : Only (fun q => (Value.slice a m cap).ownBlock = some q) w1 w3 := (Only.alloc (S := fun q => (Value.slice a m cap).ownBlock = some q) w1 _).trans (Only.of_grown (S := fun q => (Value.slice a m cap).ownBlock = some q) hg3 fun q e => e) fun _ _ e => e
          have HB3 := Lib.hid (HB1.out.trans (hon.below HB1.out.size fun q hq e => by have := (HR1.out.lt q e).1; omega))
          have HRB3 := Lib.hid (HRB.out.only hon fun x hx e => by have h1 := HFR.out x hx; have h2 := (HRW.out.lt x.block e).2; omega)
          have CN := Lib.hid (num_ok ra 128 rc pg 0 2 w3 (by omega) (by omega) (by omega) HRB3.out)
          rw [List.drop_zero, ← hnl] at CN
          have HO3 := Lib.hid ho3
          clear hon ho3 hg3 hnl
          refine CN.out.mono ?_
          rintro e w4 ⟨rfl, rfl⟩
          have hnw : IntKind.i64.wrap (nl : Int) = (nl : Int) := IntWalk.i64_in _ (by omega)
          go_wp2_with fail
          go_roundw
          case rel =>
            refine ⟨nl, j + 1, a', cap', P ++ [p], X ++ pg.drop 2, m + 1, rfl, by first | rfl | simp, rfl, by simp [HMP.out], by have := HMJ.out; omega, by omega, hnl6, ?_, HB3.out, ?_⟩
            · simpa [ivals, zvals] using HO3.out
            · rw [show n - (j + 1) = q by have := HQ.out; omega]; exact HST.out
          case measure => simp only [intOf]; omega
        · have hdp : decide (p < N) = false := by simpa using hpN
          rw [hdp]
          have hnone := HCH.out
          rw [chain_out D N P X q p hpN] at hnone
          have HN := Lib.hid hnone
          clear hnone hrb hb1 hdp
          go_wp2_with fail
          go_ret2
          exact ⟨HB1.out, .inl ⟨HN.out.symm, _, rfl⟩⟩
    · have hlti : ¬ (j : Int) < (n : Int) := by omega
      have hq : n - j = 0 := by omega
      rw [hq] at HCH
      have he := HCH.out
      rw [chain_end] at he
      have HE := Lib.hid he
      clear he hq
      by_cases hl0 : lk = 0
      · have HE2 := Lib.hid (show some (P, X) = R by have := HE.out; rwa [if_pos hl0] at this)
        subst hl0
        go_wp2_with fail
        go_ret2
        have hm2 := HMP.out
        exact ⟨HB.out, .inr ⟨P, X, a, cap, HE2.out.symm, by rw [← hm2]; rfl, by rw [← hm2]; exact HRW.out⟩⟩
      · have hl0i : ¬ (lk : Int) = 0 := by omega
        have HE2 := Lib.hid (show none = R by have := HE.out; rwa [if_neg hl0] at this)
        have HL0 := Lib.hid hl0
        clear hl0
        go_wp2_with fail
        go_ret2
        exact ⟨HB.out, .inl ⟨HE2.out.symm, .slice a m cap, by have := HL0.out; simp [this]⟩⟩
end

end Go.Proofs.YtjcmphjjkeigjaaGreat

namespace Go.Proofs.YtjcmphjjkeigjaaGreat
open Go.RowKit
set_option linter.unusedVariables false
set_option linter.unusedSimpArgs false
set_option maxRecDepth 100000

/-- the superblock's octets, as far as the first j numbers -/
def superK (dir : List Nat) (j : Nat) : List UInt8 := (markH ++ leB 2 dir.length) ++ (dir.take j).flatMap (leB 2)
theorem superK_length (dir : List Nat) (j : Nat) (hj : j ≤ dir.length) : (superK dir j).length = 6 + 2 * j := by
  have : ((dir.take j).flatMap (leB 2)).length = 2 * (dir.take j).length := flatMap_lenT (leB 2) 2 _ (fun x _ => leB_length 2 x)
  rw [List.length_take, Nat.min_eq_left hj] at this
  simp [superK, markH, leB_length, this]; omega
theorem superK_succ (dir : List Nat) (j : Nat) (hj : j < dir.length) : superK dir (j + 1) = superK dir j ++ leB 2 (dir.getD j 0) := by
  unfold superK
  rw [List.take_succ_eq_append_getElem hj, List.flatMap_append, List.append_assoc, List.append_assoc, List.append_assoc]
  congr 3
  simp [List.getD, List.getElem?_eq_getElem hj]
theorem superK_all (dir : List Nat) : superK dir dir.length = superRaw dir := by
  unfold superK superRaw
  rw [List.take_length, List.append_assoc]

theorem markH_at (w w1 : World) (hb : Below (w.alloc (.cells #[.int .u8 104, .int .u8 115, .int .u8 117, .int .u8 112] 5 (4, 5))).heap.size (w.alloc (.cells #[.int .u8 104, .int .u8 115, .int .u8 117, .int .u8 112] 5 (4, 5))) w1) :
    BytesAt w1 (some ⟨w.heap.size, 0, none⟩) 4 4 markH := by
  refine BytesAt.of_cells rfl (Nat.le_refl _) (by unfold maxLen; omega) fun i hi => ?_
  rw [Nat.zero_add, cell_of_row _ _ i _ _ _ ((hb.block w.heap.size (by simp)).trans (heap_alloc_new w _))]
  match i, hi with
  | 0, _ => rfl
  | 1, _ => rfl
  | 2, _ => rfl
  | 3, _ => rfl

set_option maxHeartbeats 4000000 in
theorem superH_own (a : Option Addr) (n cap : Nat) (dir : List Nat) (w : World) (h : IntsAt w a n cap (pagesI dir)) (hd : ∀ p ∈ dir, p < 65536) (hn : n < 65536) :
    Calls Tryz.prog 102 #[.slice a n cap] w fun e w' => ∃ a' m c, e = .returned (.slice a' m c) ∧ BytesAt w' a' m c (superL dir) ∧ Below w.heap.size w w' ∧ (∀ x, a' = some x → w.heap.size ≤ x.block) ∧ OctO w' (.slice a' m c) (superL dir) := by
  have HI := Lib.hid h
  have hlen : dir.length = n := by have := h.1; simpa [pagesI] using this
  have HK := Lib.hid (fun j (hj : j ≤ dir.length) => superK_length dir j hj)
  have HKS := Lib.hid (fun j (hj : j < dir.length) => superK_succ dir j hj)
  have HKA := Lib.hid (superK_all dir)
  have HD := Lib.hid (fun j (hj : j < dir.length) => hd (dir.getD j 0) (by rw [List.getD, List.getElem?_eq_getElem hj]; exact List.getElem_mem hj))
  have HLN := Lib.hid hlen
  have CN := Lib.hid (fun (v : Nat) u (hv : v < 65536) => hnumber_any v u hv)
  have kc := fun (w : World) (C : Array Value) (n c : Nat) => Lib.run_convert_bytes_const (P := Tryz.prog) w 49 5 C n c Tryz.underlying49 Tryz.underlying5
  clear h hd hlen
  go_enter Tryz.func102, Tryz.ntmps102
  go_wp2_with fail
  refine (CN.out n _ hn).mono ?_
  rintro e w1 ⟨a1, c1, rfl, ho1, hb1⟩
  have BM := Lib.hid (markH_at w w1 hb1)
  have BE1 := Lib.hid (((Below.refl _ _).alloc (Nat.le_refl _) _).trans (hb1.mono (by simp)) : Below w.heap.size w w1)
  have BO1 := Lib.hid (BytesAt.owned ho1)
  clear ho1 hb1 kc
  go_wp2_with (refine wpList_buildSliceV rfl 190 2 _ rfl #[(0, .slice (some ⟨w.heap.size, 0, none⟩) 4 4), (1, .slice a1 2 c1)] (by simp [go_sem]) _ _ (built2 _ _ _ _ _ _ _) ?_)
  have hk0 : [markH, leB 2 n].flatten = superK dir 0 := by unfold superK; rw [HLN.out]; simp
  have hba : Below w1.heap.size w1 (w1.alloc (.cells #[.slice (some ⟨w.heap.size, 0, none⟩) 4 4, .slice a1 2 c1] 49)) := (Below.refl _ _).alloc (Nat.le_refl _) _
  have C3 := Lib.hid (concat_to (some ⟨w1.heap.size, 0, none⟩) 2 2 6 [markH, leB 2 n] (superK dir 0) _ (rows2 (heap_alloc_new w1 (.cells #[.slice (some ⟨w.heap.size, 0, none⟩) 4 4, .slice a1 2 c1] 49)) (BM.out.below hba) (BO1.out.below hba)) hk0 (by rw [HK.out 0 (Nat.zero_le _)]) (by omega) (by omega))
  have BEA := Lib.hid (BE1.out.trans (hba.mono BE1.out.size))
  clear hk0 hba
  refine (C3.out).mono ?_
  rintro e w3 ⟨a3, c3, rfl, ho3, hb3⟩
  have HB3 := Lib.hid (BEA.out.trans (hb3.mono BEA.out.size))
  have HO3 := Lib.hid (owned_base ho3 BEA.out.size)
  clear ho3 hb3 C3 BM BO1 BE1
  go_wp2
  go_loopw [3, 17] (fun x i wr => ∃ (j : Nat) (a' : Option Addr) (N cap' : Nat), N = 6 + 2 * j ∧ j ≤ n ∧ i = .int .i64 (j : Nat) ∧ x = .slice a' N cap' ∧ wr.ownsRow w.heap.size 5 1 (.slice a' N cap') N (vals (superK dir j)) ∧ Below w.heap.size w wr) (fun _ i _ => n - (intOf i).toNat)
  case atStart => exact ⟨0, a3, 6, c3, rfl, Nat.zero_le _, rfl, rfl, HO3.out, HB3.out⟩
  case round =>
    obtain ⟨j, a', N, cap', hN, hj, rfl, rfl, ho, hb⟩ := hrel
    have HO := Lib.hid ho
    have HB := Lib.hid hb
    have HNN := Lib.hid hN
    have hN6 : N ≤ 200000 := by omega
    clear ho hb HO3 HB3 hN
    by_cases hlt : j < n
    · have hlti : (j : Int) < (n : Int) := by omega
      obtain ⟨b, off, rfl, hbb, hc⟩ := IntsAt.cell (HI.out.below (Nat.zero_lt_succ 0) HB.out) (by omega)
      have hc0 := hc j hlt
      have hjd : j < dir.length := by rw [HLN.out]; exact hlt
      have e0 : (pagesI dir).getD j 0 = ((dir.getD j 0 : Nat) : Int) := by simp [pagesI, List.getD, List.getElem?_eq_getElem hjd]
      rw [e0] at hc0
      have hp6 := HD.out j hjd
      have HS := Lib.hid (HKS.out j hjd)
      generalize dir.getD j 0 = p at *
      clear hc e0
      go_wp2_with fail
      refine (CN.out p wr hp6).mono ?_
      rintro e w4 ⟨a4, c4, rfl, ho4, hb4⟩
      have HB4 := Lib.hid (HB.out.trans (hb4.mono HB.out.size))
      have HO4 := Lib.hid (owned_below HO.out hb4)
      have HY4 := Lib.hid (BytesAt.owned ho4)
      clear ho4 hb4 hc0
      go_wp2_with (at_builtin; refine wpList_append_bytes rfl _ _ rfl w.heap.size _ N _ rfl HO4.out a4 2 c4 (leB 2 p) rfl HY4.out (N + 2) rfl (by omega) HB4.out.size ?_; intro a5 c5 w5 ho5 hg5)
      have hon : Only (fun q => (Value.slice a' N cap').ownBlock = some q) w4 w5 := Only.of_grown hg5 fun q e => e
      have HB5 := Lib.hid (HB4.out.trans (hon.below HB4.out.size fun q hq e => by have := (HO4.out.lt q e).1; omega))
      have HO5 := Lib.hid ho5
      clear hon ho5 hg5
      go_roundw
      case rel => exact ⟨j + 1, a5, N + 2, c5, by have := HNN.out; omega, by omega, by first | rfl | simp, rfl, by rw [HS.out]; simpa [vals] using HO5.out, HB5.out⟩
      case measure => simp only [intOf]; omega
    · have hlti : ¬ (j : Int) < (n : Int) := by omega
      have hjn : j = n := by omega
      subst hjn
      have hka := HKA.out
      rw [HLN.out] at hka
      have hO2 := HO.out
      rw [hka] at hO2
      have CS := Lib.hid (seal_any a' N cap' (superRaw dir) wr (BytesAt.owned hO2) (by omega))
      have hrl : (superRaw dir).length = N := by rw [← hka, HK.out j (by rw [HLN.out]; exact Nat.le_refl _)]; exact HNN.out.symm
      have HRL := Lib.hid hrl
      clear hka hO2 hrl
      go_wp2_with fail
      refine CS.out.mono ?_
      rintro e w4 ⟨a4, c4, rfl, ho4, hb4⟩
      have HB4 := Lib.hid (HB.out.trans (hb4.mono HB.out.size))
      by_cases h59 : j ≤ 59
      · have CP := Lib.hid (pad_ok a4 (N + 4) c4 (sealL (superRaw dir)) 128 w4 (by omega) (by have := HNN.out; omega) (BytesAt.owned ho4))
        have e5 : sealL (superRaw dir) ++ List.replicate (128 - (N + 4)) 0 = superL dir := by
          unfold superL padL; rw [if_pos (by rw [HLN.out]; exact h59), sealL_length, HRL.out]
        rw [e5] at CP
        clear ho4 hb4 e5
        dsimp only [id]
        go_wp2_with fail
        refine CP.out.mono ?_
        rintro e w5 ⟨a5, c5, rfl, ho5, hb5⟩
        go_wp2
        go_ret
        exact ⟨a5, 128, c5, rfl, BytesAt.owned ho5, HB4.out.trans (hb5.mono HB4.out.size), fun x hx => by
          subst hx
          have := (ho5.lt x.block (by simp [Value.ownBlock])).1
          have := HB4.out.size
          omega, (octO_of ho5).1⟩
      · have CP := Lib.hid (pad_full a4 (N + 4) c4 128 w4 (by omega) (by have := HNN.out; omega))
        have e5 : superL dir = [] := by unfold superL; rw [if_neg (by rw [HLN.out]; exact h59)]
        have HE5 := Lib.hid e5
        clear ho4 hb4 e5
        dsimp only [id]
        go_wp2_with fail
        refine CP.out.mono ?_
        rintro e w5 ⟨rfl, rfl⟩
        go_wp2
        go_ret
        exact ⟨none, 0, 0, rfl, by rw [HE5.out]; exact BytesAt.nil _, HB4.out, by simp, by rw [HE5.out]; exact Recs.nil _ _ _ _⟩
theorem superH_any (a : Option Addr) (n cap : Nat) (dir : List Nat) (w : World) (h : IntsAt w a n cap (pagesI dir)) (hd : ∀ p ∈ dir, p < 65536) (hn : n < 65536) :
    Calls Tryz.prog 102 #[.slice a n cap] w fun e w' => ∃ a' m c, e = .returned (.slice a' m c) ∧ BytesAt w' a' m c (superL dir) ∧ Below w.heap.size w w' ∧ ∀ x, a' = some x → w.heap.size ≤ x.block :=
  (superH_own a n cap dir w h hd hn).mono fun _ _ ⟨a', m, c, h1, h2, h3, h4, _⟩ => ⟨a', m, c, h1, h2, h3, h4⟩

end Go.Proofs.YtjcmphjjkeigjaaGreat

namespace Go.Proofs.YtjcmphjjkeigjaaGreat
open Go.RowKit
set_option linter.unusedVariables false
set_option maxRecDepth 100000
set_option linter.unusedSimpArgs false

/-- a reader in block g: its octets l, how far it is, its first error -/
def Rd (w : World) (g : Nat) (sl : Option Addr × Nat) (n : Nat) (l : List UInt8) (at_ er : Nat) : Prop :=
  w.heap[g]? = some (.cells #[.slice sl.1 n sl.2, .int .i64 at_, .int .i64 er] 265 (0, 0)) ∧ BytesAt w sl.1 n sl.2 l ∧ ∀ x, sl.1 = some x → x.block ≠ g

theorem Rd.drewN {w : World} {g : Nat} {sl : Option Addr × Nat} {n : Nat} {l : List UInt8} {at_ er : Nat} (h : Rd w g sl n l at_ er) (k : Nat) : Rd (w.drewN k) g sl n l at_ er := h
theorem Rd.below {w w' : World} {g : Nat} {sl : Option Addr × Nat} {n : Nat} {l : List UInt8} {at_ er : Nat} (h : Rd w g sl n l at_ er) (hb : Below w.heap.size w w') : Rd w' g sl n l at_ er := by
  obtain ⟨h1, h2, h3⟩ := h
  exact ⟨by rw [hb.block g (Array.getElem?_eq_some_iff.1 h1).1]; exact h1, h2.below hb, h3⟩
theorem Rd.agree {w w' : World} {g : Nat} {sl : Option Addr × Nat} {n : Nat} {l : List UInt8} {at_ er : Nat} (h : Rd w g sl n l at_ er) (hg : w'.heap[g]? = w.heap[g]?)
    (hx : ∀ x, sl.1 = some x → w'.heap[x.block]? = w.heap[x.block]?) : Rd w' g sl n l at_ er := by
  obtain ⟨h1, ⟨b1, b2, b3, b4⟩, h3⟩ := h
  refine ⟨by rw [hg]; exact h1, ⟨b1, b2, b3, ?_⟩, h3⟩
  rcases b4 with b4 | ⟨x, ha, hc⟩
  · exact .inl b4
  · exact .inr ⟨x, ha, fun i hi => by rw [World.cell?_of_block (w := w) (by rw [add_block]; exact hx x ha)]; exact hc i hi⟩
theorem Rd.other {w w' : World} {g h : Nat} {sl : Option Addr × Nat} {n : Nat} {l : List UInt8} {at_ er : Nat} (k : Rd w g sl n l at_ er) (hg : w.grownBy w' (some h)) (h1 : g ≠ h) (h2 : ∀ x, sl.1 = some x → x.block ≠ h) : Rd w' g sl n l at_ er :=
  ⟨by rw [hg.block g (Array.getElem?_eq_some_iff.1 k.1).1 (by simpa using h1)]; exact k.1, k.2.1.grown hg (fun x hx => by simpa using h2 x hx), k.2.2⟩
theorem Rd.lt {w : World} {g : Nat} {sl : Option Addr × Nat} {n : Nat} {l : List UInt8} {at_ er : Nat} (h : Rd w g sl n l at_ er) : g < w.heap.size := by
  obtain ⟨h1, h2, h3⟩ := h
  exact (Array.getElem?_eq_some_iff.1 h1).1

theorem Rd.er {w : World} {g : Nat} {sl : Option Addr × Nat} {n : Nat} {l : List UInt8} {at_ er : Nat} (h : Rd w g sl n l at_ er) : w.cell? ⟨g, 2, none⟩ = some (.int .i64 er) := by
  obtain ⟨h1, h2, h3⟩ := h
  exact cell_of_row w g 2 _ _ _ h1
theorem Rd.fr {w : World} {g : Nat} {sl : Option Addr × Nat} {n : Nat} {l : List UInt8} {at_ er : Nat} (h : Rd w g sl n l at_ er) (j : Nat) : w.frozen? ⟨g, j, none⟩ = false := by
  obtain ⟨h1, h2, h3⟩ := h
  exact frozen_of_row w g j _ _ h1
theorem Rd.pl {w : World} {g : Nat} {sl : Option Addr × Nat} {n : Nat} {l : List UInt8} {at_ er : Nat} (h : Rd w g sl n l at_ er) : w.cell? ⟨g, 1, none⟩ = some (.int .i64 at_) := by
  obtain ⟨h1, h2, h3⟩ := h
  exact cell_of_row w g 1 _ _ _ h1

theorem Rd.set_at {w : World} {g : Nat} {sl : Option Addr × Nat} {n : Nat} {l : List UInt8} {at_ er : Nat} (h : Rd w g sl n l at_ er) (at' : Nat) : Rd (w.setCell ⟨g, 1, none⟩ (.int .i64 at')) g sl n l at' er := by
  obtain ⟨h1, h2, h3⟩ := h
  refine ⟨?_, h2.grown (setCell_grown w g 1 _) (fun x hx => by have := h3 x hx; simpa using this), h3⟩
  rw [heap_setCell_same w g 1 _ _ _ h1]
  rfl
theorem Rd.set_er {w : World} {g : Nat} {sl : Option Addr × Nat} {n : Nat} {l : List UInt8} {at_ er : Nat} (h : Rd w g sl n l at_ er) (er' : Nat) : Rd (w.setCell ⟨g, 2, none⟩ (.int .i64 er')) g sl n l at_ er' := by
  obtain ⟨h1, h2, h3⟩ := h
  refine ⟨?_, h2.grown (setCell_grown w g 2 _) (fun x hx => by have := h3 x hx; simpa using this), h3⟩
  rw [heap_setCell_same w g 2 _ _ _ h1]
  rfl

theorem read_any (a : Option Addr) (n cap : Nat) (l : List UInt8) (w : World) (hl : BytesAt w a n cap l) (hn : n ≤ 140737488355328) :
    Calls Tryz.prog 159 #[.slice a n cap] w fun e w' => ∃ g sl, e = .returned (.pointer (some ⟨g, 0, none⟩)) ∧ w.heap.size ≤ g ∧ Rd w' g sl n l 0 0 ∧ (∀ x, sl.1 = some x → w.heap.size ≤ x.block ∧ x.block < g) ∧ Below w.heap.size w w' := by
  have hno : w.ownsRow w.heap.size 5 1 (.slice none 0 0) 0 [] := World.ownsRow_nil _ _ _ _
  have HNO := Lib.hid hno
  clear hno
  go_enter Tryz.func159, Tryz.ntmps159
  go_wp2_with (at_builtin; refine wpList_append_bytes rfl _ _ rfl w.heap.size (.slice none 0 0) 0 [] rfl HNO.out a n cap l rfl hl n (by omega) hn (Nat.le_refl _) ?_; intro a1 cap1 w1 ho hg)
  go_ret
  have hb1 : Below w.heap.size w w1 := (Below.refl _ _).grown hg (Nat.le_refl _) (fun k hk => by cases hk)
  have hb2 : Below w1.heap.size w1 (w1.alloc (.cells #[.slice a1 n cap1, .int .i64 0, .int .i64 0] 265)) := (Below.refl _ _).alloc (Nat.le_refl _) _
  rw [List.nil_append] at ho
  have hblk : ∀ x, a1 = some x → w.heap.size ≤ x.block ∧ x.block < w1.heap.size := fun x hx => by subst hx; exact ho.lt x.block rfl
  exact ⟨w1.heap.size, (a1, cap1), rfl, hb1.size, ⟨heap_alloc_new w1 _, (BytesAt.owned ho).below hb2, fun x hx => by have := (hblk x hx).2; omega⟩, hblk, hb1.trans (hb2.mono hb1.size)⟩

theorem wp_region_tail {P : Program} {id : Nat} {Q : Exit → Act → World → Prop} {a : Act} {w : World} {l : List Oper} (n : Nat) (hm : P.follows .mixedOrders = true) (hB : Region.lexTailB .any l.toArray n = true)
    (h : wpStill P l.toArray w.drew (fun a' => wpList P l.toArray Q (l.drop n) a' w.drew) (l.take n) a) : (Code.region id l.toArray true).wp P Q a w :=
  wp_region_still_tail n hm hB h

def rNum (l : List UInt8) (at_ er : Nat) (wd : Int) : Nat × Nat × Nat :=
  if er ≠ 0 then (0, at_, er) else if wd < 1 ∨ 8 < wd then (0, at_, 1) else if (l.length : Int) < at_ + wd then (0, at_, 2) else (le ((l.drop at_).take wd.toNat), at_ + wd.toNat, 0)

def RdPost (v : Value) (w : World) (g : Nat) (sl : Option Addr × Nat) (n : Nat) (l : List UInt8) (at_ er : Nat) (e : Ending) (w' : World) : Prop :=
  e = .returned v ∧ Rd w' g sl n l at_ er ∧ w.grownBy w' (some g)

theorem rdnum_stuck (w : World) (g : Nat) (sl : Option Addr × Nat) (n : Nat) (l : List UInt8) (at_ er : Nat) (wd : Int) (hr : Rd w g sl n l at_ er) (he : er ≠ 0) :
    Calls Tryz.prog 161 #[.pointer (some ⟨g, 0, none⟩), .int .i64 wd] w (RdPost (.int .u64 0) w g sl n l at_ er) := by
  obtain ⟨a, cap⟩ := sl
  obtain ⟨h1, h2, h3⟩ := hr
  simp only at h1 h2 h3
  have c2 : w.cell? ⟨g, 2, none⟩ = some (.int .i64 er) := cell_of_row w g 2 _ _ _ h1
  have hb : ((er : Int) != 0) = true := by simp; exact he
  have HR : Rd w g (a, cap) n l at_ er := ⟨h1, h2, h3⟩
  clear h1 h2 h3
  go_enter Tryz.func161, Tryz.ntmps161
  go_wp2
  go_ret
  exact ⟨rfl, HR, World.grownBy.refl _ _⟩

theorem rdnum_wrong (w : World) (g : Nat) (sl : Option Addr × Nat) (n : Nat) (l : List UInt8) (at_ : Nat) (wd : Int) (er : Nat) (hr : Rd w g sl n l at_ 0) (he : er ≠ 0)
    (hcall : ∀ a cap u, BytesAt u a n cap l → Calls Tryz.prog 165 #[.slice a n cap, .int .i64 at_, .int .i64 wd] u fun e w' => e = .returned (.tuple #[.int .u64 0, .int .i64 er]) ∧ u = w') :
    Calls Tryz.prog 161 #[.pointer (some ⟨g, 0, none⟩), .int .i64 wd] w (RdPost (.int .u64 0) w g sl n l at_ er) := by
  obtain ⟨a, cap⟩ := sl
  obtain ⟨h1, h2, h3⟩ := hr
  simp only at h1 h2 h3
  have c0 : w.cell? ⟨g, 0, none⟩ = some (.slice a n cap) := cell_of_row w g 0 _ _ _ h1
  have c1 : w.cell? ⟨g, 1, none⟩ = some (.int .i64 at_) := cell_of_row w g 1 _ _ _ h1
  have c2 : w.cell? ⟨g, 2, none⟩ = some (.int .i64 0) := cell_of_row w g 2 _ _ _ h1
  have f2 : w.frozen? ⟨g, 2, none⟩ = false := frozen_of_row w g 2 _ _ h1
  have hb : ((er : Int) != 0) = true := by simp; exact he
  have HR := Lib.hid (show Rd w g (a, cap) n l at_ 0 from ⟨h1, h2, h3⟩)
  have HC := Lib.hid (fun k => hcall a cap (w.drewN k) (h2.below (below_drewN (Below.refl _ _) k)))
  clear h1 h2 h3 hcall
  go_enter Tryz.func161, Tryz.ntmps161
  go_wp2
  go_quiet ((go_at_call 165; exact quiet_left (HC.out _)))
  go_wp2
  go_ret
  exact ⟨rfl, (HR.out.drewN nq).set_er er, grown_of_drewN (n := nq) (setCell_grown _ g 2 _)⟩

theorem rdnum_good (w : World) (g : Nat) (sl : Option Addr × Nat) (n : Nat) (l : List UInt8) (at_ wd v : Nat) (hr : Rd w g sl n l at_ 0) (hmax : at_ + wd ≤ 9223372036854775807)
    (hcall : ∀ a cap u, BytesAt u a n cap l → Calls Tryz.prog 165 #[.slice a n cap, .int .i64 at_, .int .i64 wd] u fun e w' => e = .returned (.tuple #[.int .u64 v, .int .i64 0]) ∧ u = w') :
    Calls Tryz.prog 161 #[.pointer (some ⟨g, 0, none⟩), .int .i64 wd] w (RdPost (.int .u64 v) w g sl n l (at_ + wd) 0) := by
  obtain ⟨a, cap⟩ := sl
  obtain ⟨h1, h2, h3⟩ := hr
  simp only at h1 h2 h3
  have c0 : w.cell? ⟨g, 0, none⟩ = some (.slice a n cap) := cell_of_row w g 0 _ _ _ h1
  have c1 : w.cell? ⟨g, 1, none⟩ = some (.int .i64 at_) := cell_of_row w g 1 _ _ _ h1
  have c2 : w.cell? ⟨g, 2, none⟩ = some (.int .i64 0) := cell_of_row w g 2 _ _ _ h1
  have f1 : w.frozen? ⟨g, 1, none⟩ = false := frozen_of_row w g 1 _ _ h1
  have HR := Lib.hid (show Rd w g (a, cap) n l at_ 0 from ⟨h1, h2, h3⟩)
  have HC := Lib.hid (fun k => hcall a cap (w.drewN k) (h2.below (below_drewN (Below.refl _ _) k)))
  clear h1 h2 h3 hcall
  go_enter Tryz.func161, Tryz.ntmps161
  go_wp2
  go_quiet ((go_at_call 165; exact quiet_left (HC.out _)))
  go_wp2
  go_ret
  exact ⟨rfl, (HR.out.drewN nq).set_at (at_ + wd), grown_of_drewN (n := nq) (setCell_grown _ g 1 _)⟩

theorem BytesAt.max {w : World} {a : Option Addr} {n cap : Nat} {l : List UInt8} (h : BytesAt w a n cap l) : n ≤ 9223372036854775807 := by
  have := h.2.1; have := h.2.2.1; unfold maxLen at this; omega

/-- a number is read on -/
theorem rdnum_any (w : World) (g : Nat) (sl : Option Addr × Nat) (n : Nat) (l : List UInt8) (at_ er : Nat) (wd : Int) (hr : Rd w g sl n l at_ er) (hat : at_ ≤ n) :
    Calls Tryz.prog 161 #[.pointer (some ⟨g, 0, none⟩), .int .i64 wd] w (RdPost (.int .u64 (rNum l at_ er wd).1) w g sl n l (rNum l at_ er wd).2.1 (rNum l at_ er wd).2.2) := by
  have hn : l.length = n := by exact hr.2.1.1
  have hmax : n ≤ 9223372036854775807 := by exact hr.2.1.max
  by_cases he : er = 0
  · subst he
    by_cases hw : wd < 1 ∨ 8 < wd
    · have e : rNum l at_ 0 wd = (0, at_, 1) := by simp only [rNum]; rw [if_neg (by simp), if_pos hw]
      rw [e]
      exact rdnum_wrong w g sl n l at_ wd 1 hr (by decide) (fun a cap u hb => num_arg a n cap at_ wd u hw)
    · obtain ⟨m, rfl⟩ := Int.eq_ofNat_of_zero_le (show 0 ≤ wd by omega)
      by_cases hs : l.length < at_ + m
      · have e : rNum l at_ 0 m = (0, at_, 2) := by simp only [rNum]; rw [if_neg (by simp), if_neg hw, if_pos (by omega)]
        rw [e]
        exact rdnum_wrong w g sl n l at_ m 2 hr (by decide) (fun a cap u hb => num_short a n cap at_ m u (by omega) (by omega) hat (by omega) hb.max)
      · have e : rNum l at_ 0 m = (le ((l.drop at_).take m), at_ + m, 0) := by
          simp only [rNum]; rw [if_neg (by simp), if_neg hw, if_neg (by omega), Int.toNat_natCast]
        rw [e]
        exact rdnum_good w g sl n l at_ m _ hr (by omega) (fun a cap u hb => num_ok a n cap l at_ m u (by omega) (by omega) (by omega) hb)
  · have e : rNum l at_ er wd = (0, at_, er) := by simp only [rNum]; rw [if_pos he]
    rw [e]
    exact rdnum_stuck w g sl n l at_ er wd hr he

def rRaw (l : List UInt8) (at_ er : Nat) (m : Int) : List UInt8 × Nat × Nat :=
  if er ≠ 0 then ([], at_, er) else if m < 0 then ([], at_, 1) else if (l.length : Int) < at_ + m then ([], at_, 2) else ((l.drop at_).take m.toNat, at_ + m.toNat, 0)

/-- what is handed back is a slice of new memory that reads as r -/
def RawPost (r : List UInt8) (w : World) (g : Nat) (sl : Option Addr × Nat) (n : Nat) (l : List UInt8) (at_ er : Nat) (e : Ending) (w' : World) : Prop :=
  ∃ a cap, e = .returned (.slice a r.length cap) ∧ BytesAt w' a r.length cap r ∧ Rd w' g sl n l at_ er ∧ w.grownBy w' (some g) ∧ ∀ x, a = some x → w.heap.size ≤ x.block

theorem rdraw_stuck (w : World) (g : Nat) (sl : Option Addr × Nat) (n : Nat) (l : List UInt8) (at_ er : Nat) (m : Int) (hr : Rd w g sl n l at_ er) (he : er ≠ 0) :
    Calls Tryz.prog 160 #[.pointer (some ⟨g, 0, none⟩), .int .i64 m] w (RawPost [] w g sl n l at_ er) := by
  obtain ⟨a, cap⟩ := sl
  obtain ⟨h1, h2, h3⟩ := hr
  simp only at h1 h2 h3
  have c2 : w.cell? ⟨g, 2, none⟩ = some (.int .i64 er) := cell_of_row w g 2 _ _ _ h1
  have hb : ((er : Int) != 0) = true := by simp; exact he
  have HR := Lib.hid (show Rd w g (a, cap) n l at_ er from ⟨h1, h2, h3⟩)
  clear h1 h2 h3
  go_enter Tryz.func160, Tryz.ntmps160
  go_wp2
  go_ret
  exact ⟨none, 0, rfl, BytesAt.nil _, HR.out, World.grownBy.refl _ _, fun x hx => by cases hx⟩

theorem rdraw_arg (w : World) (g : Nat) (sl : Option Addr × Nat) (n : Nat) (l : List UInt8) (at_ : Nat) (m : Int) (hr : Rd w g sl n l at_ 0) (hm : m < 0) :
    Calls Tryz.prog 160 #[.pointer (some ⟨g, 0, none⟩), .int .i64 m] w (RawPost [] w g sl n l at_ 1) := by
  obtain ⟨a, cap⟩ := sl
  obtain ⟨h1, h2, h3⟩ := hr
  simp only at h1 h2 h3
  have c2 : w.cell? ⟨g, 2, none⟩ = some (.int .i64 0) := cell_of_row w g 2 _ _ _ h1
  have f2 : w.frozen? ⟨g, 2, none⟩ = false := frozen_of_row w g 2 _ _ h1
  have HR := Lib.hid (show Rd w g (a, cap) n l at_ 0 from ⟨h1, h2, h3⟩)
  clear h1 h2 h3
  go_enter Tryz.func160, Tryz.ntmps160
  go_wp2
  go_ret
  exact ⟨none, 0, rfl, BytesAt.nil _, HR.out.set_er 1, setCell_grown _ g 2 _, fun x hx => by cases hx⟩

theorem rdraw_short (w : World) (g : Nat) (sl : Option Addr × Nat) (n : Nat) (l : List UInt8) (at_ m : Nat) (hr : Rd w g sl n l at_ 0) (hat : at_ ≤ n) (hm : n < at_ + m) :
    Calls Tryz.prog 160 #[.pointer (some ⟨g, 0, none⟩), .int .i64 m] w (RawPost [] w g sl n l at_ 2) := by
  obtain ⟨a, cap⟩ := sl
  obtain ⟨h1, h2, h3⟩ := hr
  simp only at h1 h2 h3
  have c0 : w.cell? ⟨g, 0, none⟩ = some (.slice a n cap) := cell_of_row w g 0 _ _ _ h1
  have c1 : w.cell? ⟨g, 1, none⟩ = some (.int .i64 at_) := cell_of_row w g 1 _ _ _ h1
  have c2 : w.cell? ⟨g, 2, none⟩ = some (.int .i64 0) := cell_of_row w g 2 _ _ _ h1
  have f2 : w.frozen? ⟨g, 2, none⟩ = false := frozen_of_row w g 2 _ _ h1
  have hmax := h2.max
  have hd : (n : Int) - at_ < m := by omega
  have HR := Lib.hid (show Rd w g (a, cap) n l at_ 0 from ⟨h1, h2, h3⟩)
  clear h1 h2 h3
  go_enter Tryz.func160, Tryz.ntmps160
  go_wp2
  go_quiet (fail)
  go_wp2
  go_ret
  exact ⟨none, 0, rfl, BytesAt.nil _, (HR.out.drewN nq).set_er 2, grown_of_drewN (n := nq) (setCell_grown _ g 2 _), fun x hx => by cases hx⟩

theorem BytesAt.cut {w : World} {a : Option Addr} {n cap at_ m : Nat} {l : List UInt8} (h : BytesAt w a n cap l) (hm : at_ + m ≤ n) :
    BytesAt w (if cap = at_ then a else Option.map (fun x => x.add at_) a) m (cap - at_) ((l.drop at_).take m) := by
  obtain ⟨h1, h2, h3, h4⟩ := h
  refine ⟨by simp; omega, by omega, by omega, ?_⟩
  by_cases hc : cap = at_
  · have : m = 0 := by omega
    subst this
    rw [if_pos hc]
    rcases h4 with ⟨rfl, _, _⟩ | ⟨x, rfl, hx⟩
    · exact .inl ⟨rfl, rfl, by omega⟩
    · exact .inr ⟨x, rfl, fun i hi => by omega⟩
  · rw [if_neg hc]
    rcases h4 with ⟨rfl, h5, h6⟩ | ⟨x, rfl, hx⟩
    · omega
    · refine .inr ⟨_, rfl, fun i hi => ?_⟩
      have e : (x.add at_).add i = x.add (at_ + i) := by
        unfold Addr.add
        by_cases h0 : at_ = 0 <;> by_cases h1 : i = 0 <;> simp [h0, h1, Nat.add_assoc]
      rw [e, hx _ (by omega)]
      simp [List.getD, List.getElem?_take, List.getElem?_drop, hi]

theorem rdraw_ok (w : World) (g : Nat) (sl : Option Addr × Nat) (n : Nat) (l : List UInt8) (at_ m : Nat) (hr : Rd w g sl n l at_ 0) (hm : at_ + m ≤ n) (hn : n ≤ 140737488355328) :
    Calls Tryz.prog 160 #[.pointer (some ⟨g, 0, none⟩), .int .i64 m] w (RawPost ((l.drop at_).take m) w g sl n l (at_ + m) 0) := by
  obtain ⟨a, cap⟩ := sl
  obtain ⟨h1, h2, h3⟩ := hr
  simp only at h1 h2 h3
  have c0 : w.cell? ⟨g, 0, none⟩ = some (.slice a n cap) := cell_of_row w g 0 _ _ _ h1
  have c1 : w.cell? ⟨g, 1, none⟩ = some (.int .i64 at_) := cell_of_row w g 1 _ _ _ h1
  have c2 : w.cell? ⟨g, 2, none⟩ = some (.int .i64 0) := cell_of_row w g 2 _ _ _ h1
  have f1 : w.frozen? ⟨g, 1, none⟩ = false := frozen_of_row w g 1 _ _ h1
  have hmax := h2.max
  have hnc := h2.2.1
  have BY := Lib.hid h2
  have hgl : g < w.heap.size := (Array.getElem?_eq_some_iff.1 h1).1
  have hd : ¬ (n : Int) - at_ < m := by omega
  have HR := Lib.hid (show Rd w g (a, cap) n l at_ 0 from ⟨h1, h2, h3⟩)
  clear h1 h2 h3
  go_enter Tryz.func160, Tryz.ntmps160
  go_wp2
  go_quiet (fail)
  go_wp2
  have c0' : (w.drewN nq).cell? ⟨g, 0, none⟩ = some (.slice a n cap) := c0
  have c1' : (w.drewN nq).cell? ⟨g, 1, none⟩ = some (.int .i64 at_) := c1
  have HR' := Lib.hid (HR.out.drewN nq)
  have hb2 : Below w.heap.size w (w.drewN nq) := below_drewN (Below.refl _ _) nq
  have HBY := Lib.hid ((BY.out).below hb2)
  clear c0 c1 c2 HR BY
  obtain ⟨w2, hw2⟩ : ∃ w2, w2 = w.drewN nq := ⟨_, rfl⟩
  rw [← hw2] at c0' c1' HR' hb2 HBY ⊢
  clear hw2
  have ew : IntKind.i64.wrap ((at_ : Int) + m) = (at_ : Int) + m := IntWalk.i64_in _ (by omega)
  have e0 : 0 ≤ (at_ : Int) + m := by omega
  have e1 : (at_ : Int) + m ≤ cap := by omega
  have e2 : ((at_ : Int) + m).toNat = at_ + m := by omega
  refine wp_region_tail 15 (by kernel_rfl) (by kernel_rfl) ?_
  simp only [List.take_succ_cons, List.take_zero, List.drop_succ_cons, List.drop_zero]
  repeat still_step
  refine wpStill_nil ?_
  clear ew e0 e1 e2
  obtain ⟨sa, hsa⟩ : ∃ sa, sa = (if cap = at_ then a else Option.map (fun x => x.add at_) a) := ⟨_, rfl⟩
  rw [← hsa]
  have hsl : BytesAt w2.drew sa m (cap - at_) ((l.drop at_).take m) := by
    rw [hsa]; exact (HBY.out.below (w' := w2.drew) (Below.drew (Below.refl _ _))).cut hm
  clear hsa
  have HNO := Lib.hid (World.ownsRow_nil w2.drew w2.heap.size 5 1)
  have c3 : ∀ w3, w2.drew.grownBy w3 none → w3.cell? ⟨g, 1, none⟩ = some (.int .i64 at_) := fun w3 hg => hg.cell c1' (by simp)
  have f3 : ∀ w3, w2.drew.grownBy w3 none → w3.frozen? ⟨g, 1, none⟩ = false := fun w3 hg => by
    rw [World.frozen?_of_block (w := w2) (w' := w3) (a := ⟨g, 1, none⟩) (hg.block g HR'.out.lt (by simp)), World.frozen?_of_block (w := w) (w' := w2) (a := ⟨g, 1, none⟩) (hb2.block g hgl)]
    exact f1
  have C3 := Lib.hid c3
  have F3 := Lib.hid f3
  clear c3 f3
  go_wp2_with (at_builtin; refine wpList_append_bytes rfl _ _ rfl w2.heap.size (.slice none 0 0) 0 [] rfl HNO.out sa m (cap - at_) _ rfl hsl m (by omega) (by omega) (Nat.le_refl _) ?_; intro a1 cap1 w3 ho hg; have c1'' := C3.out w3 hg; have f1'' := F3.out w3 hg)
  go_ret
  have hb3 : Below w2.heap.size w2 w3 := ((Below.refl _ _).drew).grown hg (Nat.le_refl _) (fun k hk => by cases hk)
  have hs3 := setCell_grown w3 g 1 (.int .i64 ((at_ : Int) + m))
  rw [List.nil_append] at ho
  have hlen : ((l.drop at_).take m).length = m := hsl.1
  unfold RawPost
  rw [hlen]
  refine ⟨a1, cap1, rfl, (BytesAt.owned ho).grown hs3 ?_, ((HR'.out.drewN 0).below hb3).set_at (at_ + m), grown_trans (grown_trans (grown_below hb2) (grown_below hb3)) hs3, ?_⟩
  · intro x hx
    subst hx
    have h5 := (ho.lt x.block rfl).1
    have h6 := HR'.out.lt
    intro he
    have : x.block = g := by simpa using he
    omega
  · intro x hx
    subst hx
    have h5 := (ho.lt x.block rfl).1
    have := hb2.size
    omega

theorem rdraw_any (w : World) (g : Nat) (sl : Option Addr × Nat) (n : Nat) (l : List UInt8) (at_ er : Nat) (m : Int) (hr : Rd w g sl n l at_ er) (hat : at_ ≤ n) (hn : n ≤ 140737488355328) :
    Calls Tryz.prog 160 #[.pointer (some ⟨g, 0, none⟩), .int .i64 m] w (RawPost (rRaw l at_ er m).1 w g sl n l (rRaw l at_ er m).2.1 (rRaw l at_ er m).2.2) := by
  have hln : l.length = n := by exact hr.2.1.1
  by_cases he : er = 0
  · subst he
    by_cases hw : m < 0
    · have e : rRaw l at_ 0 m = ([], at_, 1) := by simp only [rRaw]; rw [if_neg (by simp), if_pos hw]
      rw [e]
      exact rdraw_arg w g sl n l at_ m hr hw
    · obtain ⟨k, rfl⟩ := Int.eq_ofNat_of_zero_le (show 0 ≤ m by omega)
      by_cases hs : l.length < at_ + k
      · have e : rRaw l at_ 0 k = ([], at_, 2) := by simp only [rRaw]; rw [if_neg (by simp), if_neg hw, if_pos (by omega)]
        rw [e]
        exact rdraw_short w g sl n l at_ k hr hat (by omega)
      · have e : rRaw l at_ 0 k = ((l.drop at_).take k, at_ + k, 0) := by
          simp only [rRaw]; rw [if_neg (by simp), if_neg hw, if_neg (by omega), Int.toNat_natCast]
        rw [e]
        exact rdraw_ok w g sl n l at_ k hr (by omega) hn
  · have e : rRaw l at_ er m = ([], at_, er) := by simp only [rRaw]; rw [if_pos he]
    rw [e]
    exact rdraw_stuck w g sl n l at_ er m hr he

theorem le2_lt (l : List UInt8) (at_ : Nat) : le ((l.drop at_).take 2) < 65536 := by
  have h1 := le_lt ((l.drop at_).take 2)
  have h2 : ((l.drop at_).take 2).length ≤ 2 := by simp; omega
  have h3 : 256 ^ ((l.drop at_).take 2).length ≤ 256 ^ 2 := Nat.pow_le_pow_right (by omega) h2
  omega

end Go.Proofs.YtjcmphjjkeigjaaGreat

namespace Go.Proofs.YtjcmphjjkeigjaaGreat
open Go.RowKit
set_option linter.unusedVariables false
set_option linter.unusedSimpArgs false
set_option maxRecDepth 100000

theorem list_beq (l m : List UInt8) : (l == m) = decide (l = m) := by
  by_cases h : l = m
  · subst h; simp
  · rw [decide_eq_false h]
    exact beq_eq_false_iff_ne.2 h
theorem results_cell_slot1 {P : Program} {fn : Func} {p q : Tmp} {ty : TypeId} (h : fn.results = #[.cell p ty, .tmp q]) (tmps : Array Value) (w : World) (g : Nat) (t : TypeId) (cs : Array Value) (fr : Nat × Nat) (d : TypeDesc) (v : Value)
    (hp : tmps.getD p undef = .pointer (some ⟨g, 0, none⟩)) (hg : w.heap[g]? = some (.cells cs t fr)) (hq : tmps.getD q undef = v)
    (hu : P.underlying ty = some d) (hd : (match d with | .struct _ | .array _ _ => true | _ => false) = true) (hi : (P.info? ty).map (·.size) = some cs.size) :
    (results fn tmps).run P w = .ok (.tuple #[.agg cs, v]) w := by
  have hp' : tmps[p]?.getD undef = .pointer (some ⟨g, 0, none⟩) := by simpa using hp
  have hq' : tmps[q]?.getD undef = v := by simpa using hq
  simp [results, h, hp', hq', asAddr, run_loadVar_row w g t ty cs fr d hg hu hd hi]

theorem equal_anyT (a : Option Addr) (n cap : Nat) (l : List UInt8) (b : Option Addr) (m c : Nat) (q : List UInt8) (w : World) (hl : BytesAt w a n cap l) (hq : BytesAt w b m c q) :
    Calls Tryz.prog 118 #[.slice a n cap, .slice b m c] w fun e w' => e = .returned (.bool (decide (l = q))) ∧ w = w' := by
  have h1 := hl.conv
  have h2 := hq.conv
  have HS := Lib.hid (list_beq l q)
  clear hl hq
  go_enter Tryz.func118, Tryz.ntmps118
  go_wp2
  go_ret
  exact ⟨congrArg (fun b => Ending.returned (.bool b)) HS.out, rfl⟩

theorem rdnum_le (w : World) (g : Nat) (sl : Option Addr × Nat) (n : Nat) (l : List UInt8) (at_ wd : Nat) (hr : Rd w g sl n l at_ 0) (h1 : 1 ≤ wd) (h2 : wd ≤ 8) (h3 : at_ + wd ≤ n) :
    Calls Tryz.prog 161 #[.pointer (some ⟨g, 0, none⟩), .int .i64 wd] w (RdPost (.int .u64 (le ((l.drop at_).take wd) : Nat)) w g sl n l (at_ + wd) 0) :=
  rdnum_good w g sl n l at_ wd _ hr (by have := hr.2.1.max; omega) (fun a cap u hb => num_ok a n cap l at_ wd u h1 h2 h3 hb)

theorem le_one (l : List UInt8) (i : Nat) (h : i < l.length) : le ((l.drop i).take 1) = (l.getD i 0).toNat := by
  rw [List.drop_eq_getElem_cons h, List.take_succ_cons, List.take_zero]
  show l[i].toNat + 256 * 0 = _
  simp [List.getD, List.getElem?_eq_getElem h]

theorem sizeNode : (Tryz.prog.info? 240).map (·.size) = some 2 := by kernel_rfl
def nodeZ : Array Value := #[.int .u64 0, .slice none 0 0]
def NodePost (l : List UInt8) (w : World) (e : Ending) (w' : World) : Prop :=
  Below w.heap.size w w' ∧ ((isP l = false ∧ e = .returned (.tuple #[.agg nodeZ, .bool false])) ∨
    (isP l = true ∧ ∃ a n cap, e = .returned (.tuple #[.agg #[.int .u64 (kindL l : Nat), .slice a n cap], .bool true]) ∧ Recs pairC w' 114 2 (.slice a n cap) (entsOf l) ∧ ∀ q, (Value.slice a n cap).ownBlock = some q → w.heap.size ≤ q))

/-- between two rounds of nodeOf's loop -/
structure NdW (w : World) (g B5 : Nat) (sl : Option Addr × Nat) (l : List UInt8) (k j : Nat) (W : World) : Prop where
  rd : Rd W g sl 128 l (2 + ewN k * j) 0
  b2 : W.heap[w.heap.size]? = some (.cells nodeZ 240 (0, 0))
  bel : Below w.heap.size w W
  hg : w.heap.size < g ∧ g < B5
  hsl : ∀ x, sl.1 = some x → w.heap.size < x.block ∧ x.block < g
  box : ∃ a n cap, W.heap[B5]? = some (.cells #[.int .u64 (k : Int), .slice a n cap] 240 (0, 0)) ∧ Recs pairC W 114 2 (.slice a n cap) ((entsOf l).take j) ∧ ∀ q, (Value.slice a n cap).ownBlock = some q → g < q

theorem ents_succ (l : List UInt8) (j : Nat) (h : j < cntL l) : (entsOf l).take (j + 1) = (entsOf l).take j ++ [entAt (kindL l) l j] := by
  rw [List.take_succ_eq_append_getElem (by rw [entsOf_length]; exact h)]
  simp [entsOf]

theorem all_node (v : Value) (h : v.oneCell' = true) (k : Int) : (#[.int .u64 k, v] : Array Value).all (·.oneCell') = true := by simp [h, show (Value.int .u64 k).oneCell' = true from rfl]

set_option maxHeartbeats 4000000 in
theorem nodeOf_any (a : Option Addr) (n cap : Nat) (l : List UInt8) (w : World) (hl : BytesAt w a n cap l) :
    Calls Tryz.prog 163 #[.slice a n cap] w (NodePost l w) := by
  have HL := Lib.hid hl
  have hlen := hl.1
  have hmx := hl.max
  clear hl
  have hz0 : Below w.heap.size w (w.alloc (.cells nodeZ 240)) := (Below.refl _ w).alloc (Nat.le_refl _) _
  have HZ0 := Lib.hid hz0
  have HBX0 := Lib.hid (heap_alloc_new w (.cells nodeZ 240))
  have HSN := Lib.hid (show (Tryz.prog.info? 240).map (·.size) = some nodeZ.size from sizeNode)
  have HAN := Lib.hid (show nodeZ.all (·.oneCell') = true from all_node _ rfl 0)
  clear hz0
  by_cases h128 : n = 128
  · subst h128
    have hlr := HL.out.below HZ0.out
    have CR := Lib.hid (read_any a 128 cap l _ hlr (by omega))
    clear hlr
    go_enter Tryz.func163, Tryz.ntmps163
    go_wp2_with fail
    refine (CR.out).mono ?_
    rintro e w1 ⟨g, sl, rfl, hg, hr, hsl, hb1⟩
    clear CR
    have hk0 : le ((l.drop 0).take 1) = kindL l := le_one l 0 (by omega)
    have hk1 : le ((l.drop 1).take 1) = cntL l := le_one l 1 (by omega)
    have hifp := fun h => isP_iff (l := l) hlen h
    have hnop : mayN (kindL l) (cntL l) = false → isP l = false := fun h => by unfold isP; rw [h]; simp
    have hpos : ∀ j, entAt (kindL l) l j = (le ((l.drop (2 + ewN (kindL l) * j)).take 8), le ((l.drop (10 + ewN (kindL l) * j)).take (vwN (kindL l)))) := fun _ => rfl
    have hent := fun j h => ents_succ l j h
    have hel := entsOf_length l
    have hfit := fits_ents l
    have hkl : kindL l < 256 := (l.getD 0 0).toNat_lt
    have hcl : cntL l < 256 := (l.getD 1 0).toNat_lt
    have hmay := fun h => mayN_size (k := kindL l) (c := cntL l) h
    have C1 := rdnum_le w1 g sl 128 l 0 1 hr (by omega) (by omega) (by omega)
    rw [hk0] at C1
    generalize hK : kindL l = K at *
    generalize hC : cntL l = C at *
    have C1 := Lib.hid C1
    have HIFP := Lib.hid hifp
    have HNOP := Lib.hid hnop
    have HPOS := Lib.hid hpos
    have HENT := Lib.hid hent
    have HEL := Lib.hid hel
    have HFIT := Lib.hid hfit
    have HK1 := Lib.hid hk1
    have HMAY := Lib.hid hmay
    have HK := Lib.hid hK
    have HLEN := Lib.hid hlen
    clear hk0 hk1 hifp hnop hpos hent hel hfit hmay hK hC hlen
    have hb01 : Below w.heap.size w w1 := HZ0.out.trans (hb1.mono HZ0.out.size)
    have hgz : w.heap.size < g := by simp at hg; omega
    have hsl2 : ∀ x, sl.1 = some x → w.heap.size < x.block ∧ x.block < g := fun x hx => by have := hsl x hx; simp at this; omega
    have hbx1 := (hb1.block w.heap.size (by simp)).trans HBX0.out
    have HSN2 := Lib.hid (show (Tryz.prog.info? 240).map (·.size) = some (#[Value.int .u64 (K : Int), Value.slice none 0 0] : Array Value).size from sizeNode)
    have HAN2 := Lib.hid (all_node (.slice none 0 0) rfl K)
    have HL0 := Lib.hid HL.out
    clear hg hsl hb1 hr HL
    go_wp2_with fail
    refine (C1.out).mono ?_
    rintro e w2 ⟨rfl, hr2, hg2⟩
    have hgl2 := hr2.lt
    go_wp2_with (refine wpList_store_row rfl _ _ _ rfl w2.heap.size #[.int .u64 (K : Int), .slice none 0 0] rfl rfl 240 _ (heap_alloc_new w2 _) HSN2.out rfl HAN2.out ?_)
    have hnew : Below w2.heap.size w2 ((w2.alloc (.cells #[.int .u64 0, .slice none 0 0] 240)).setRow w2.heap.size #[.int .u64 (K : Int), .slice none 0 0]) := below_setRow ((Below.refl _ _).alloc (Nat.le_refl _) _) (Nat.le_refl _) _
    have hbx5 := heap_setRow_same (w2.alloc (.cells #[.int .u64 0, .slice none 0 0] 240)) w2.heap.size #[.int .u64 (K : Int), .slice none 0 0] _ _ (heap_alloc_new w2 _)
    have hb02 : Below w.heap.size w w2 := hb01.grown hg2 hb01.size (fun k hk => by cases hk; omega)
    have hbx2 := (hg2.block w.heap.size (Nat.lt_of_lt_of_le (by have := (Array.getElem?_eq_some_iff.1 hbx1).1; exact this) (Nat.le_refl _)) (by simp; omega)).trans hbx1
    have hlt2 := (Array.getElem?_eq_some_iff.1 hbx2).1
    have hbx3 := (hnew.block w.heap.size hlt2).trans hbx2
    have hr3 := hr2.below hnew
    have hb03 : Below w.heap.size w ((w2.alloc (.cells #[.int .u64 0, .slice none 0 0] 240)).setRow w2.heap.size #[.int .u64 (K : Int), .slice none 0 0]) := hb02.trans (hnew.mono hb02.size)
    have hsz3 : w2.heap.size < ((w2.alloc (.cells #[.int .u64 0, .slice none 0 0] 240)).setRow w2.heap.size #[.int .u64 (K : Int), .slice none 0 0]).heap.size := by simp
    generalize (w2.alloc (.cells #[.int .u64 0, .slice none 0 0] 240)).setRow w2.heap.size #[.int .u64 (K : Int), .slice none 0 0] = w3 at *
    have C2 := rdnum_le w3 g sl 128 l 1 1 hr3 (by omega) (by omega) (by omega)
    rw [HK1.out] at C2
    have C2 := Lib.hid C2
    clear hr2 hg2 hnew hb02 hbx2 hbx1 hb01 hr3 C1
    refine (C2.out).mono ?_
    rintro e w4 ⟨rfl, hr4, hg4⟩
    have hb04 : Below w.heap.size w w4 := hb03.grown hg4 hb03.size (fun k hk => by cases hk; omega)
    have hbx4 := (hg4.block w.heap.size (by omega) (by simp; omega)).trans hbx3
    have hbx45 := (hg4.block w2.heap.size hsz3 (by simp; omega)).trans hbx5
    have hN : NdW w g w2.heap.size sl l K 0 w4 := ⟨by rw [Nat.mul_zero]; exact hr4, hbx4, hb04, ⟨hgz, hgl2⟩, hsl2, none, 0, 0, hbx45, by rw [List.take_zero]; exact Recs.nil _ _ _ _, fun q hq => by simp [Value.ownBlock] at hq⟩
    have HN := Lib.hid hN
    have cK : w4.cell? ⟨w2.heap.size, 0, none⟩ = some (.int .u64 (K : Int)) := by rw [cell_of_row _ _ _ _ _ _ hbx45]; rfl
    have HX4 := Lib.hid hbx4
    have HB4 := Lib.hid hb04
    clear hb04 hbx4 hbx45 hr4 hg4 hb03 hbx3 hbx5 C2 hN
    generalize w2.heap.size = B5 at *
    cases hmy : mayN K C with
    | false =>
      have hp := HNOP.out hmy
      have CM := Lib.hid (mayHave_any K C w4)
      rw [hmy] at CM
      unfold nodeZ at HSN HAN HX4
      go_wp2_with (first | (go_at_call 185; refine (CM.out).mono ?_; rintro e w5 ⟨rfl, rfl⟩) | (refine wpList_store_row rfl _ _ _ rfl w.heap.size #[.int .u64 0, .slice none 0 0] rfl rfl 240 _ HX4.out HSN.out rfl HAN.out ?_))
      exact bodyPost_ret (v := .tuple #[.agg nodeZ, .bool false]) (results_cell_slot1 rfl _ _ w.heap.size 240 nodeZ (0, 0) _ _ rfl (heap_setRow_same _ _ _ _ _ HX4.out) rfl Tryz.underlying240 rfl sizeNode) rfl ⟨below_setRow HB4.out (Nat.le_refl _) _, .inl ⟨hp, rfl⟩⟩
    | true =>
      have CM := Lib.hid (mayHave_any K C w4)
      rw [hmy] at CM
      have hms := HMAY.out hmy
      go_wp2_with (go_at_call 185; refine (CM.out).mono ?_; rintro e w5 ⟨rfl, rfl⟩)
      clear CM cK
      go_loopw [26] (fun i wr => ∃ j : Nat, j ≤ C ∧ i = .int .u64 j ∧ NdW w g B5 sl l K j wr) (fun i _ => C - (intOf i).toNat)
      case atStart => exact ⟨0, Nat.zero_le _, rfl, HN.out⟩
      case round =>
        obtain ⟨j, hj, rfl, hw⟩ := hrel
        clear HN
        have HW := Lib.hid hw
        obtain ⟨hrd, hb2, hbel, ⟨hg1, hg2⟩, hsl3, av, nv, cv, hbox, hrec, hown⟩ := hw
        by_cases hlt : j < C
        · have hq : 2 + ewN K * (j + 1) ≤ 2 + ewN K * C := Nat.add_le_add_left (Nat.mul_le_mul_left _ hlt) 2
          rw [Nat.mul_add, Nat.mul_one] at hq
          have hv8 := vwN_le K
          have hpe := HPOS.out j
          have hen := HENT.out j hlt
          rw [hpe] at hen
          have hew : ewN K = 8 + vwN K := rfl
          have D1 := rdnum_le wr g sl 128 l (2 + ewN K * j) 8 hrd (by omega) (by omega) (by omega)
          have hnx : 2 + ewN K * j + 8 + vwN K = 2 + ewN K * (j + 1) := by rw [Nat.mul_add, Nat.mul_one]; omega
          have h10 : 2 + ewN K * j + 8 = 10 + ewN K * j := by omega
          have hin : 2 + ewN K * j + 8 + vwN K ≤ 128 := by omega
          generalize hA : le ((l.drop (2 + ewN K * j)).take 8) = A at *
          have D1 := Lib.hid D1
          have HEN := Lib.hid hen
          have HNX := Lib.hid hnx
          have HIN := Lib.hid hin
          have HV8 := Lib.hid hv8
          have HREC := Lib.hid hrec
          have HBOX := Lib.hid hbox
          have HOWN := Lib.hid hown
          have H10 := Lib.hid h10
          clear hq hpe hen hnx hin hew hrec hbox hown hrd h10 hA hv8
          go_wp2_with fail
          refine (D1.out).mono ?_
          rintro e w5 ⟨rfl, hr5, hg5⟩
          have hlB5 : B5 < wr.heap.size := (Array.getElem?_eq_some_iff.1 HBOX.out).1
          have hbox5 := (hg5.block B5 hlB5 (by simp; omega)).trans HBOX.out
          have hb25 := (hg5.block w.heap.size (by omega) (by simp; omega)).trans hb2
          have hrec5 := HREC.out.keep (w' := w5) fun q hq => hg5.block q (HREC.out.lt q hq) (by have := HOWN.out q hq; simp; omega)
          have hbel5 := hbel.grown hg5 hbel.size (fun k hk => by cases hk; omega)
          have hlB5' : B5 < w5.heap.size := (Array.getElem?_eq_some_iff.1 hbox5).1
          have HR5 := Lib.hid hr5
          have HX5 := Lib.hid hbox5
          have HB25 := Lib.hid hb25
          have HREC5 := Lib.hid hrec5
          have HBEL5 := Lib.hid hbel5
          clear hb2 hbel hr5 hg5 hbox5 hb25 hrec5 hbel5 HREC HBOX D1
          have key : ∀ u : World, u.heap[B5]? = some (.cells #[.int .u64 (K : Int), .slice av nv cv] 240 (0, 0)) → u.cell? ⟨B5, 0, none⟩ = some (.int .u64 (K : Int)) ∧ u.cell? ⟨B5, 1, none⟩ = some (.slice av nv cv) := fun u hu => ⟨by rw [cell_of_row _ _ _ _ _ _ hu]; rfl, by rw [cell_of_row _ _ _ _ _ _ hu]; rfl⟩
          have KEY := Lib.hid key
          clear key
          have hS0 := KEY.out w5.drew HX5.out
          go_upto_region 11 with (fail)
          refine region_head 11 [0, 1, 2, 3, 4, 5, 6, 7, 8, 9, 10] [6, 7, 9, 10] (fun u => u.cell? ⟨B5, 0, none⟩ = some (.int .u64 (K : Int)) ∧ u.cell? ⟨B5, 1, none⟩ = some (.slice av nv cv)) (by kernel_rfl) (by kernel_rfl) hS0 ?_
          simp only [pickO, List.filterMap_cons, List.filterMap_nil, List.getElem?_cons_zero, List.getElem?_cons_succ, Option.map_some, List.drop_succ_cons, List.drop_zero]
          clear hS0
          iterate 6
            refine seqH_read _ rfl rfl (by rintro u ⟨hu1, hu2⟩; go_simp; with_reducible rfl) ?_
            try simp only [Act.put, List.setIfInBounds_toArray, List.set_cons_zero, List.set_cons_succ]
          refine seqH_move rfl rfl (fun Kk hK => ?_)
          go_simp
          refine (valueWidth_any K w5.drew).mono ?_
          rintro e w6 ⟨rfl, rfl⟩
          refine hK _ _ (KEY.out w5.drew HX5.out) ?_
          clear hK Kk
          try simp only [Act.put, List.setIfInBounds_toArray, List.set_cons_zero, List.set_cons_succ]
          have D2 := rdnum_le w5.drew g sl 128 l (2 + ewN K * j + 8) (vwN K) (HR5.out.drewN 1) HV8.out.1 HV8.out.2 HIN.out
          rw [HNX.out, H10.out] at D2
          generalize hV : le ((l.drop (10 + ewN K * j)).take (vwN K)) = V at *
          have D2 := Lib.hid D2
          refine seqH_move rfl rfl (fun Kk hK => ?_)
          go_simp
          refine (D2.out).mono ?_
          rintro e w7 ⟨rfl, hr7, hg7⟩
          have hbox7 := (hg7.block B5 hlB5' (by simp; omega)).trans HX5.out
          have hb27 := (hg7.block w.heap.size (Nat.lt_trans (Nat.lt_trans hg1 hg2) hlB5') (by simp; omega)).trans HB25.out
          have hrec7 := HREC5.out.keep (w' := w7) fun q hq => hg7.block q (HREC5.out.lt q hq) (by have := HOWN.out q hq; simp; omega)
          have hbel7 : Below w.heap.size w w7 := HBEL5.out.drew.grown hg7 HBEL5.out.size (fun k hk => by cases hk; omega)
          refine hK _ _ (KEY.out w7 hbox7) ?_
          clear hK Kk D2 hV
          try simp only [Act.put, List.setIfInBounds_toArray, List.set_cons_zero, List.set_cons_succ]
          refine seqH_read _ rfl rfl (by rintro u ⟨hu1, hu2⟩; go_simp; with_reducible rfl) ?_
          try simp only [Act.put, List.setIfInBounds_toArray, List.set_cons_zero, List.set_cons_succ]
          have hal : Below w7.heap.size w7 (w7.alloc (.cells (pairC (A, V)).toArray 114)) := (Below.refl _ _).alloc (Nat.le_refl _) _
          have hlB7 : B5 < w7.heap.size := (Array.getElem?_eq_some_iff.1 hbox7).1
          have hbox8 := (hal.block B5 hlB7).trans hbox7
          have hb28 := (hal.block w.heap.size (Nat.lt_trans (Nat.lt_trans hg1 hg2) hlB7)).trans hb27
          have hrec8 := hrec7.below hal
          have hr8 := hr7.below hal
          have hbel8 := hbel7.trans (hal.mono hbel7.size)
          have hlen8 : ((entsOf l).take j).length = nv := hrec8.came.1
          have hnv : nv ≤ 255 := by rw [← hlen8, List.length_take]; omega
          obtain ⟨i0, hi0, hz0, hz1, hz2⟩ := info_parts infoPair
          refine seqH_move rfl rfl (fun Kk hK => ?_)
          refine wp_buildSliceV 109 1 _ rfl #[(0, .agg (pairC (A, V)).toArray)] (by simp [go_sem, pairC]) _ _ (built_pair (pairC (A, V)).toArray rfl _) ?_
          refine hK _ _ (KEY.out _ hbox8) ?_
          clear hK Kk
          try simp only [Act.put, List.setIfInBounds_toArray, List.set_cons_zero, List.set_cons_succ]
          refine seqH_move rfl rfl (fun Kk hK => ?_)
          refine wp_append_recs _ _ 109 rfl 114 i0 _ 2 16 Tryz.underlying109 hi0 hz0 hz1 hz2 (by simp [Value.cells]) (by omega) _ _ rfl hrec8 ⟨w7.heap.size, 0, none⟩ 1 1 [(A, V)] rfl rfl (fun y _ => pairC_len y) (fun y _ => pairC_one y) (one_rec (heap_alloc_new w7 _)) (by unfold maxLen; omega) (by omega) ?_
          intro v' w9 hrec9 hg9 hv9
          obtain ⟨a9, c9, hv0, _, _⟩ := hrec9.form
          rw [List.length_append, List.length_singleton] at hv0
          subst hv0
          have hneB5 : some B5 ≠ (Value.slice av nv cv).ownBlock := fun e => hrec8.ne_of hbox8 (by decide) B5 e.symm rfl
          have hneB2 : some w.heap.size ≠ (Value.slice av nv cv).ownBlock := fun e => hrec8.ne_of hb28 (by decide) w.heap.size e.symm rfl
          have hbox9 := (hg9.block B5 (by simp; omega) hneB5).trans hbox8
          have hb29 := (hg9.block w.heap.size (by simp; omega) hneB2).trans hb28
          have hbel9 : Below w.heap.size w w9 := hbel8.grown hg9 hbel8.size (fun q hq => by have := HOWN.out q hq; omega)
          have hown9 : ∀ q, (Value.slice a9 (((entsOf l).take j).length + 1) c9).ownBlock = some q → g < q := fun q hq => by
            rcases hv9 with e | e
            · exact HOWN.out q (e ▸ hq)
            · rw [e] at hq; simp at hq; omega
          have hr9 : Rd w9 g sl 128 l (2 + ewN K * (j + 1)) 0 := by
            refine hr8.agree (hg9.block g (by have := hr8.lt; exact this) (fun e => hrec8.ne_of hr8.1 (by decide) g e.symm rfl)) (fun x hx => hg9.block x.block (by have := (hsl3 x hx).2; simp; omega) (fun e => by have := HOWN.out _ e.symm; have := (hsl3 x hx).2; omega))
          rw [← HEN.out, hlen8] at hrec9
          rw [hlen8] at hown9 ⊢
          refine hK _ _ (KEY.out _ hbox9) ?_
          have HREC9 := Lib.hid hrec9
          have HX9 := Lib.hid hbox9
          have HB29 := Lib.hid hb29
          have HBEL9 := Lib.hid hbel9
          have HOWN9 := Lib.hid hown9
          have HR9 := Lib.hid hr9
          clear hK Kk hal hlB7 hbox8 hb28 hrec8 hr8 hbel8 hrec7 hbox7 hb27 hr7 hg7 hbel7 hneB5 hneB2 hg9 hv9 hrec9 hbox9 hb29 hbel9 hown9 hr9 hi0 hz0 hz1 hz2
          try simp only [Act.put, List.setIfInBounds_toArray, List.set_cons_zero, List.set_cons_succ]
          refine seqH_nil ?_
          have f1 : w9.frozen? ⟨B5, 1, none⟩ = false := frozen_of_row _ _ _ _ _ HX9.out
          have c1 : w9.cell? ⟨B5, 1, none⟩ = some (.slice av nv cv) := (KEY.out _ HX9.out).2
          go_wp2
          have hgs : w9.grownBy (w9.setCell ⟨B5, 1, none⟩ (.slice a9 (nv + 1) c9)) (some B5) := setCell_grown _ _ _ _
          have hb5 := HX9.out
          refine ⟨⟨j + 1, by omega, by go_num, HR9.out.other hgs (by omega) (fun x hx => by have := (hsl3 x hx).2; omega), (hgs.block w.heap.size (Array.getElem?_eq_some_iff.1 HB29.out).1 (by simp; omega)).trans HB29.out, HBEL9.out.grown hgs HBEL9.out.size (fun k hk => by cases hk; omega), ⟨hg1, hg2⟩, hsl3, a9, nv + 1, c9, heap_setCell_same _ _ _ _ _ _ hb5, ?_, HOWN9.out⟩, by simp [intOf]; omega⟩
          exact HREC9.out.keep fun q hq => hgs.block q (HREC9.out.lt q hq) (by have := HREC9.out.ne_of hb5 (by decide) q hq; simpa using this)
        · obtain rfl : j = C := by omega
          rw [List.take_of_length_le (Nat.le_of_eq HEL.out)] at hrec
          have hlen8 : (entsOf l).length = nv := hrec.came.1
          have CP := Lib.hid (page_any K av nv cv (entsOf l) wr hrec.came (by rw [HEL.out]; exact hmy) HFIT.out)
          have c0 : wr.cell? ⟨B5, 0, none⟩ = some (.int .u64 (K : Int)) := by rw [cell_of_row _ _ _ _ _ _ hbox]; rfl
          have c1 : wr.cell? ⟨B5, 1, none⟩ = some (.slice av nv cv) := by rw [cell_of_row _ _ _ _ _ _ hbox]; rfl
          have hlb := HZ0.out
          have HREC := Lib.hid hrec
          have HBOX := Lib.hid hbox
          have HOWN := Lib.hid hown
          have HB2 := Lib.hid hb2
          have HBEL := Lib.hid hbel
          have HIF := Lib.hid (HIFP.out hmy)
          have hy := HL0.out.below hbel
          have HY := Lib.hid hy
          clear hrec hbox hown hb2 hbel hrd hlb hy hlen8
          go_wp2_with fail
          refine (CP.out).mono ?_
          rintro e w5 ⟨a5, c5, rfl, ho5, hb5⟩
          have CE := equal_anyT a5 128 c5 (pageL K (entsOf l)) a 128 cap l w5 (BytesAt.owned ho5) (HY.out.below hb5)
          rw [← HIF.out] at CE
          have CE := Lib.hid CE
          have hbox5 := (hb5.block B5 (Array.getElem?_eq_some_iff.1 HBOX.out).1).trans HBOX.out
          have hb25 := (hb5.block w.heap.size (Array.getElem?_eq_some_iff.1 HB2.out).1).trans HB2.out
          have hrec5 := HREC.out.below hb5
          have hbel5 := HBEL.out.trans (hb5.mono HBEL.out.size)
          have HX5 := Lib.hid hbox5
          have HB25 := Lib.hid hb25
          have HREC5 := Lib.hid hrec5
          have HBEL5 := Lib.hid hbel5
          clear ho5 hb5 hbox5 hb25 hrec5 hbel5 CP c0 c1
          cases hp : isP l with
          | false =>
            rw [hp] at CE
            unfold nodeZ at HSN HAN HB25
            go_wp2_with (first | (go_at_call 118; refine (CE.out).mono ?_; rintro e w6 ⟨rfl, rfl⟩) | (refine wpList_store_row rfl _ _ _ rfl w.heap.size #[.int .u64 0, .slice none 0 0] rfl rfl 240 _ HB25.out HSN.out rfl HAN.out ?_))
            exact bodyPost_ret (v := .tuple #[.agg nodeZ, .bool false]) (results_cell_slot1 rfl _ _ w.heap.size 240 nodeZ (0, 0) _ _ rfl (heap_setRow_same _ _ _ _ _ HB25.out) rfl Tryz.underlying240 rfl sizeNode) rfl ⟨below_setRow HBEL5.out (Nat.le_refl _) _, .inl ⟨hp, rfl⟩⟩
          | true =>
            rw [hp] at CE
            have HSN3 := Lib.hid (show (Tryz.prog.info? 240).map (·.size) = some (#[Value.int .u64 (K : Int), Value.slice av nv cv] : Array Value).size from sizeNode)
            have HAN3 := Lib.hid (all_node (.slice av nv cv) rfl K)
            unfold nodeZ at HB25
            go_wp2_with (first | (go_at_call 118; refine (CE.out).mono ?_; rintro e w6 ⟨rfl, rfl⟩) | (refine wpList_load_row rfl 240 _ rfl B5 rfl 240 _ _ _ HX5.out Tryz.underlying240 rfl HSN3.out ?_) | (refine wpList_store_row rfl _ _ _ rfl w.heap.size #[.int .u64 (K : Int), .slice av nv cv] rfl rfl 240 _ HB25.out HSN3.out rfl HAN3.out ?_))
            have hgs := setRow_grown w5 w.heap.size #[.int .u64 (K : Int), .slice av nv cv]
            refine bodyPost_ret (v := .tuple #[.agg #[.int .u64 (K : Int), .slice av nv cv], .bool true]) (results_cell_slot1 rfl _ _ w.heap.size 240 #[.int .u64 (K : Int), .slice av nv cv] (0, 0) _ _ rfl (heap_setRow_same _ _ _ _ _ HB25.out) rfl Tryz.underlying240 rfl HSN3.out) rfl ⟨below_setRow HBEL5.out (Nat.le_refl _) _, .inr ⟨hp, av, nv, cv, by rw [HK.out], ?_, fun q hq => by have := HOWN.out q hq; omega⟩⟩
            exact HREC5.out.keep fun q hq => hgs.block q (HREC5.out.lt q hq) (by have := HREC5.out.ne_of HB25.out (by decide) q hq; simpa using this)
  · have hp : isP l = false := by unfold isP; rw [decide_eq_false (by omega)]; rfl
    have hne : ¬ (n : Int) = 128 := by omega
    clear hlen
    unfold nodeZ at HSN HAN HBX0 HZ0
    go_enter Tryz.func163, Tryz.ntmps163
    go_wp2_with (refine wpList_store_row rfl _ _ _ rfl w.heap.size #[.int .u64 0, .slice none 0 0] rfl rfl 240 _ HBX0.out HSN.out rfl HAN.out ?_)
    exact bodyPost_ret (v := .tuple #[.agg nodeZ, .bool false]) (results_cell_slot1 rfl _ _ w.heap.size 240 nodeZ (0, 0) _ _ rfl (heap_setRow_same _ _ _ _ _ HBX0.out) rfl Tryz.underlying240 rfl sizeNode) rfl ⟨below_setRow HZ0.out (Nat.le_refl _) _, .inl ⟨hp, rfl⟩⟩

end Go.Proofs.YtjcmphjjkeigjaaGreat
