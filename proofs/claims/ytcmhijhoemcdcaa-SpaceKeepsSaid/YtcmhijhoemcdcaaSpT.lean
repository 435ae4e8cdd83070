/-
  Take.
-/
import Derived.Test.YtcmhijhoemcdcaaSpD
import Derived.Test.YtcmhijhoemcdcaaInv
namespace Go.Proofs.Ytcmhijhoemcdcaa
open Go.RowKit Go.Shelf
attribute [local go_sem] Oper.semAt_some
set_option linter.unusedVariables false
set_option linter.unusedSimpArgs false
set_option maxRecDepth 100000

/-- what Take answers, in new memory -/
def TakeTo (r : List Bool × List Nat × Int) (w : World) (e : Ending) (w' : World) : Prop :=
  ∃ a n cap a' cap', e = .returned (.tuple #[.agg (spV r.1.length a n cap), .slice a' r.2.1.length cap', .int .i64 r.2.2]) ∧
    w'.ownsRow w.heap.size 5 1 (.slice a n cap) n (vals (packB r.1)) ∧ w'.ownsRow w.heap.size 3 1 (.slice a' r.2.1.length cap') r.2.1.length (ivals r.2.1) ∧ Below w.heap.size w w'

theorem wpListIn_store_row {F : Fence} {n : Nat} {P : Program} {ops : Array Oper} {rest : List Oper} {o : Oper} {a : Act} {w : World} {Q : Exit → Act → World → Prop} (hgd : o.guard = none) (ty : TypeId) (x y : Operand) (ho : o.op = .store ty x y)
    (g : Nat) (cells : Array Value) (hx : a.eval x = .pointer (some ⟨g, 0, none⟩)) (hy : a.eval y = .agg cells)
    (t : TypeId) (old : Array Value) (hg : w.heap[g]? = some (.cells old t (0, 0))) (hi : (P.info? ty).map (·.size) = some cells.size)
    (hold : old.size = cells.size) (h1 : cells.all (·.oneCell') = true)
    (h : wpListIn F n P ops Q rest (a.put o.dst undef) (w.setRow g cells)) : wpListIn F n P ops Q (o :: rest) a w := by
  refine wpListIn_plain hgd fun K hK => ?_
  unfold Oper.wpIn
  refine ⟨by simp [Oper.about, ho], ?_⟩
  rw [Oper.semAt_plain F _ _ (by rw [ho]; intro c hc'; cases hc')]
  simp only [execOp, ho, hx, hy, Instr.storeAt, Instr.sureAddr, Sem.run_bind, Sem.run_pure, Result.andThen_ok, run_storeVar_row w g t ty old cells hg hi hold h1]
  exact hK _ _ h

/-- the three boxes -/
def boxes3 (N k : Int) (a : Option Addr) (n cap : Nat) (w : World) : World := ((w.alloc (.cells (spV N a n cap) 24)).alloc (.cells #[.int .i64 k] 3)).alloc (.cells (spV 0 none 0 0) 24)
structure Three (N k : Int) (a : Option Addr) (n cap : Nat) (w u : World) : Prop where
  b0 : u.heap[w.heap.size]? = some (.cells (spV N a n cap) 24 (0, 0))
  b1 : u.heap[w.heap.size + 1]? = some (.cells #[.int .i64 k] 3 (0, 0))
  b2 : u.heap[w.heap.size + 2]? = some (.cells (spV 0 none 0 0) 24 (0, 0))
  sz : w.heap.size + 3 ≤ u.heap.size
  bel : Below w.heap.size w u
theorem Three.start (N k : Int) (a : Option Addr) (n cap : Nat) (w : World) : Three N k a n cap w (boxes3 N k a n cap w) := by
  refine ⟨?_, ?_, ?_, by simp [boxes3], ((((Below.refl _ w).alloc (Nat.le_refl _) _).alloc (by simp) _).alloc (by simp; omega) _)⟩
  · exact (Below.heap_alloc _ _ _ (by simp; omega)).trans (heap_alloc2_old _ _ _)
  · exact (Below.heap_alloc _ _ _ (by simp)).trans (heap_alloc2_new _ _ _)
  · have := heap_alloc_new ((w.alloc (.cells (spV N a n cap) 24)).alloc (.cells #[.int .i64 k] 3)) (.cells (spV 0 none 0 0) 24)
    simpa [boxes3] using this
theorem Three.below {N k : Int} {a : Option Addr} {n cap : Nat} {w u u' : World} (h : Three N k a n cap w u) (hb : Below u.heap.size u u') : Three N k a n cap w u' :=
  ⟨(hb.block _ (by have := h.sz; omega)).trans h.b0, (hb.block _ (by have := h.sz; omega)).trans h.b1, (hb.block _ (by have := h.sz; omega)).trans h.b2, Nat.le_trans h.sz hb.size, h.bel.trans (hb.mono (by have := h.sz; omega))⟩
theorem Three.cells {N k : Int} {a : Option Addr} {n cap : Nat} {w u : World} (h : Three N k a n cap w u) :
    u.cell? ⟨w.heap.size, 0, none⟩ = some (.int .i64 N) ∧ u.cell? ⟨w.heap.size, 1, none⟩ = some (.slice a n cap) ∧ u.cell? ⟨w.heap.size + 1, 0, none⟩ = some (.int .i64 k) :=
  ⟨(sp_cells h.b0).1, (sp_cells h.b0).2, by rw [cell_of_row _ _ _ _ _ _ h.b1]; rfl⟩

theorem take_no (N k : Int) (a : Option Addr) (n cap : Nat) (l : List UInt8) (w : World) (hb : BytesAt w a n cap l) (h : mayS N l = false) :
    Calls Try.prog 18 #[.agg (spV N a n cap), .int .i64 k] w (TakeTo ([], [], 1) w) := by
  have h3 := Three.start N k a n cap w
  have CM := Lib.hid (may_any N a n cap l _ (hb.below h3.bel))
  rw [h] at CM
  have H3 := Lib.hid h3
  clear hb h h3
  unfold boxes3 spV at CM
  unfold spV
  go_enter Try.func18, Try.ntmps18
  go_wp2_with fail
  refine (CM.out).mono ?_
  rintro e w1 ⟨rfl, hb1⟩
  have k3 := H3.out.below hb1
  have hx := k3.b2
  have hbel := k3.bel
  clear hb1 CM
  go_wp2_with (refine wpList_store_row rfl _ _ _ rfl (w.heap.size + 2) (spV 0 none 0 0) rfl rfl 24 _ hx sizeSp rfl (spV_one _ _ _ _) ?_)
  exact bodyPost_ret (v := .tuple #[.agg (spV 0 none 0 0), .slice none 0 0, .int .i64 1]) (results_cell_slots rfl _ _ (w.heap.size + 2) 24 (spV 0 none 0 0) (0, 0) _ _ _ rfl (heap_setRow_same _ _ _ _ _ hx) rfl rfl Try.underlying24 rfl sizeSp) rfl ⟨none, 0, 0, none, 0, rfl, World.ownsRow_nil _ _ _ _, World.ownsRow_nil _ _ _ _, below_setRow hbel (by omega) _⟩

theorem take_neg (N k : Int) (a : Option Addr) (n cap : Nat) (F : List Bool) (w : World) (h : SpAt w N a n cap F) (hk : k < 0) :
    Calls Try.prog 18 #[.agg (spV N a n cap), .int .i64 k] w (TakeTo ([], [], 1) w) := by
  have h3 := Three.start N k a n cap w
  have CM := Lib.hid ((h.below h3.bel).may)
  have H3 := Lib.hid h3
  clear h h3
  unfold boxes3 spV at CM
  unfold spV
  have h0 : decide (k < 0) = true := by simpa using hk
  clear hk
  go_enter Try.func18, Try.ntmps18
  go_wp2_with fail
  refine (CM.out).mono ?_
  rintro e w1 ⟨rfl, hb1⟩
  have k3 := H3.out.below hb1
  have hx := k3.b2
  have hbel := k3.bel
  obtain ⟨c0, c1, c2⟩ := k3.cells
  clear hb1 CM
  go_wp2_with (refine wpList_store_row rfl _ _ _ rfl (w.heap.size + 2) (spV 0 none 0 0) rfl rfl 24 _ hx sizeSp rfl (spV_one _ _ _ _) ?_)
  exact bodyPost_ret (v := .tuple #[.agg (spV 0 none 0 0), .slice none 0 0, .int .i64 1]) (results_cell_slots rfl _ _ (w.heap.size + 2) 24 (spV 0 none 0 0) (0, 0) _ _ _ rfl (heap_setRow_same _ _ _ _ _ hx) rfl rfl Try.underlying24 rfl sizeSp) rfl ⟨none, 0, 0, none, 0, rfl, World.ownsRow_nil _ _ _ _, World.ownsRow_nil _ _ _ _, below_setRow hbel (by omega) _⟩

/-! ### what has been made of region 5's four new things, whichever came first -/
def I1 (B : Nat) (F : List Bool) (u : World) (x : Value) : Prop := ∃ ac nc cc, x = .agg (spV F.length ac nc cc) ∧ u.ownsRow B 5 1 (.slice ac nc cc) nc (vals (packB F))
def I3 (B M : Nat) (u : World) (x : Value) : Prop := ∃ g, x = .slice (some ⟨g, 0, none⟩) 0 M ∧ u.ownsRow B 3 1 (.slice (some ⟨g, 0, none⟩) 0 M) 0 []
def I4 (B : Nat) (u : World) (x y : Value) (b : Bool) : Prop := ∃ g c, x = .pointer (some ⟨g, 0, none⟩) ∧ B ≤ g ∧ u.heap[g]? = some (.cells c 24 (0, 0)) ∧ c.size = 2 ∧ (b = true → y = .agg c)
def I5 (B : Nat) (u : World) (x y : Value) (b : Bool) : Prop := ∃ g c, x = .pointer (some ⟨g, 0, none⟩) ∧ B ≤ g ∧ u.heap[g]? = some (.cells #[c] 34 (0, 0)) ∧ (b = true → y = c)
section
variable {B M : Nat} {F : List Bool} {u u' : World} {x y : Value} {b : Bool}
theorem I1.below (h : I1 B F u x) (hb : Below u.heap.size u u') : I1 B F u' x := by
  obtain ⟨ac, nc, cc, e, ho⟩ := h
  exact ⟨ac, nc, cc, e, owned_below ho hb⟩
theorem I3.below (h : I3 B M u x) (hb : Below u.heap.size u u') : I3 B M u' x := by
  obtain ⟨g, e, ho⟩ := h
  exact ⟨g, e, owned_below ho hb⟩
theorem I4.below (h : I4 B u x y b) (hb : Below u.heap.size u u') : I4 B u' x y b := by
  obtain ⟨g, c, e, h1, h2, h3⟩ := h
  exact ⟨g, c, e, h1, (hb.block g (Array.getElem?_eq_some_iff.1 h2).1).trans h2, h3⟩
theorem I4.other {z : Value} (h : I4 B u x y b) (hb : b = false) : I4 B u x z b := by
  obtain ⟨g, c, e, h1, h2, h3, h4⟩ := h
  exact ⟨g, c, e, h1, h2, h3, fun h => by rw [hb] at h; cases h⟩
theorem I5.other {z : Value} (h : I5 B u x y b) (hb : b = false) : I5 B u x z b := by
  obtain ⟨g, c, e, h1, h2, h3⟩ := h
  exact ⟨g, c, e, h1, h2, fun h => by rw [hb] at h; cases h⟩
theorem I5.below (h : I5 B u x y b) (hb : Below u.heap.size u u') : I5 B u' x y b := by
  obtain ⟨g, c, e, h1, h2, h3⟩ := h
  exact ⟨g, c, e, h1, (hb.block g (Array.getElem?_eq_some_iff.1 h2).1).trans h2, h3⟩
end

theorem flipF_len (P : List Nat) : ∀ F : List Bool, (flipF F P).length = F.length := by
  induction P with
  | nil => intro F; rfl
  | cons p P ih => intro F; show (flipF (F.set p _) P).length = _; rw [ih, List.length_set]
theorem flipF_snoc (F : List Bool) (P : List Nat) (p : Nat) : flipF F (P ++ [p]) = (flipF F P).set p (!(flipF F P).getD p false) := by simp [flipF, List.foldl_append]

/-- between two rounds of Take's loop -/
structure TkI (w : World) (B Bs M g4 g5 : Nat) (a : Option Addr) (n cap : Nat) (F : List Bool) (ac : Option Addr) (nc cc : Nat) (pre : List (Fin F.length)) (W : World) : Prop where
  b1 : W.heap[w.heap.size + 1]? = some (.cells #[.int .i64 (M : Int)] 3 (0, 0))
  b2 : W.heap[w.heap.size + 2]? = some (.cells (spV 0 none 0 0) 24 (0, 0))
  hs : W.heap[Bs]? = some (.cells (spV F.length a n cap) 24 (0, 0))
  h4 : W.heap[g4]? = some (.cells (spV F.length ac nc cc) 24 (0, 0))
  bits : W.ownsRow B 5 1 (.slice ac nc cc) nc (vals (packB (flipF F (pre.map (·.1)))))
  h5 : ∃ av cv, W.heap[g5]? = some (.cells #[.slice av pre.length cv] 34 (0, 0)) ∧ W.ownsRow B 3 1 (.slice av pre.length cv) pre.length (ivals (pre.map (·.1)))
  bel : Below w.heap.size w W
  len : pre.length ≤ M
theorem cells_kept {X Y : World} {row : Option Nat} {j : Nat} {c : Array Value} {t : TypeId} {fr : Nat × Nat} (h : X.heap[j]? = some (.cells c t fr)) (hg : X.grownBy Y row) (hr : ∀ r, row = some r → ∃ o : Obj, X.heap[r]? = some o ∧ o.isCells = false) : Y.heap[j]? = some (.cells c t fr) := by
  refine (hg.block j (Array.getElem?_eq_some_iff.1 h).1 (fun e => ?_)).trans h
  obtain ⟨o, ho, hc⟩ := hr j e.symm
  rw [h] at ho
  cases ho
  cases hc
theorem owned_kept {X Y : World} {row : Option Nat} {base sz k : Nat} {t : TypeId} {v : Value} {xs : List Value} (h : X.ownsRow base t sz v k xs) (hg : X.grownBy Y row) (hr : ∀ r, row = some r → ∃ o : Obj, X.heap[r]? = some o ∧ o.isCells = false) : Y.ownsRow base t sz v k xs := by
  refine ⟨h.1, ?_⟩
  rcases h.2 with hn | ⟨g, cap, cur, rfl, hbg, hg', rest⟩
  · exact .inl hn
  · exact .inr ⟨g, cap, cur, rfl, hbg, cells_kept hg' hg hr, rest⟩
theorem TkI.own {w : World} {B0 B Bs M g4 g5 : Nat} {a : Option Addr} {n cap : Nat} {F : List Bool} {ac : Option Addr} {nc cc : Nat} (hB : w.heap.size ≤ B0) : OwnFrom B0 (TkI w B Bs M g4 g5 a n cap F ac nc cc) := by
  intro pre X Y row h hg hr
  have hr' : ∀ r, row = some r → ∃ o : Obj, X.heap[r]? = some o ∧ o.isCells = false := fun r e => (hr r e).2
  obtain ⟨av, cv, h5, h6⟩ := h.h5
  exact ⟨cells_kept h.b1 hg hr', cells_kept h.b2 hg hr', cells_kept h.hs hg hr', cells_kept h.h4 hg hr', owned_kept h.bits hg hr', ⟨av, cv, cells_kept h5 hg hr', owned_kept h6 hg hr'⟩, h.bel.grown hg h.bel.size (fun k e => Nat.le_trans hB (hr k e).1), h.len⟩
/-- a round has left by the break -/
def TkX (w : World) (B Bs M g4 g5 : Nat) (a : Option Addr) (n cap : Nat) (F : List Bool) (ac : Option Addr) (nc cc : Nat) (c : Code) (pre : List (Fin F.length)) (W : World) : Prop :=
  c = .exit 0 ∧ ∃ ini last, pre = ini ++ [last] ∧ ini.length = M ∧ TkI w B Bs M g4 g5 a n cap F ac nc cc ini W
theorem TkX.own {w : World} {B0 B Bs M g4 g5 : Nat} {a : Option Addr} {n cap : Nat} {F : List Bool} {ac : Option Addr} {nc cc : Nat} {c : Code} (hB : w.heap.size ≤ B0) : OwnFrom B0 (TkX w B Bs M g4 g5 a n cap F ac nc cc c) := by
  rintro pre X Y row ⟨h1, ini, last, h2, h3, h4⟩ hg hr
  exact ⟨h1, ini, last, h2, h3, TkI.own hB ini X Y row h4 hg hr⟩
theorem keepsFrom_only {B g : Nat} {W W' : World} {c : Array Value} {t : TypeId} {fr : Nat × Nat} (h : Only (· = g) W W') (hg : W.heap[g]? = some (.cells c t fr)) : KeepsFrom B W W' :=
  ⟨h.size, fun k o _ h0 hc => by
    refine (h.block k (Array.getElem?_eq_some_iff.1 h0).1 (fun e => ?_)).trans h0
    subst e; rw [hg] at h0; cases h0; cases hc⟩

/-- within a round: the page is flipped, and not yet told -/
structure TkJ (w : World) (B Bs M g4 g5 : Nat) (a : Option Addr) (n cap : Nat) (F : List Bool) (ac : Option Addr) (nc cc : Nat) (pre : List (Fin F.length)) (x : Fin F.length) (W : World) : Prop where
  b1 : W.heap[w.heap.size + 1]? = some (.cells #[.int .i64 (M : Int)] 3 (0, 0))
  b2 : W.heap[w.heap.size + 2]? = some (.cells (spV 0 none 0 0) 24 (0, 0))
  hs : W.heap[Bs]? = some (.cells (spV F.length a n cap) 24 (0, 0))
  h4 : W.heap[g4]? = some (.cells (spV F.length ac nc cc) 24 (0, 0))
  bits : W.ownsRow B 5 1 (.slice ac nc cc) nc (vals (packB (flipF F ((pre ++ [x]).map (·.1)))))
  h5 : ∃ av cv, W.heap[g5]? = some (.cells #[.slice av pre.length cv] 34 (0, 0)) ∧ W.ownsRow B 3 1 (.slice av pre.length cv) pre.length (ivals (pre.map (·.1)))
  bel : Below w.heap.size w W
theorem TkI.flip {w : World} {B B0 Bs M g4 g5 : Nat} {a : Option Addr} {n cap : Nat} {F : List Bool} {ac : Option Addr} {nc cc : Nat} {pre : List (Fin F.length)} {W : World}
    (h : TkI w B Bs M g4 g5 a n cap F ac nc cc pre W) (x : Fin F.length) (hF : F.length ≤ 2048) (hB : w.heap.size + 3 ≤ B) :
    Calls Try.prog 30 #[.agg #[.int .i64 (F.length : Int), .slice ac nc cc], .int .i64 (x.1 : Int)] W fun e W1 => e = .returned (.tuple #[]) ∧ TkJ w B Bs M g4 g5 a n cap F ac nc cc pre x W1 ∧ KeepsFrom B0 W W1 ∧ KpS w.heap.size Bs W W1 := by
  have hxl : x.1 < (flipF F (pre.map (·.1))).length := by rw [flipF_len]; exact x.2
  obtain ⟨gb, rfl⟩ : ∃ gb, ac = some ⟨gb, 0, none⟩ := by
    rcases h.bits.2 with ⟨h', h0⟩ | ⟨g', cap', cur, h', _⟩
    · have := h.bits.1; rw [vals_length, packB_length, flipF_len] at this; have := x.2; omega
    · simp only [Value.slice.injEq] at h'; exact ⟨g', h'.1⟩
  have hfl : (flipF F (pre.map (·.1))).length ≤ 2048 := by rw [flipF_len]; exact hF
  have hsn := flipF_snoc F (pre.map (·.1)) x.1
  have hbits := h.bits
  generalize flipF F (pre.map (·.1)) = G at *
  have CF := flip_any (F.length : Int) x.1 B gb nc cc G W hxl hfl hbits
  rw [← hsn] at CF
  obtain ⟨cur, hgb⟩ : ∃ cur, W.heap[gb]? = some (.cells cur 5 (0, 0)) := by
    rcases h.bits.2 with ⟨h', h0⟩ | ⟨g', cap', cur, h', _, hg, _⟩
    · cases h'
    · simp only [Value.slice.injEq, Option.some.injEq, Addr.mk.injEq, and_true] at h'
      obtain ⟨rfl, _⟩ := h'
      exact ⟨cur, hg⟩
  have hgB : B ≤ gb := (h.bits.lt gb rfl).1
  obtain ⟨av, cv, h5, h6⟩ := h.h5
  unfold spV at CF
  refine CF.mono ?_
  rintro e W1 ⟨rfl, hr, ho⟩
  have keep : ∀ {j : Nat} {c : Array Value} {t : TypeId} {fr : Nat × Nat}, W.heap[j]? = some (.cells c t fr) → t ≠ 5 → W1.heap[j]? = some (.cells c t fr) := by
    intro j c t fr hj ht
    refine (ho.block j (Array.getElem?_eq_some_iff.1 hj).1 (fun e => ?_)).trans hj
    subst e
    rw [hgb] at hj
    injection hj with hj
    injection hj with _ hj
    exact ht hj.symm
  have hbel : Below w.heap.size W W1 := ho.below h.bel.size (fun i hi e => by omega)
  refine ⟨rfl, ⟨keep h.b1 (by decide), keep h.b2 (by decide), keep h.hs (by decide), keep h.h4 (by decide), by simpa using hr, ⟨av, cv, keep h5 (by decide), owned_keep h6 fun k hk => ho.block k (h6.lt k hk).2 (fun e => owned_ne h6 hgb (by decide) k hk e)⟩, h.bel.trans hbel⟩, keepsFrom_only ho hgb, hbel, (keep h.hs (by decide)).trans h.hs.symm⟩
theorem TkJ.told {w : World} {B B0 Bs M g4 g5 : Nat} {a : Option Addr} {n cap : Nat} {F : List Bool} {ac : Option Addr} {nc cc : Nat} {pre : List (Fin F.length)} {x : Fin F.length} {W w1 : World} {av : Option Addr} {cv : Nat} {av' : Option Addr} {cv' : Nat} {tmp : Obj}
    (h : TkJ w B Bs M g4 g5 a n cap F ac nc cc pre x W) (hB : w.heap.size + 3 ≤ B) (hB5 : B ≤ g5) (hlen : pre.length + 1 ≤ M)
    (h5 : W.heap[g5]? = some (.cells #[.slice av pre.length cv] 34 (0, 0))) (hrow : W.ownsRow B 3 1 (.slice av pre.length cv) pre.length (ivals (pre.map (·.1)))) (hBW : B ≤ W.heap.size)
    (hown : w1.ownsRow B 3 1 (.slice av' (pre.length + 1) cv') (pre.length + 1) (ivals (pre.map (·.1)) ++ [.int .i64 (x.1 : Int)])) (hgrow : (W.alloc tmp).grownBy w1 (Value.slice av pre.length cv).ownBlock) :
    Boxed w1 g5 34 (.slice av pre.length cv) ∧ TkI w B Bs M g4 g5 a n cap F ac nc cc (pre ++ [x]) (w1.setCell ⟨g5, 0, none⟩ (.slice av' (pre.length + 1) cv')) ∧ KeepsFrom B0 W (w1.setCell ⟨g5, 0, none⟩ (.slice av' (pre.length + 1) cv')) ∧ KpS w.heap.size Bs W (w1.setCell ⟨g5, 0, none⟩ (.slice av' (pre.length + 1) cv')) := by
  have hv : Boxed W g5 34 (.slice av pre.length cv) := h5
  obtain ⟨hv1, hv2, hr2, hk2, hb2⟩ := hv.appended (by decide) hrow hBW hB5 hown hgrow
  have keep : ∀ {j : Nat} {c : Array Value} {t : TypeId} {fr : Nat × Nat}, W.heap[j]? = some (.cells c t fr) → t ≠ 3 → t ≠ 34 → (w1.setCell ⟨g5, 0, none⟩ (.slice av' (pre.length + 1) cv')).heap[j]? = some (.cells c t fr) := by
    intro j c t fr hj ht ht2
    have hjl := (Array.getElem?_eq_some_iff.1 hj).1
    have e1 : j ≠ g5 := fun e => by
      subst e
      rw [h5] at hj
      injection hj with hj
      injection hj with _ hj
      exact ht2 hj.symm
    have e2 := owned_ne hrow hj (fun e => ht e.symm)
    rw [heap_setCell_other _ _ _ _ e1, hgrow.block j (by simp; omega) (fun e => e2 j e.symm rfl), Below.heap_alloc _ _ _ hjl]
    exact hj
  have hlow : ∀ {j : Nat} {o : Obj}, j < B → W.heap[j]? = some o → (w1.setCell ⟨g5, 0, none⟩ (.slice av' (pre.length + 1) cv')).heap[j]? = some o := fun hj ho => (hb2.block _ hj).trans ho
  refine ⟨hv1, ⟨hlow (by omega) h.b1, keep h.b2 (by decide) (by decide), keep h.hs (by decide) (by decide), keep h.h4 (by decide) (by decide), ?_, ⟨av', cv', by rw [List.length_append]; exact hv2, by rw [List.length_append, List.map_append]; simpa [ivals] using hr2⟩, h.bel.trans (hb2.mono (by omega)), by rw [List.length_append]; exact hlen⟩, hk2.from _, hb2.mono (by omega), (keep h.hs (by decide) (by decide)).trans h.hs.symm⟩
  refine owned_keep h.bits fun k hk => ?_
  rcases h.bits.2 with ⟨h', h0⟩ | ⟨g', cap', cur, h', _, hg, _⟩
  · rw [h'] at hk; simp [Value.ownBlock] at hk
  · rw [h'] at hk
    simp only [Value.ownBlock, Option.some.injEq] at hk
    subst hk
    exact (keep hg (by decide) (by decide)).trans hg.symm

theorem mk_ints (m : Nat) (hm : m ≤ 1048576) (u : World) : (Instr.makeSlice 34 (.int .i64 0) (.int .i64 m)).run Try.prog u = .ok (.slice (some ⟨u.heap.size, 0, none⟩) 0 m) (u.alloc (.cells (madeCells #[.int .i64 0] m) 3)) := by
  obtain ⟨i0, hi, hz0, hz1, hz2⟩ := info_parts infoInt
  have := run_make u 34 3 i0 _ Try.underlying34 hi hz0 .i64 .i64 0 m (by omega) (by omega) (by rw [hz2]; omega) (by omega)
  rw [hz1] at this
  simpa [Value.cells] using this

set_option maxHeartbeats 2000000 in
theorem take_ok (N : Int) (k : Int) (a : Option Addr) (n cap : Nat) (F : List Bool) (w : World) (h : SpAt w N a n cap F) (hk : 0 ≤ k) :
    Calls Try.prog 18 #[.agg (spV N a n cap), .int .i64 k] w (TakeTo (takeR F k) w) := by
  have hnum := h.num
  subst hnum
  have h3 := Three.start F.length k a n cap w
  have CM := Lib.hid ((h.below h3.bel).may)
  have H3 := Lib.hid h3
  have HS := Lib.hid h
  have HF := Lib.hid h.len
  clear h h3
  unfold boxes3 spV at CM
  unfold spV
  have h0 : decide (k < 0) = false := by simp; omega
  refine (callsIn_wide (n := 6)).1 ?_
  refine callsIn_of_wp_marks Try.func18 rfl trivial ?_ rfl
  simp only [Try.ntmps18, List.size_toArray, List.length_cons, List.length_nil, Nat.reduceAdd, Nat.reduceSub, Array.replicate_succ, Array.replicate_zero, List.push_toArray, List.append_toArray, List.nil_append, List.cons_append]
  gi_wp2
  refine ⟨trivial, ?_⟩
  refine (callsIn_wide.2 CM.out).mono ?_
  rintro e w1 ⟨rfl, hb1⟩
  have k3 := H3.out.below hb1
  obtain ⟨c0, c1, c2⟩ := k3.cells
  have K3 := Lib.hid k3
  clear hb1 CM k3
  gi_wp2
  refine wpIn_wide.2 ?_
  have hfc := frees_count F
  have hw3 : IntKind.i64.wrap ((F.length : Int) - (F.count true : Nat)) = ((frees F).length : Nat) := by rw [IntWalk.i64_in _ (by have := HF.out; omega)]; omega
  have CT := Lib.hid (count_ok F.length a n cap F w1.drew ((HS.out.below K3.out.bel).below (Below.refl _ _).drew))
  unfold spV at CT
  have HFC := Lib.hid hfc
  clear hfc
  generalize F.count true = ct at *
  generalize hfr : (frees F).length = fr at *
  have HFR := Lib.hid hfr
  clear hfr
  refine region_head 7 [0, 1, 2, 3, 4, 5, 6] [4] (fun u => u.cell? ⟨w.heap.size, 0, none⟩ = some (.int .i64 (F.length : Int)) ∧ u.cell? ⟨w.heap.size, 1, none⟩ = some (.slice a n cap) ∧ u.cell? ⟨w.heap.size + 1, 0, none⟩ = some (.int .i64 k)) (by kernel_rfl) (by kernel_rfl) ⟨c0, c1, c2⟩ ?_
  simp only [pickO, List.filterMap_cons, List.filterMap_nil, List.getElem?_cons_zero, List.getElem?_cons_succ, Option.map_some, List.drop_succ_cons, List.drop_zero]
  clear c0 c1 c2
  iterate 4
    refine seqH_read _ rfl rfl (by rintro u ⟨hu1, hu2, hu3⟩; go_simp; with_reducible rfl) ?_
    try simp only [Act.put, List.setIfInBounds_toArray, List.set_cons_zero, List.set_cons_succ]
  refine seqH_move rfl rfl (fun K hK => ?_)
  go_simp
  refine (CT.out).mono ?_
  rintro e w2 ⟨rfl, hb2⟩
  have k3 := (K3.out.below (Below.refl w1.heap.size w1).drew).below hb2
  have K4 := Lib.hid k3
  refine hK _ _ k3.cells ?_
  clear hK K k3 hb2 CT
  try simp only [Act.put, List.setIfInBounds_toArray, List.set_cons_zero, List.set_cons_succ]
  iterate 2
    refine seqH_read _ rfl rfl (by rintro u ⟨hu1, hu2, hu3⟩; go_simp; with_reducible rfl) ?_
    try simp only [Act.put, List.setIfInBounds_toArray, List.set_cons_zero, List.set_cons_succ]
  refine seqH_nil ?_
  have hx := K4.out.b2
  have hbel := K4.out.bel
  go_wp2
  gi_wp2_with (refine wpListIn_store_row rfl _ _ _ rfl (w.heap.size + 2) (spV 0 none 0 0) rfl rfl 24 _ hx sizeSp rfl (spV_one _ _ _ _) ?_)
  · have hfull : (fr : Int) < k := by assumption
    have hr : takeR F k = ([], [], 5) := by rw [takeR, if_neg (by omega), HFR.out, if_pos hfull]
    rw [hr]
    exact ⟨.tuple #[.agg (spV 0 none 0 0), .slice none 0 0, .int .i64 5], results_cell_slots rfl _ _ (w.heap.size + 2) 24 (spV 0 none 0 0) (0, 0) _ _ _ rfl (heap_setRow_same _ _ _ _ _ hx) rfl rfl Try.underlying24 rfl sizeSp, none, 0, 0, none, 0, rfl, World.ownsRow_nil _ _ _ _, World.ownsRow_nil _ _ _ _, below_setRow hbel (by omega) _⟩
  · have hle : k ≤ (fr : Int) := by assumption
    obtain ⟨M, rfl⟩ : ∃ M : Nat, k = M := ⟨k.toNat, by omega⟩
    have hMf : M ≤ fr := by omega
    have hM : M ≤ 2048 := by have := HFC.out; have := HF.out; omega
    have hmk := mk_ints M (by omega)
    have CC := Lib.hid (fun u (hb : Below w2.heap.size w2 u) => clone_sp F.length a n cap F u ((HS.out.below K4.out.bel).below hb))
    unfold spV at CC
    refine wpIn_wide.2 ?_
    generalize Value.bool (decide ((fr : Int) < (M : Int))) = v24 at *
    refine region_inv (fun s act u => ∃ x7 x8 x26 x27 x28 x29, act = { tmps := #[.agg #[.int .i64 F.length, .slice a n cap], .int .i64 M, .pointer (some ⟨w.heap.size, 0, none⟩), .pointer (some ⟨w.heap.size + 1, 0, none⟩), .pointer (some ⟨w.heap.size + 1 + 1, 0, none⟩), .slice none 0 0, .int .i64 0, x7, x8, undef, .agg #[.int .i64 F.length, .slice a n cap], .bool true, .bool false, .bool false, .int .i64 M, .bool false, .bool false, undef, .int .i64 M, .pointer (some ⟨w.heap.size, 0, none⟩), .int .i64 F.length, .agg #[.int .i64 F.length, .slice a n cap], .int .i64 ct, .int .i64 fr, v24, undef, x26, x27, x28, x29, undef, undef, undef, undef, undef, undef, undef, undef, undef, undef, undef, undef, undef, undef, undef, undef], defers := [] } ∧
      Below w2.heap.size w2 u ∧ (s 0 = true → x26 = .agg #[.int .i64 F.length, .slice a n cap]) ∧ (s 2 = true → x28 = .int .i64 M) ∧
      (s 1 = true → I1 w2.heap.size F u x27) ∧ (s 3 = true → I3 w2.heap.size M u x29) ∧ (s 4 = true → I4 w2.heap.size u x7 x27 (s 6)) ∧ (s 5 = true → I5 w2.heap.size u x8 x29 (s 7)) ∧ (s 6 = true → s 1 = true ∧ s 4 = true) ∧ (s 7 = true → s 3 = true ∧ s 5 = true)) (by kernel_rfl) (by kernel_rfl) ?start ?steps ?done
    case start => exact ⟨undef, undef, undef, undef, undef, undef, rfl, (Below.refl _ _).drew, fun h => (by cases h), fun h => (by cases h), fun h => (by cases h), fun h => (by cases h), fun h => (by cases h), fun h => (by cases h), fun h => (by cases h), fun h => (by cases h)⟩
    case steps =>
      refine ⟨?s0, ?s1, ?s2, ?s3, ?s4, ?s5, ?s6, ?s7, trivial⟩
      case s0 =>
        rintro s act u hs hd ⟨x7, x8, x26, x27, x28, x29, rfl, hb, i0, i2, i1, i3, i4, i5, j6, j7⟩ K hK
        rw [if_pos (by rfl)]
        dsimp only
        obtain ⟨c0, c1, c2⟩ := (K4.out.below hb).cells
        go_simp
        exact hK _ _ ⟨x7, x8, _, x27, x28, x29, rfl, hb, fun _ => rfl, i2, i1, i3, i4, i5, j6, j7⟩
      case s1 =>
        rintro s act u hs hd ⟨x7, x8, x26, x27, x28, x29, rfl, hb, i0, i2, i1, i3, i4, i5, j6, j7⟩ K hK
        rw [if_pos (by rfl)]
        simp [Region.binds] at hd
        have h26 := i0 hd
        have h6 : s 6 = false := by cases h : s 6 with | false => rfl | true => rw [(j6 h).1] at hs; cases hs
        subst h26
        dsimp only
        have C1 := Lib.hid (CC.out u hb)
        clear CC
        go_simp
        refine (C1.out).mono ?_
        rintro e u1 ⟨a1, n1, cap1, rfl, ho1, hb1⟩
        exact hK _ _ ⟨x7, x8, _, _, x28, x29, rfl, hb.trans (hb1.mono hb.size), fun _ => rfl, i2, fun _ => ⟨a1, n1, cap1, rfl, owned_low ho1 hb.size⟩, fun h => (i3 h).below hb1, fun h => ((i4 h).below hb1).other h6, fun h => (i5 h).below hb1, fun h => (by have h' : s 6 = true := h; rw [h6] at h'; cases h'), j7⟩
      case s2 =>
        rintro s act u hs hd ⟨x7, x8, x26, x27, x28, x29, rfl, hb, i0, i2, i1, i3, i4, i5, j6, j7⟩ K hK
        rw [if_pos (by rfl)]
        dsimp only
        obtain ⟨c0, c1, c2⟩ := (K4.out.below hb).cells
        go_simp
        exact hK _ _ ⟨x7, x8, x26, x27, _, x29, rfl, hb, i0, fun _ => rfl, i1, i3, i4, i5, j6, j7⟩
      case s3 =>
        rintro s act u hs hd ⟨x7, x8, x26, x27, x28, x29, rfl, hb, i0, i2, i1, i3, i4, i5, j6, j7⟩ K hK
        rw [if_pos (by rfl)]
        simp [Region.binds] at hd
        have h28 := i2 hd
        have h7 : s 7 = false := by cases h : s 7 with | false => rfl | true => rw [(j7 h).1] at hs; cases hs
        subst h28
        dsimp only
        have hm := hmk u
        have hbu : Below u.heap.size u (u.alloc (.cells (madeCells #[.int .i64 0] M) 3)) := (Below.refl _ _).alloc (Nat.le_refl _) _
        go_simp
        exact hK _ _ ⟨x7, x8, x26, x27, _, _, rfl, hb.trans (hbu.mono hb.size), i0, fun _ => rfl, fun h => (i1 h).below hbu, fun _ => ⟨u.heap.size, rfl, ⟨rfl, .inr ⟨u.heap.size, M, madeCells #[.int .i64 0] M, rfl, hb.size, heap_alloc_new _ _, Nat.zero_le _, by unfold maxLen; omega, by have := congrArg List.length (toList_madeCells_one (.int .i64 0) M); simpa using this, rfl⟩⟩⟩, fun h => (i4 h).below hbu, fun h => ((i5 h).below hbu).other h7, j6, fun h => (by have h' : s 7 = true := h; rw [h7] at h'; cases h')⟩
      case s4 =>
        rintro s act u hs hd ⟨x7, x8, x26, x27, x28, x29, rfl, hb, i0, i2, i1, i3, i4, i5, j6, j7⟩ K hK
        rw [if_pos (by rfl)]
        dsimp only
        have h6 : s 6 = false := by cases h : s 6 with | false => rfl | true => rw [(j6 h).2] at hs; cases hs
        have hbu : Below u.heap.size u (u.alloc (.cells (spV 0 none 0 0) 24)) := (Below.refl _ _).alloc (Nat.le_refl _) _
        unfold spV at hbu
        go_simp
        exact hK _ _ ⟨_, x8, x26, x27, x28, x29, rfl, hb.trans (hbu.mono hb.size), i0, i2, fun h => (i1 h).below hbu, fun h => (i3 h).below hbu, fun _ => ⟨u.heap.size, _, rfl, hb.size, heap_alloc_new _ _, rfl, fun h => (by have h' : s 6 = true := h; rw [h6] at h'; cases h')⟩, fun h => (i5 h).below hbu, fun h => (by have h' : s 6 = true := h; rw [h6] at h'; cases h'), j7⟩
      case s5 =>
        rintro s act u hs hd ⟨x7, x8, x26, x27, x28, x29, rfl, hb, i0, i2, i1, i3, i4, i5, j6, j7⟩ K hK
        rw [if_pos (by rfl)]
        dsimp only
        have h7 : s 7 = false := by cases h : s 7 with | false => rfl | true => rw [(j7 h).2] at hs; cases hs
        have hbu : Below u.heap.size u (u.alloc (.cells #[.slice none 0 0] 34)) := (Below.refl _ _).alloc (Nat.le_refl _) _
        go_simp
        exact hK _ _ ⟨x7, _, x26, x27, x28, x29, rfl, hb.trans (hbu.mono hb.size), i0, i2, fun h => (i1 h).below hbu, fun h => (i3 h).below hbu, fun h => (i4 h).below hbu, fun _ => ⟨u.heap.size, _, rfl, hb.size, heap_alloc_new _ _, fun h => (by have h' : s 7 = true := h; rw [h7] at h'; cases h')⟩, j6, fun h => (by have h' : s 7 = true := h; rw [h7] at h'; cases h')⟩
      case s6 =>
        rintro s act u hs hd ⟨x7, x8, x26, x27, x28, x29, rfl, hb, i0, i2, i1, i3, i4, i5, j6, j7⟩ K hK
        rw [if_pos (by rfl)]
        simp [Region.binds] at hd
        have hd1 : s 1 = true := by simp_all
        have hd4 : s 4 = true := by simp_all
        obtain ⟨ac, nc, cc, rfl, ho⟩ := i1 hd1
        obtain ⟨g4, c4, rfl, hg4, hc4, hz4, _⟩ := i4 hd4
        refine wp_store_row 24 _ _ rfl g4 (spV F.length ac nc cc) rfl rfl 24 _ hc4 sizeSp (by rw [hz4]; rfl) (spV_one _ _ _ _) ?_
        refine hK _ _ ⟨_, x8, x26, _, x28, x29, rfl, below_setRow hb hg4 _, i0, i2, fun _ => ⟨ac, nc, cc, rfl, owned_setRow ho hc4 (by decide)⟩, fun h => ?_, fun _ => ⟨g4, _, rfl, hg4, heap_setRow_same _ _ _ _ _ hc4, rfl, fun _ => rfl⟩, fun h => ?_, fun _ => ⟨hd1, hd4⟩, j7⟩
        · obtain ⟨g3, e, ho3⟩ := i3 h
          exact ⟨g3, e, owned_setRow ho3 hc4 (by decide)⟩
        · obtain ⟨g5, c5, e, hg5, hc5, h5⟩ := i5 h
          refine ⟨g5, c5, e, hg5, (heap_setRow_other _ _ _ _ (fun e => ?_)).trans hc5, h5⟩
          subst e
          rw [hc4] at hc5
          injection hc5 with hc5
          injection hc5 with _ hc5
          exact absurd hc5 (by decide)
      case s7 =>
        rintro s act u hs hd ⟨x7, x8, x26, x27, x28, x29, rfl, hb, i0, i2, i1, i3, i4, i5, j6, j7⟩ K hK
        rw [if_pos (by rfl)]
        simp [Region.binds] at hd
        have hd3 : s 3 = true := by simp_all
        have hd5 : s 5 = true := by simp_all
        obtain ⟨g3, rfl, ho3⟩ := i3 hd3
        obtain ⟨g5, c5, rfl, hg5, hc5, _⟩ := i5 hd5
        have hcl : u.cell? ⟨g5, 0, none⟩ = some c5 := by rw [cell_of_row _ _ _ _ _ _ hc5]; rfl
        have hfz : u.frozen? ⟨g5, 0, none⟩ = false := frozen_of_row _ _ _ _ _ hc5
        dsimp only
        go_simp
        refine hK _ _ ⟨x7, _, _, x27, _, _, rfl, hb.setCell hg5 _, fun _ => rfl, fun _ => rfl, fun h => ?_, fun _ => ⟨g3, rfl, owned_setCell ho3 hc5 (by decide)⟩, fun h => ?_, fun _ => ⟨g5, _, rfl, hg5, heap_setCell_same _ _ _ _ _ _ hc5, fun _ => rfl⟩, j6, fun _ => ⟨hd3, hd5⟩⟩
        · obtain ⟨ac, nc, cc, e, ho⟩ := i1 h
          exact ⟨ac, nc, cc, e, owned_setCell ho hc5 (by decide)⟩
        · obtain ⟨g4, c4, e, hg4, hc4, hz4, h4⟩ := i4 h
          refine ⟨g4, c4, e, hg4, (heap_setCell_other _ _ _ _ (fun e => ?_)).trans hc4, hz4, h4⟩
          simp only at e
          subst e
          rw [hc4] at hc5
          injection hc5 with hc5
          injection hc5 with _ hc5
          exact absurd hc5 (by decide)
    case done =>
      rintro s act u hall ⟨x7, x8, x26, x27, x28, x29, rfl, hb, i0, i2, i1, i3, i4, i5, j6, j7⟩
      have hs : ∀ i, i < 8 → s i = true := hall
      have e26 := i0 (hs 0 (by omega))
      have e28 := i2 (hs 2 (by omega))
      obtain ⟨ac, nc, cc, e27, hoc⟩ := i1 (hs 1 (by omega))
      obtain ⟨g3, e29, ho3⟩ := i3 (hs 3 (by omega))
      obtain ⟨g4, c4, e7, hg4, hc4, _, h4⟩ := i4 (hs 4 (by omega))
      obtain ⟨g5, c5, e8, hg5, hc5, h5⟩ := i5 (hs 5 (by omega))
      have h6 := h4 (hs 6 (by omega))
      have h7 := h5 (hs 7 (by omega))
      rw [e27] at h6
      rw [e29] at h7
      obtain rfl : c4 = spV F.length ac nc cc := by injection h6 with h6; exact h6.symm
      subst h7 e26 e28 e27 e29 e7 e8
      clear hall hs i0 i1 i2 i3 i4 i5 j6 j7 h4 h5 h6
      have k3 := K4.out.below hb
      obtain ⟨c0, c1, c2⟩ := k3.cells
      have HU := Lib.hid (unused_in 5 F.length a n cap u)
      unfold spV at HU
      dsimp only
      gi_wp2
      refine ⟨trivial, ?_⟩
      refine (HU.out).mono ?_
      rintro e u1 ⟨rfl, rfl⟩
      gi_wp2
      have hbu : Below u.heap.size u (u.alloc (.cells (spV F.length a n cap) 24)) := (Below.refl _ _).alloc (Nat.le_refl _) _
      have k4 := k3.below hbu
      have hz := heap_alloc_new u (.cells (spV F.length a n cap) 24)
      have hoc' := owned_below hoc hbu
      have ho3' := owned_below ho3 hbu
      have hc4' := (hbu.block g4 (Array.getElem?_eq_some_iff.1 hc4).1).trans hc4
      have hc5' := (hbu.block g5 (Array.getElem?_eq_some_iff.1 hc5).1).trans hc5
      have hsz : (u.alloc (.cells (spV F.length a n cap) 24)).heap.size = u.heap.size + 1 := by simp
      have h0 : TkI w w2.heap.size u.heap.size M g4 g5 a n cap F ac nc cc [] (u.alloc (.cells (spV F.length a n cap) 24)) :=
        ⟨k4.b1, k4.b2, hz, hc4', hoc', ⟨_, _, hc5', ho3'⟩, k4.bel, Nat.zero_le _⟩
      have hS0 := HS.out.below k4.bel
      have HSTOP := unused_stops 5 (by omega) u.heap.size w.heap.size F.length a n cap F _ hz hS0 (BytesAt.lt HS.out.oct) k4.bel.size
      have hg4s : w2.heap.size ≤ g4 := hg4
      have hw23 : w.heap.size + 3 ≤ w2.heap.size := K4.out.sz
      have hus : w2.heap.size ≤ u.heap.size := hb.size
      have hgl5 : g5 < u.heap.size := (Array.getElem?_eq_some_iff.1 hc5).1
      have hgl4 : g4 < u.heap.size := (Array.getElem?_eq_some_iff.1 hc4).1
      clear c0 c1 c2 HU k3 k4 hoc ho3 hc4 hc5 hz hoc' ho3' hc4' hc5' hx hbel CC hmk hS0
      unfold spV at *
      generalize u.alloc (.cells #[.int .i64 (F.length : Int), .slice a n cap] 24) = u0 at *
      refine wpIn_rangeFunc_ownG (encs := fun x : Fin F.length => #[.int .i64 (x.1 : Int)]) rfl (by omega) (gf := 34) (lb := #[.pointer (some ⟨u.heap.size, 0, none⟩)]) rfl trivial (enters_of Try.func34 (by kernel_rfl) rfl)
        HSTOP kps_t (kps_b (by omega) (by omega)) (Below.refl _ _) (fun _ => rfl)
        (TkI w w2.heap.size u.heap.size M g4 g5 a n cap F ac nc cc)
        (TkX w w2.heap.size u.heap.size M g4 g5 a n cap F ac nc cc)
        (TkI.own (by omega)) (fun c => TkX.own (by omega)) h0
        (fun x => { tmps := #[.agg #[.int .i64 F.length, .slice a n cap], .int .i64 M, .pointer (some ⟨w.heap.size, 0, none⟩), .pointer (some ⟨w.heap.size + 1, 0, none⟩), .pointer (some ⟨w.heap.size + 1 + 1, 0, none⟩), .slice none 0 0, .int .i64 0, .pointer (some ⟨g4, 0, none⟩), .pointer (some ⟨g5, 0, none⟩), .int .i64 (x.1 : Int), .agg #[.int .i64 F.length, .slice a n cap], .bool true, .bool false, .bool false, .int .i64 M, .bool false, .bool false, undef, .int .i64 M, .pointer (some ⟨w.heap.size, 0, none⟩), .int .i64 F.length, .agg #[.int .i64 F.length, .slice a n cap], .int .i64 ct, .int .i64 fr, v24, undef, .agg #[.int .i64 F.length, .slice a n cap], .agg #[.int .i64 F.length, .slice ac nc cc], .int .i64 M, .slice (some ⟨g3, 0, none⟩) 0 M, .agg #[.int .i64 F.length, .slice a n cap], .func (.func 34) #[] #[.pointer (some ⟨u.heap.size, 0, none⟩)], .int .i64 (x.1 : Int), undef, undef, undef, undef, undef, undef, undef, undef, undef, undef, undef, undef, undef], defers := [] }) ?assign ?body ?fin ?stop
      case assign =>
        intro l x W K hK
        gi_wp2
        exact hK
      case body =>
        rintro l pre x W hI hlt
        dsimp only
        obtain ⟨av, cv, h5, h6⟩ := hI.h5
        have c5 : W.cell? ⟨g5, 0, none⟩ = some (.slice av pre.length cv) := by rw [cell_of_row _ _ _ _ _ _ h5]; rfl
        have c1 : W.cell? ⟨w.heap.size + 1, 0, none⟩ = some (.int .i64 (M : Int)) := by rw [cell_of_row _ _ _ _ _ _ hI.b1]; rfl
        by_cases heq : pre.length = M
        · have HE := Lib.hid heq
          have hd : ((pre.length : Int) == (M : Int)) = true := by rw [heq]; simp
          have HI := Lib.hid hI
          clear heq hI h5 h6
          gi_wp2
          exact ⟨KeepsFrom.refl _ _, rfl, pre, x, rfl, HE.out, HI.out⟩
        · have HE := Lib.hid heq
          have hd : ((pre.length : Int) == (M : Int)) = false := by rw [beq_eq_false_iff_ne]; omega
          clear heq
          have CF := Lib.hid (TkI.flip (B0 := u0.heap.size) hI x HF.out hw23)
          have HI := Lib.hid hI
          obtain ⟨d0, d1⟩ := sp_cells hI.h4
          clear hI h5 h6
          gi_wp2
          refine ⟨trivial, ?_⟩
          refine (CallsIn.inRound l (callsIn_wide.2 CF.out)).mono ?_
          rintro e W1 ⟨rfl, hJ, hk1, hk2⟩
          obtain ⟨av1, cv1, h5, h6⟩ := hJ.h5
          have HJ := Lib.hid hJ
          have HK1 := Lib.hid hk1
          have HK2 := Lib.hid hk2
          have H5 := Lib.hid h5
          have H6 := Lib.hid h6
          have hlen : pre.length + 1 ≤ M := by have := HI.out.len; have := HE.out; omega
          have hBW : w2.heap.size ≤ W1.heap.size := by have := (Array.getElem?_eq_some_iff.1 h5).1; omega
          have c5' : W1.cell? ⟨g5, 0, none⟩ = some (.slice av1 pre.length cv1) := by rw [cell_of_row _ _ _ _ _ _ h5]; rfl
          obtain ⟨i0, hi, hz0, hz1, hz2⟩ := info_parts infoInt
          clear hJ hk1 hk2 h5 h6 c5 c1 d0 d1 CF hd HE
          gi_wp2_with (gi_at_builtin; refine wpListIn_append_own _ rfl _ _ 34 rfl w2.heap.size 3 i0 (.int .i64 0) 1 8 Try.underlying34 hi hz0 hz1 hz2 rfl (by decide) _ _ _ rfl (H6.out.alloc _) ⟨W1.heap.size, 0, none⟩ 1 1 [.int .i64 (x.1 : Int)] rfl rfl (cell_one_new _ _ _) (by simp [Value.oneCell']) (by unfold maxLen; omega) (by omega) (by simp; omega) ?_; intro v' w1' hown' hgrow _; obtain ⟨g', cap', rfl⟩ := ownsRow_succ hown'; obtain ⟨htb, hti, htk, htp⟩ := TkJ.told (B0 := u0.heap.size) HJ.out hw23 hg5 hlen H5.out H6.out hBW hown' hgrow; have hc1 := htb.cell; have hf1 := htb.frozen)
          exact ⟨HK1.out.trans htk, kps_t HK2.out htp, hti⟩
      case fin =>
        rintro D ys W hD hys hI hK
        have hl : ys.length = M := by have h1 := congrArg List.length hys; rw [List.length_map] at h1; have := hI.len; have := HFR.out; omega
        have hP : ys.map (·.1) = (frees F).take M := by rw [List.take_of_length_le (by have h1 := congrArg List.length hys; rw [List.length_map] at h1; omega)]; exact hys
        have HI := Lib.hid hI
        have HD := Lib.hid hK
        have HPM := Lib.hid hP
        have HLM := Lib.hid hl
        obtain ⟨d0, d1⟩ := sp_cells hI.h4
        obtain ⟨av, cv, h5, h6⟩ := hI.h5
        have c5 : W.cell? ⟨g5, 0, none⟩ = some (.slice av ys.length cv) := by rw [cell_of_row _ _ _ _ _ _ h5]; rfl
        have H6 := Lib.hid h6
        have hb2 := hI.b2
        have HB2 := Lib.hid hb2
        have ho5 : g5 ≠ w.heap.size + 2 := by omega
        have ho4 : g4 ≠ w.heap.size + 2 := by omega
        have HB := Lib.hid hI.bits
        clear hI hK hP hl h5 h6 HSTOP hb2
        gi_wp2
        refine wpIn_wide.2 ?_
        refine region_head 3 [0, 1, 2] [2] (fun u => u.cell? ⟨g4, 0, none⟩ = some (.int .i64 (F.length : Int)) ∧ u.cell? ⟨g4, 1, none⟩ = some (.slice ac nc cc) ∧ u.cell? ⟨g5, 0, none⟩ = some (.slice av ys.length cv)) (by kernel_rfl) (by kernel_rfl) ⟨d0, d1, c5⟩ ?_
        simp only [pickO, List.filterMap_cons, List.filterMap_nil, List.getElem?_cons_zero, List.getElem?_cons_succ, Option.map_some, List.drop_succ_cons, List.drop_zero]
        iterate 2
          refine seqH_read _ rfl rfl (by rintro u ⟨hu1, hu2, hu3⟩; go_simp; with_reducible rfl) ?_
          try simp only [Act.put, List.setIfInBounds_toArray, List.set_cons_zero, List.set_cons_succ]
        refine seqH_move rfl rfl (fun K hK => ?_)
        refine wp_store_row 24 _ _ rfl (w.heap.size + 2) (spV F.length ac nc cc) rfl rfl 24 _ HB2.out sizeSp rfl (spV_one _ _ _ _) ?_
        refine hK _ _ ?_ ?_
        · refine ⟨?_, ?_, ?_⟩
          · rw [World.cell?_of_block (w := W.drew) (heap_setRow_other _ _ _ _ ho4)]; exact d0
          · rw [World.cell?_of_block (w := W.drew) (heap_setRow_other _ _ _ _ ho4)]; exact d1
          · rw [World.cell?_of_block (w := W.drew) (heap_setRow_other _ _ _ _ ho5)]; exact c5
        · clear hK K
          refine seqH_nil ?_
          go_wp2
          gi_wp2
          have hDr : (W.drew.setRow (w.heap.size + 2) (spV F.length ac nc cc)).heap[D]? = some (.deferred (some [])) := (heap_setRow_other _ _ _ _ (by omega)).trans HD.out
          have hx2 : (W.drew.setRow (w.heap.size + 2) (spV F.length ac nc cc)).heap[w.heap.size + 2]? = some (.cells (spV F.length ac nc cc) 24 (0, 0)) := heap_setRow_same _ _ _ _ _ HB2.out
          have hrb : (W.drew.setRow (w.heap.size + 2) (spV F.length ac nc cc)).ownsRow w2.heap.size 5 1 (.slice ac nc cc) nc (vals (packB (flipF F (ys.map (·.1))))) := owned_setRow (w := W.drew) HB.out HB2.out (by decide)
          have hri : (W.drew.setRow (w.heap.size + 2) (spV F.length ac nc cc)).ownsRow w2.heap.size 3 1 (.slice av ys.length cv) ys.length (ivals (ys.map (·.1))) := owned_setRow (w := W.drew) H6.out HB2.out (by decide)
          have hbl : Below w.heap.size w (W.drew.setRow (w.heap.size + 2) (spV F.length ac nc cc)) := below_setRow (HI.out.bel.drew) (by omega) _
          refine ⟨by simp, .inl ⟨_, _, rfl, run_takeDeferred hDr, ?_⟩⟩
          generalize W.drew.setRow (w.heap.size + 2) (spV F.length ac nc cc) = W2 at *
          have hlk : (W2.putObj D (.deferred none)).heap[w.heap.size + 2]? = some (.cells (spV F.length ac nc cc) 24 (0, 0)) := (World.putObj_heap_other (by omega)).trans hx2
          have htr : takeR F (M : Int) = (markF F ((frees F).take M), (frees F).take M, 0) := by
            rw [takeR, if_neg (by omega), if_neg (by rw [HFR.out]; omega), Int.toNat_natCast]
          have hlt : ((frees F).take M).length = ys.length := by rw [← HPM.out, List.length_map]
          rw [HPM.out, flip_take] at hrb
          rw [HPM.out] at hri
          rw [htr]
          have hfin := hbl.trans (belowK_b (w := w) (Nat.le_refl _) W2 D _ (.deferred none) (by omega) hDr rfl rfl)
          exact ⟨.tuple #[.agg (spV F.length ac nc cc), .slice av ys.length cv, .int .i64 0], results_cell_slots rfl _ _ (w.heap.size + 2) 24 (spV F.length ac nc cc) (0, 0) _ _ _ rfl hlk rfl rfl Try.underlying24 rfl sizeSp, ac, nc, cc, av, cv, by simp only [markF_len, hlt], owned_low (ownsRow_putObj hrb _ hDr rfl) (by omega), by rw [hlt]; exact owned_low (ownsRow_putObj hri _ hDr rfl) (by omega), hfin⟩
      case stop =>
        rintro D c pre W hD hsp ⟨rfl, ini, last, rfl, hl, hI⟩ hK
        have hP : ini.map (·.1) = (frees F).take M := by
          have h1 : ini.map (·.1) <+: frees F := by rw [List.map_append] at hsp; exact (List.prefix_append _ _).trans hsp
          have h2 := List.prefix_iff_eq_take.1 h1
          rwa [List.length_map, hl] at h2
        have HI := Lib.hid hI
        have HD := Lib.hid hK
        have HPM := Lib.hid hP
        have HLM := Lib.hid hl
        obtain ⟨d0, d1⟩ := sp_cells hI.h4
        obtain ⟨av, cv, h5, h6⟩ := hI.h5
        have c5 : W.cell? ⟨g5, 0, none⟩ = some (.slice av ini.length cv) := by rw [cell_of_row _ _ _ _ _ _ h5]; rfl
        have H6 := Lib.hid h6
        have hb2 := hI.b2
        have HB2 := Lib.hid hb2
        have ho5 : g5 ≠ w.heap.size + 2 := by omega
        have ho4 : g4 ≠ w.heap.size + 2 := by omega
        have HB := Lib.hid hI.bits
        clear hI hK hP hl h5 h6 HSTOP hb2
        gi_wp2
        refine wpIn_wide.2 ?_
        refine region_head 3 [0, 1, 2] [2] (fun u => u.cell? ⟨g4, 0, none⟩ = some (.int .i64 (F.length : Int)) ∧ u.cell? ⟨g4, 1, none⟩ = some (.slice ac nc cc) ∧ u.cell? ⟨g5, 0, none⟩ = some (.slice av ini.length cv)) (by kernel_rfl) (by kernel_rfl) ⟨d0, d1, c5⟩ ?_
        simp only [pickO, List.filterMap_cons, List.filterMap_nil, List.getElem?_cons_zero, List.getElem?_cons_succ, Option.map_some, List.drop_succ_cons, List.drop_zero]
        iterate 2
          refine seqH_read _ rfl rfl (by rintro u ⟨hu1, hu2, hu3⟩; go_simp; with_reducible rfl) ?_
          try simp only [Act.put, List.setIfInBounds_toArray, List.set_cons_zero, List.set_cons_succ]
        refine seqH_move rfl rfl (fun K hK => ?_)
        refine wp_store_row 24 _ _ rfl (w.heap.size + 2) (spV F.length ac nc cc) rfl rfl 24 _ HB2.out sizeSp rfl (spV_one _ _ _ _) ?_
        refine hK _ _ ?_ ?_
        · refine ⟨?_, ?_, ?_⟩
          · rw [World.cell?_of_block (w := W.drew) (heap_setRow_other _ _ _ _ ho4)]; exact d0
          · rw [World.cell?_of_block (w := W.drew) (heap_setRow_other _ _ _ _ ho4)]; exact d1
          · rw [World.cell?_of_block (w := W.drew) (heap_setRow_other _ _ _ _ ho5)]; exact c5
        · clear hK K
          refine seqH_nil ?_
          go_wp2
          gi_wp2
          have hDr : (W.drew.setRow (w.heap.size + 2) (spV F.length ac nc cc)).heap[D]? = some (.deferred (some [])) := (heap_setRow_other _ _ _ _ (by omega)).trans HD.out
          have hx2 : (W.drew.setRow (w.heap.size + 2) (spV F.length ac nc cc)).heap[w.heap.size + 2]? = some (.cells (spV F.length ac nc cc) 24 (0, 0)) := heap_setRow_same _ _ _ _ _ HB2.out
          have hrb : (W.drew.setRow (w.heap.size + 2) (spV F.length ac nc cc)).ownsRow w2.heap.size 5 1 (.slice ac nc cc) nc (vals (packB (flipF F (ini.map (·.1))))) := owned_setRow (w := W.drew) HB.out HB2.out (by decide)
          have hri : (W.drew.setRow (w.heap.size + 2) (spV F.length ac nc cc)).ownsRow w2.heap.size 3 1 (.slice av ini.length cv) ini.length (ivals (ini.map (·.1))) := owned_setRow (w := W.drew) H6.out HB2.out (by decide)
          have hbl : Below w.heap.size w (W.drew.setRow (w.heap.size + 2) (spV F.length ac nc cc)) := below_setRow (HI.out.bel.drew) (by omega) _
          refine ⟨by simp, .inl ⟨_, _, rfl, run_takeDeferred hDr, ?_⟩⟩
          generalize W.drew.setRow (w.heap.size + 2) (spV F.length ac nc cc) = W2 at *
          have hlk : (W2.putObj D (.deferred none)).heap[w.heap.size + 2]? = some (.cells (spV F.length ac nc cc) 24 (0, 0)) := (World.putObj_heap_other (by omega)).trans hx2
          have htr : takeR F (M : Int) = (markF F ((frees F).take M), (frees F).take M, 0) := by
            rw [takeR, if_neg (by omega), if_neg (by rw [HFR.out]; omega), Int.toNat_natCast]
          have hlt : ((frees F).take M).length = ini.length := by rw [← HPM.out, List.length_map]
          rw [HPM.out, flip_take] at hrb
          rw [HPM.out] at hri
          rw [htr]
          have hfin := hbl.trans (belowK_b (w := w) (Nat.le_refl _) W2 D _ (.deferred none) (by omega) hDr rfl rfl)
          exact ⟨.tuple #[.agg (spV F.length ac nc cc), .slice av ini.length cv, .int .i64 0], results_cell_slots rfl _ _ (w.heap.size + 2) 24 (spV F.length ac nc cc) (0, 0) _ _ _ rfl hlk rfl rfl Try.underlying24 rfl sizeSp, ac, nc, cc, av, cv, by simp only [markF_len, hlt], owned_low (ownsRow_putObj hrb _ hDr rfl) (by omega), by rw [hlt]; exact owned_low (ownsRow_putObj hri _ hDr rfl) (by omega), hfin⟩

end Go.Proofs.Ytcmhijhoemcdcaa
