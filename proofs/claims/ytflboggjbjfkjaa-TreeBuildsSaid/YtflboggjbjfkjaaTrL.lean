/-
  Contract of hamperref06's Build.
-/
import Derived.Test.YtflboggjbjfkjaaTrK
namespace Go.Proofs.Ytflboggjbjfkjaa
open Go.RowKit
set_option linter.unusedVariables false
set_option linter.unusedSimpArgs false
set_option maxRecDepth 100000

theorem parts_lt {m : Nat} (hm : 0 < m) (l : List (Nat × Nat)) (j : Nat) : j < (partsL m l).length ↔ (j = 0 ∨ m * j < l.length) := by
  rw [partsL_length m l hm]
  have := cntP_lt (n := l.length) (m := m) (j := j) hm
  unfold cntP at this
  omega
theorem parts_getD {m : Nat} (hm : 0 < m) (l : List (Nat × Nat)) (j : Nat) (hj : j < (partsL m l).length) : (partsL m l).getD j [] = (l.drop (m * j)).take m := by
  unfold partsL at hj ⊢
  split
  · rename_i h0
    rw [if_pos h0] at hj
    rw [List.eq_nil_of_length_eq_zero h0]
    obtain rfl : j = 0 := by simpa using hj
    simp
  · rename_i h0
    rw [if_neg h0] at hj
    unfold chunk at hj ⊢
    rw [List.length_map, List.length_range] at hj
    simp [List.getD, List.getElem?_range hj]
theorem part_len (m : Nat) (l : List (Nat × Nat)) (j : Nat) : ((l.drop (m * j)).take m).length = min m (l.length - m * j) := by simp
theorem part_at (m : Nat) (l : List (Nat × Nat)) (j t : Nat) (h : t < m) : ((l.drop (m * j)).take m).getD t (0, 0) = l.getD (m * j + t) (0, 0) := by
  simp [List.getD, List.getElem?_take_of_lt h, List.getElem?_drop]

def natC (x : Nat) : List Value := [.int .u64 (x : Int)]
theorem natC_one (x : Nat) : ∀ u ∈ natC x, u.oneCell' = true := by
  intro u hu
  simp only [natC, List.mem_singleton] at hu
  subst hu; rfl
theorem infoU64 : (Try.prog.info? 44).map (fun i => (i.zero, i.size, i.bytes)) = some (some (.int .u64 0), 1, 8) := by kernel_rfl

/-- texts and numbers of the call's own -/
structure BdW (w : World) (out : List (List UInt8)) (least : List Nat) (v3 v4 : Value) (W : World) : Prop where
  o : Recs strC W 9 1 v3 out
  l : Recs natC W 44 1 v4 least
  o3 : ∀ q, v3.ownBlock = some q → w.heap.size ≤ q
  o4 : ∀ q, v4.ownBlock = some q → w.heap.size ≤ q
  bel : Below w.heap.size w W
theorem BdW.below {w W W' : World} {out : List (List UInt8)} {least : List Nat} {v3 v4 : Value} (h : BdW w out least v3 v4 W) (hb : Below W.heap.size W W') : BdW w out least v3 v4 W' :=
  ⟨h.o.below hb, h.l.below hb, h.o3, h.o4, h.bel.trans (hb.mono h.bel.size)⟩
theorem BdW.moreL {w W W' : World} {out : List (List UInt8)} {least : List Nat} {x : Nat} {v3 v4 v' : Value} (h : BdW w out least v3 v4 W) (hr : Recs natC W' 44 1 v' (least ++ [x])) (hg : W.grownBy W' v4.ownBlock) (hv : v'.ownBlock = v4.ownBlock ∨ v'.ownBlock = some W.heap.size) : BdW w out (least ++ [x]) v3 v' W' := by
  refine ⟨h.o.only (Only.of_grown (S := fun q => v4.ownBlock = some q) hg fun k e => e) (h.o.typed (by decide) h.l), hr, h.o3, fun q hq => ?_, h.bel.grown hg h.bel.size fun q hq => h.o4 q hq⟩
  rcases hv with e | e
  · exact h.o4 q (e ▸ hq)
  · rw [e] at hq; have := h.bel.size; simp at hq; omega
theorem BdW.moreO {w W W' : World} {out : List (List UInt8)} {least : List Nat} {x : List UInt8} {v3 v4 v' : Value} (h : BdW w out least v3 v4 W) (hr : Recs strC W' 9 1 v' (out ++ [x])) (hg : W.grownBy W' v3.ownBlock) (hv : v'.ownBlock = v3.ownBlock ∨ v'.ownBlock = some W.heap.size) : BdW w (out ++ [x]) least v' v4 W' := by
  refine ⟨hr, h.l.only (Only.of_grown (S := fun q => v3.ownBlock = some q) hg fun k e => e) (h.l.typed (by decide) h.o), fun q hq => ?_, h.o4, h.bel.grown hg h.bel.size fun q hq => h.o3 q hq⟩
  rcases hv with e | e
  · exact h.o3 q (e ▸ hq)
  · rw [e] at hq; have := h.bel.size; simp at hq; omega

theorem fill_one (z v : Value) (hz : z.cells = #[z]) (hv : v.cells = #[v]) : Instr.fill (fun i => some (i * 1, 1)) ((Array.range (1 * 1)).map fun x => z.cells[x % z.cells.size]!) #[(0, v)].toList = some #[v] := by
  have h : ∀ u ∈ [v], u.cells = #[u] := fun u hu => by simp only [List.mem_singleton] at hu; subst hu; exact hv
  have := fill_whole (fun i => some (i * 1, 1)) ((Array.range (1 * 1)).map fun x => z.cells[x % z.cells.size]!) (([v].zipIdx 0).map fun x => (x.2, x.1)) (rows_side [v] h 0) (by rw [rows_flat [v] h 0]; simp)
  rw [rows_flat [v] h 0] at this
  exact this
theorem built_nat (x : Nat) : ∀ w : World, (Instr.buildSlice 54 1 #[(0, .int .u64 (x : Int))]).run Try.prog w = .ok (.slice (some ⟨w.heap.size, 0, none⟩) 1 1) (w.alloc (.cells (natC x).toArray 44)) := fun w => by
  obtain ⟨i0, hi, hz0, hz1, hz2⟩ := info_parts infoU64
  refine run_buildSlice w _ _ _ _ _ i0 _ Try.underlying54 hi hz0 (by rw [hz1]; omega) (by rw [hz1]; omega) ?_
  rw [hz1]
  exact fill_one _ _ rfl rfl
theorem built_str (l : List UInt8) : ∀ w : World, (Instr.buildSlice 28 1 #[(0, .string ⟨l.toArray⟩)]).run Try.prog w = .ok (.slice (some ⟨w.heap.size, 0, none⟩) 1 1) (w.alloc (.cells (strC l).toArray 9)) := fun w => by
  obtain ⟨i0, hi, hz0, hz1, hz2⟩ := info_parts infoStr
  refine run_buildSlice w _ _ _ _ _ i0 _ Try.underlying28 hi hz0 (by rw [hz1]; omega) (by rw [hz1]; omega) ?_
  rw [hz1]
  exact fill_one _ _ rfl rfl

theorem oct_pages1 : (⟨#[1]⟩ : ByteArray) = ⟨([1] : List UInt8).toArray⟩ := rfl
theorem oct_pages2 : (⟨#[2]⟩ : ByteArray) = ⟨([2] : List UInt8).toArray⟩ := rfl
theorem bodyK_flat (k : Nat) (es : List (Nat × Nat)) (j : Nat) (hj : j < es.length) : bodyK k es (j + 1) = bodyK k es j ++ (leB 8 (es.getD j (0, 0)).1 ++ leB (vwN k) (es.getD j (0, 0)).2) := by
  rw [bodyK_succ k es j hj]; simp

/-- what lies above: the numbers behind place f, each with its place -/
structure Back (least : List Nat) (f : Nat) (s : LvS) : Prop where
  len : f + s.2.length = s.1.length
  lst : least.length = s.1.length
  at_ : ∀ i, i < s.2.length → s.2.getD i (0, 0) = (least.getD (f + i) 0, f + i)
theorem above_at (b : Nat) (ps : List (List (Nat × Nat))) (i : Nat) (hi : i < ps.length) : (aboveL b ps).getD i (0, 0) = (leastL (ps.getD i []), b + i) := by
  unfold aboveL
  simp [List.getD, List.getElem?_range hi]
theorem above_fst (b : Nat) (ps : List (List (Nat × Nat))) (i : Nat) (hi : i < ps.length) : ((aboveL b ps).map (·.1)).getD i 0 = leastL (ps.getD i []) := by
  unfold aboveL
  simp [List.getD, List.getElem?_range hi]
theorem back_level (k : Nat) (pages : List (List UInt8)) (ps : List (List (Nat × Nat))) (pre : List Nat) (hp : pre.length = pages.length) : Back (pre ++ (aboveL pages.length ps).map (·.1)) pages.length (levelL k pages ps) := by
  refine ⟨by simp [levelL, aboveL_length], by simp [levelL, aboveL_length, hp], fun i hi => ?_⟩
  have hi' : i < ps.length := by simpa [levelL, aboveL_length] using hi
  show (aboveL pages.length ps).getD i (0, 0) = _
  rw [above_at _ _ _ hi']
  congr 1
  have := above_fst pages.length ps i hi'
  rw [← this]
  simp only [List.getD]
  rw [List.getElem?_append_right (by omega), hp, Nat.add_sub_cancel_left]
theorem above_takeN (base : Nat) (ps : List (List (Nat × Nat))) (j : Nat) (hj : j < ps.length) : ((aboveL base ps).take (j + 1)).map (·.1) = ((aboveL base ps).take j).map (·.1) ++ [leastL (ps.getD j [])] := by
  rw [above_take base ps j hj, List.map_append]
  rfl

end Go.Proofs.Ytflboggjbjfkjaa
