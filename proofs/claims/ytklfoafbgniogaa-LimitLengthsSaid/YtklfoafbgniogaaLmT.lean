/-
  The document's own answers for layer 10 (hamperref10): Merged.
-/
import Derived.Test.YtklfoafbgniogaaLmS
import Derived.Deep.QuietTactic
import Derived.BigQuiet
namespace Go.Proofs.Ytklfoafbgniogaa
open Go.RowKit Go.Deep
set_option linter.unusedVariables false
set_option linter.unusedSimpArgs false
set_option maxRecDepth 100000

/-! ### the maths -/
theorem insI_cut (p : Itm) : ∀ (l : List Itm) (k : Nat), k ≤ l.length → (∀ i x, i < k → l[i]? = some x → x.w ≤ p.w) → (∀ x, l[k]? = some x → p.w < x.w) → insI p l = l.take k ++ p :: l.drop k
  | [], k, hk, _, _ => by obtain rfl : k = 0 := by simpa using hk
                          rfl
  | x :: l, 0, _, _, h2 => by
    have := h2 x rfl
    unfold insI
    rw [if_neg (by omega)]; rfl
  | x :: l, k + 1, hk, h1, h2 => by
    have hx := h1 0 x (by omega) rfl
    unfold insI
    rw [if_pos hx, insI_cut p l k (by simpa using hk) (fun i y hi hy => h1 (i + 1) y (by omega) (by simpa using hy)) (fun y hy => h2 y (by simpa using hy))]
    rfl
/-- so many pairs laid in -/
def mergedTo (C L : List Itm) (q : Nat) : List Itm := ((pairsI L).take q).foldl (fun out p => insI p out) C
theorem mergedTo_zero (C L : List Itm) : mergedTo C L 0 = C := by simp [mergedTo]
theorem mergedTo_all (C L : List Itm) (q : Nat) (h : L.length < 2 * q + 2) : mergedTo C L q = mergedI C L := by
  unfold mergedTo mergedI
  rw [List.take_of_length_le (by rw [pairsI_len]; omega)]
theorem mergedTo_succ (C L : List Itm) (q : Nat) (a b : Itm) (ha : L[2 * q]? = some a) (hb : L[2 * q + 1]? = some b) : mergedTo C L (q + 1) = insI (twoI a b) (mergedTo C L q) := by
  have hl := (List.getElem?_eq_some_iff.1 hb).1
  obtain ⟨a', b', h1, h2, h3⟩ := pairsI_at L q hl
  rw [ha] at h1; rw [hb] at h2
  injection h1 with h1; injection h2 with h2
  subst h1; subst h2
  unfold mergedTo
  rw [List.take_add_one, h3, List.foldl_append]; rfl
theorem mergedTo_len (C L : List Itm) (q : Nat) (hq : 2 * q ≤ L.length) : (mergedTo C L q).length = C.length + q := by
  unfold mergedTo
  rw [foldI_len, List.length_take, pairsI_len]; omega
theorem mergedTo_sort (C L : List Itm) (q : Nat) (h : SortI C) : SortI (mergedTo C L q) := foldI_sort _ _ h
theorem sort_at (l : List Itm) (h : SortI l) (i j : Nat) (x y : Itm) (hij : i ≤ j) (hx : l[i]? = some x) (hy : l[j]? = some y) : x.w ≤ y.w := by
  rcases Nat.lt_or_ge i j with hlt | hge
  · have h1 := (List.getElem?_eq_some_iff.1 hx)
    have h2 := (List.getElem?_eq_some_iff.1 hy)
    have := List.pairwise_iff_getElem.1 h i j h1.1 h2.1 hlt
    rw [h1.2, h2.2] at this; exact this
  · have : i = j := by omega
    subst this
    rw [hx] at hy; injection hy with hy; rw [hy]; exact Nat.le_refl _
/-- laid in behind the last that counts as much or less -/
theorem ins_at (l : List Itm) (h : SortI l) (p : Itm) (k : Nat) (hk : k ≤ l.length) (h1 : k = 0 ∨ ∃ x, l[k - 1]? = some x ∧ x.w ≤ p.w) (h2 : ∀ i x, k ≤ i → l[i]? = some x → p.w < x.w) : insI p l = l.take k ++ p :: l.drop k := by
  refine insI_cut p l k hk (fun i x hi hx => ?_) fun x hx => h2 k x (Nat.le_refl _) hx
  rcases h1 with h1 | ⟨y, hy, hyw⟩
  · omega
  · exact Nat.le_trans (sort_at l h i (k - 1) x y (by omega) hx hy) hyw

/-! ### packs, read and cut -/
abbrev PksAt (N : Nat) := CameAt (packC N) 2
theorem CameAt.read {α : Type} {f : α → List Value} {size n cap : Nat} {w : World} {p : Addr} {L : List α} (h : CameAt f size w (some p) n cap L) (hs : 0 < size) : ∀ j u, (L.flatMap f)[j]? = some u → w.cell? (p.add j) = some u := by
  obtain ⟨h1, h2, h3, h4, h5⟩ := h
  rcases h5 with ⟨h5, _⟩ | ⟨q, hq, hc⟩
  · cases h5
  · injection hq with hq
    subst hq
    intro j u hu
    have hlen := flatMap_len L h4
    have hj : j < L.length * size := by rw [← hlen]; exact (List.getElem?_eq_some_iff.1 hu).1
    obtain ⟨q, r, hr, rfl⟩ : ∃ q r, r < size ∧ j = q * size + r := ⟨j / size, j % size, Nat.mod_lt _ hs, by rw [Nat.mul_comm]; exact (Nat.div_add_mod j size).symm⟩
    have hqL : q < L.length := by
      rcases Nat.lt_or_ge q L.length with hh | hh
      · exact hh
      · have := Nat.mul_le_mul_right size hh; omega
    rw [flatMap_at L h4 q r L[q] (List.getElem?_eq_getElem hqL) hr] at hu
    rw [hc q r L[q] (List.getElem?_eq_getElem hqL) hr, hu]
theorem PksAt.cell {N : Nat} {w : World} {a : Option Addr} {n cap : Nat} {Z : List PK} (h : PksAt N w a n cap Z) (hn : 0 < n) :
    ∃ b off, a = some ⟨b, off, none⟩ ∧ b < w.heap.size ∧ ∀ i, i < n → w.cell? ⟨b, off + i * 2, none⟩ = some (.int .i64 ((Z.getD i default).x.w : Int)) ∧ w.cell? ⟨b, off + i * 2 + 1, none⟩ = some (.slice (Z.getD i default).a N (Z.getD i default).cap) := by
  obtain ⟨b, off, h1, h2, h3⟩ := CameAt.at h hn (by omega)
  refine ⟨b, off, h1, h2, fun i hi => ?_⟩
  have hx : Z[i]? = some (Z.getD i default) := by rw [List.getD, List.getElem?_eq_getElem (by have := h.1; omega)]; rfl
  exact ⟨h3 i 0 _ hx (by omega), h3 i 1 _ hx (by omega)⟩
/-- behind a place -/
theorem packs_tail (N : Nat) (ob n cap k : Nat) (hk : k ≤ n) (hc : n ≤ cap) : ∃ q : Addr,
    (∀ u, (Instr.slice 44 (.slice (some ⟨ob, 0, none⟩) n cap) (some (.int .i64 (k : Int))) none none).run Try.prog u = .ok (.slice (some q) (n - k) (cap - k)) u) ∧
    ∀ v Z, PksAt N v (some ⟨ob, 0, none⟩) n cap Z → PksAt N v (some q) (n - k) (cap - k) (Z.drop k) := by
  obtain ⟨i0, hi, hz0, hz1, hz2⟩ := info_parts infoPack
  have he : Try.prog.elem 44 = 47 := by kernel_rfl
  have hrun : ∀ u, (Instr.slice 44 (.slice (some ⟨ob, 0, none⟩) n cap) (some (.int .i64 (k : Int))) none none).run Try.prog u = .ok (sliced (some ⟨ob, 0, none⟩) k n cap 2) u := fun u => by
    rw [run_slice_l (t := 44) (ht := by rw [he]; exact Try.underlying44) (h0 := by omega) (h1 := by omega), he]
    simp [sizeOf, typeInfo, hi, hz1, Result.andThen]
  by_cases hck : cap = k
  · refine ⟨⟨ob, 0, none⟩, fun u => by rw [hrun u]; simp [sliced, hck], fun v Z h => ?_⟩
    obtain ⟨h1, h2, h3, h4, h5⟩ := h
    refine ⟨by rw [List.length_drop]; omega, by omega, by omega, fun x hx => h4 x (List.mem_of_mem_drop hx), .inr ⟨_, rfl, fun i j x hi hj => ?_⟩⟩
    have := (List.getElem?_eq_some_iff.1 hi).1
    rw [List.length_drop] at this; omega
  · refine ⟨⟨ob, k * 2, none⟩, fun u => by rw [hrun u]; simp [sliced, hck, Addr.add_mid], fun v Z h => ?_⟩
    obtain ⟨h1, h2, h3, h4, h5⟩ := h
    refine ⟨by rw [List.length_drop]; omega, by omega, by omega, fun x hx => h4 x (List.mem_of_mem_drop hx), .inr ⟨_, rfl, fun i j x hi hj => ?_⟩⟩
    rcases h5 with ⟨h5, _⟩ | ⟨q, hq, hc2⟩
    · cases h5
    · injection hq with hq
      subst hq
      rw [List.getElem?_drop] at hi
      have := hc2 (k + i) j x hi hj
      rw [Addr.add_mid, Nat.zero_add] at this
      rw [Addr.add_mid, ← this]
      congr 2
      rw [Nat.add_mul]; omega
theorem build_packs (u : World) : (Instr.buildSlice 44 0 #[]).run Try.prog u = .ok (.slice (some ⟨u.heap.size, 0, none⟩) 0 0) (u.alloc (.cells #[] 47)) := by
  obtain ⟨i0, hi, hz0, hz1, hz2⟩ := info_parts infoPack
  simp [Instr.buildSlice, run_underlying Try.underlying44, sizeOf, typeInfo, hi, Instr.fill, newRow, Array.range_zero']
theorem packs_new (N : Nat) (w : World) : OwnI (packC N) 47 2 w (w.alloc (.cells #[] 47)) (some ⟨w.heap.size, 0, none⟩) 0 0 [] :=
  ⟨⟨fun _ h => by simp at h, fun _ h => by simp at h, rfl, .inr ⟨w.heap.size, 0, #[], rfl, Nat.zero_le _, heap_alloc_new w _, by simp, by unfold maxLen; omega, rfl, rfl⟩⟩, rfl, fun k hk => by simp [Value.ownBlock] at hk; omega, (Below.refl _ _).alloc (Nat.le_refl _) _⟩
theorem CameAt.headOf {α : Type} {f : α → List Value} {w : World} {size n cap : Nat} {a : Option Addr} {L : List α} (h : CameAt f size w a n cap L) (m : Nat) (hm : m ≤ n) : CameAt f size w a m cap (L.take m) := by
  obtain ⟨h1, h2, h3, h4, h5⟩ := h
  refine ⟨by simp; omega, by omega, h3, fun x hx => h4 x (List.mem_of_mem_take hx), ?_⟩
  rcases h5 with ⟨rfl, h5, h6⟩ | ⟨x, rfl, hx⟩
  · exact .inl ⟨rfl, by omega, h6⟩
  · refine .inr ⟨x, rfl, fun i j y hi hj => hx i j y ?_ hj⟩
    have him : i < m := by
      have := (List.getElem?_eq_some_iff.1 hi).1
      simp at this; omega
    rwa [List.getElem?_take_of_lt him] at hi
theorem PkAt.below {N : Nat} {w w' : World} {p : PK} (h : PkAt N w p) (hb : Below w.heap.size w w') : PkAt N w' p := CameAt.below h (by omega) hb
end Go.Proofs.Ytklfoafbgniogaa
