/-
  Rows of records that make lays; rows that are filled from their head on; rows read as what came in.
-/
import Derived.Test.YtinfgfgmijjhjaaCame
import Derived.Laws.MakeOwn
namespace Go.Proofs.Ytinfgfgmijjhjaa
open Go.RowKit
set_option linter.unusedVariables false
set_option linter.unusedSimpArgs false

theorem madeCells_at (z : Array Value) (n q r : Nat) (hq : q < n) (hr : r < z.size) : (madeCells z (n * z.size)).toList[q * z.size + r]? = z.toList[r]? := by
  have h1 : q * z.size + r < n * z.size := calc q * z.size + r < q * z.size + z.size := by omega
    _ = (q + 1) * z.size := by rw [Nat.succ_mul]
    _ ≤ n * z.size := Nat.mul_le_mul_right _ hq
  have h2 : (q * z.size + r) % z.size = r := by rw [Nat.add_comm, Nat.add_mul_mod_self_right, Nat.mod_eq_of_lt hr]
  simp [madeCells, h1, h2, hr]

theorem recs_made {α : Type} {f : α → List Value} {w : World} {e : TypeId} {g n : Nat} (x : α) (z : Array Value) (hx : f x = z.toList) (h1 : ∀ u ∈ f x, u.oneCell' = true) (hp : 0 < z.size)
    (h : w.ownsRow 0 e z.size (.slice (some ⟨g, 0, none⟩) n n) n (madeCells z (n * z.size)).toList) : Recs f w e z.size (.slice (some ⟨g, 0, none⟩) n n) (List.replicate n x) := by
  have hlen : ∀ y ∈ List.replicate n x, (f y).length = z.size := fun y hy => by rw [(List.mem_replicate.1 hy).2, hx, Array.length_toList]
  have hflat : (madeCells z (n * z.size)).toList = (List.replicate n x).flatMap f := by
    apply List.ext_getElem?
    intro j
    by_cases hj : j < n * z.size
    · obtain ⟨q, r, hq, hr, rfl⟩ : ∃ q r, q < n ∧ r < z.size ∧ j = q * z.size + r := ⟨j / z.size, j % z.size, by rw [Nat.div_lt_iff_lt_mul hp]; exact hj, Nat.mod_lt _ hp, by rw [Nat.mul_comm]; exact (Nat.div_add_mod j z.size).symm⟩
      rw [madeCells_at z n q r hq hr, flatMap_at (size := z.size) _ hlen q r x (by rw [List.getElem?_replicate, if_pos hq]) hr, hx]
    · rw [List.getElem?_eq_none (by simp [size_madeCells]; omega), List.getElem?_eq_none (by rw [flatMap_len _ hlen]; simp; omega)]
  refine ⟨hlen, fun y hy => by rw [(List.mem_replicate.1 hy).2]; exact h1, ?_⟩
  rw [List.length_replicate, ← hflat]
  exact h

theorem fill_next {α : Type} (l : List α) (z x : α) (n k : Nat) (hl : l.length = n) (hk : k < n) (hx : l[k]? = some x) : (l.take k ++ List.replicate (n - k) z).set k x = l.take (k + 1) ++ List.replicate (n - (k + 1)) z := by
  have h1 : (l.take k).length = k := by simp; omega
  have h2 : l.take (k + 1) = l.take k ++ [x] := by
    rw [List.take_succ_eq_append_getElem (by omega)]
    congr 2
    exact (List.getElem?_eq_some_iff.1 hx).2
  rw [List.set_append, if_neg (by omega), h1, Nat.sub_self, show n - k = (n - (k + 1)) + 1 by omega, List.replicate_succ, List.set_cons_zero, h2]
  simp

theorem came_of_recs {α : Type} {f : α → List Value} {w : World} {e : TypeId} {size n cap : Nat} {a : Option Addr} {L : List α} (h : Recs f w e size (.slice a n cap) L) : CameAt f size w a n cap L := by
  rcases h.2.2.2 with ⟨h', h0⟩ | ⟨g, cap', cur, h', hb, hg, hnc, hcm, hcs, htake⟩
  · simp at h'
    obtain ⟨rfl, rfl, rfl⟩ := h'
    exact ⟨h0, Nat.le_refl _, by simp, h.1, .inl ⟨rfl, rfl, rfl⟩⟩
  · simp only [Value.slice.injEq] at h'
    obtain ⟨rfl, rfl, rfl⟩ := h'
    refine ⟨rfl, hnc, hcm, h.1, .inr ⟨_, rfl, fun i j x hi hj => ?_⟩⟩
    rw [Addr.add_mid, Nat.zero_add]
    exact h.cellAt i j x hi hj

end Go.Proofs.Ytinfgfgmijjhjaa
