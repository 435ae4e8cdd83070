/-
  Puts in memory; the steps of a commit in memory.
-/
import Derived.Test.YtinfgfgmijjhjaaJnMath
import Derived.Test.YtinfgfgmijjhjaaCame
import Derived.Test.YtinfgfgmijjhjaaFill
namespace Go.Proofs.Ytinfgfgmijjhjaa
open Go.RowKit
set_option linter.unusedVariables false
set_option linter.unusedSimpArgs false

structure PutM where
  at_ : Int
  a : Option Addr
  n : Nat
  cap : Nat
  b : List UInt8
deriving Inhabited

def putC (x : PutM) : List Value := [.int .i64 x.at_, .slice x.a x.n x.cap]
def PutM.pt (x : PutM) : Pt := (x.at_, x.b)

/-- a slice of puts: all that it has lies in U -/
structure PutsIn (w : World) (U : Nat → Prop) (a : Option Addr) (n cap : Nat) (M : List PutM) : Prop where
  came : CameAt putC 2 w a n cap M
  lt : ∀ k, U k → k < w.heap.size
  inA : ∀ p, a = some p → U p.block
  bytes : ∀ x ∈ M, BytesAt w x.a x.n x.cap x.b
  inB : ∀ x ∈ M, ∀ p, x.a = some p → U p.block

theorem putC_length (x : PutM) : (putC x).length = 2 := rfl
theorem putC_one (x : PutM) : ∀ u ∈ putC x, u.oneCell' = true := by
  intro u hu
  simp only [putC, List.mem_cons, List.not_mem_nil, or_false] at hu
  rcases hu with rfl | rfl <;> rfl

section
variable {w w' : World} {U S : Nat → Prop} {a : Option Addr} {n cap : Nat} {M : List PutM}
theorem BytesAt.keepB {a : Option Addr} {n cap : Nat} {l : List UInt8} (h : BytesAt w a n cap l) (hk : ∀ p, a = some p → w'.heap[p.block]? = w.heap[p.block]?) : BytesAt w' a n cap l := by
  obtain ⟨h1, h2, h3, h4⟩ := h
  refine ⟨h1, h2, h3, ?_⟩
  rcases h4 with h4 | ⟨x, rfl, hx⟩
  · exact .inl h4
  · exact .inr ⟨x, rfl, fun i hi => by rw [World.cell?_of_block (w := w) (by rw [add_block]; exact hk x rfl)]; exact hx i hi⟩
theorem PutsIn.keep (h : PutsIn w U a n cap M) (hs : w.heap.size ≤ w'.heap.size) (hk : ∀ k, U k → w'.heap[k]? = w.heap[k]?) : PutsIn w' U a n cap M :=
  ⟨h.came.keep (by omega) fun p hp _ _ => hk _ (h.inA p hp), fun k hU => Nat.lt_of_lt_of_le (h.lt k hU) hs, h.inA, fun x hx => (h.bytes x hx).keepB fun p hp => hk _ (h.inB x hx p hp), h.inB⟩
theorem PutsIn.only (h : PutsIn w U a n cap M) (ho : Only S w w') (hS : ∀ k, U k → ¬ S k) : PutsIn w' U a n cap M := h.keep ho.size fun k hU => ho.block k (h.lt k hU) (hS k hU)
theorem PutsIn.below (h : PutsIn w U a n cap M) (hb : Below w.heap.size w w') : PutsIn w' U a n cap M := h.keep hb.size fun k hU => hb.block k (h.lt k hU)
theorem PutsIn.more {V : Nat → Prop} (h : PutsIn w U a n cap M) (hV : ∀ k, U k → V k) (hlt : ∀ k, V k → k < w.heap.size) : PutsIn w V a n cap M :=
  ⟨h.came, hlt, fun p hp => hV _ (h.inA p hp), h.bytes, fun x hx p hp => hV _ (h.inB x hx p hp)⟩
theorem PutsIn.nil (w : World) (U : Nat → Prop) (hU : ∀ k, U k → k < w.heap.size) : PutsIn w U none 0 0 [] :=
  ⟨CameAt.nil _ _ _, hU, by simp, by simp, by simp⟩
theorem PutsIn.len (h : PutsIn w U a n cap M) : n ≤ 9223372036854775807 := by
  have := h.came.2.1; have := h.came.2.2.1; unfold maxLen at *; omega
theorem PutsIn.mlen (h : PutsIn w U a n cap M) : M.length = n := h.came.1
end

/-- cells of the k-th put, as a walk wants them -/
theorem PutsIn.at {w : World} {U : Nat → Prop} {a : Option Addr} {n cap : Nat} {M : List PutM} (h : PutsIn w U a n cap M) (hn : 0 < n) :
    ∃ b off, a = some ⟨b, off, none⟩ ∧ U b ∧ ∀ k, k < n → w.cell? ⟨b, off + k * 2 + 0, none⟩ = some (.int .i64 (M.getD k default).at_) ∧ w.cell? ⟨b, off + k * 2 + 1, none⟩ = some (.slice (M.getD k default).a (M.getD k default).n (M.getD k default).cap) ∧ w.rangeAt b (off + k * 2) (putC (M.getD k default)) := by
  obtain ⟨b, off, rfl, hb, hc⟩ := h.came.at hn (by omega)
  refine ⟨b, off, rfl, h.inA _ rfl, fun k hk => ?_⟩
  have hx : M[k]? = some (M.getD k default) := by rw [List.getD, List.getElem?_eq_getElem (by rw [h.mlen]; exact hk)]; rfl
  have c0 := hc k 0 _ hx (by omega)
  have c1 := hc k 1 _ hx (by omega)
  refine ⟨by rw [Nat.add_assoc]; exact c0, by rw [Nat.add_assoc]; exact c1, fun j u hu => ?_⟩
  have hj : j < 2 := by rw [← putC_length (M.getD k default)]; exact (List.getElem?_eq_some_iff.1 hu).1
  rw [Nat.add_assoc, hc k j _ hx hj, hu]
theorem PutsIn.mem {w : World} {U : Nat → Prop} {a : Option Addr} {n cap : Nat} {M : List PutM} (h : PutsIn w U a n cap M) (k : Nat) (hk : k < n) : M.getD k default ∈ M := by
  have hl : k < M.length := by rw [h.mlen]; exact hk
  rw [List.getD, List.getElem?_eq_getElem hl]
  exact List.getElem_mem hl
theorem pts_getD (M : List PutM) (k : Nat) (hk : k < M.length) : (M.map PutM.pt).getD k (0, []) = (M.getD k default).pt := by
  rw [List.getD, List.getElem?_map, List.getD, List.getElem?_eq_getElem hk]; rfl
theorem pts_drop (M : List PutM) (k : Nat) (hk : k < M.length) : (M.map PutM.pt).drop k = (M.getD k default).pt :: (M.map PutM.pt).drop (k + 1) := by
  rw [List.drop_eq_getElem_cons (by simpa using hk)]
  congr 1
  rw [List.getElem_map, List.getD, List.getElem?_eq_getElem hk]; rfl

/-- the value v is this step -/
def StepIs (w : World) (U : Nat → Prop) (g : Nat) (v : Value) : Stp → Prop
  | .flush => v = .func (.func 28) #[.pointer (some ⟨g, 0, none⟩)] #[]
  | .write L => ∃ bl bd a n cap M, v = .func (.func 75) #[] #[.pointer (some ⟨bl, 0, none⟩), .pointer (some ⟨bd, 0, none⟩)] ∧ U bl ∧ U bd ∧
      w.heap[bl]? = some (.cells #[.slice a n cap] 22 (0, 0)) ∧ w.heap[bd]? = some (.cells #[.pointer (some ⟨g, 0, none⟩)] 33 (0, 0)) ∧ PutsIn w U a n cap M ∧ M.map PutM.pt = L

theorem StepIs.keep {w w' : World} {U : Nat → Prop} {g : Nat} {v : Value} {s : Stp} (h : StepIs w U g v s) (hs : w.heap.size ≤ w'.heap.size) (hk : ∀ k, U k → w'.heap[k]? = w.heap[k]?) : StepIs w' U g v s := by
  cases s with
  | flush => exact h
  | write L =>
    obtain ⟨bl, bd, a, n, cap, M, h1, h2, h3, h4, h5, h6, h7⟩ := h
    exact ⟨bl, bd, a, n, cap, M, h1, h2, h3, (hk bl h2).trans h4, (hk bd h3).trans h5, h6.keep hs hk, h7⟩
theorem StepIs.more {w : World} {U V : Nat → Prop} {g : Nat} {v : Value} {s : Stp} (h : StepIs w U g v s) (hV : ∀ k, U k → V k) (hlt : ∀ k, V k → k < w.heap.size) : StepIs w V g v s := by
  cases s with
  | flush => exact h
  | write L =>
    obtain ⟨bl, bd, a, n, cap, M, h1, h2, h3, h4, h5, h6, h7⟩ := h
    exact ⟨bl, bd, a, n, cap, M, h1, hV _ h2, hV _ h3, h4, h5, h6.more hV hlt, h7⟩

end Go.Proofs.Ytinfgfgmijjhjaa
