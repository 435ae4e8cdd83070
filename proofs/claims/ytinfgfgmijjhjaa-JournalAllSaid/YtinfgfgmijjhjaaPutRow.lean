/-
  Puts that are laid one behind the other, in memory of the call's own.
-/
import Derived.Test.YtinfgfgmijjhjaaJnE
namespace Go.Proofs.Ytinfgfgmijjhjaa
open Go.RowKit
set_option linter.unusedVariables false
set_option linter.unusedSimpArgs false

structure PutRow (w wr : World) (v : Value) (M : List PutM) : Prop where
  recs : Recs putC wr 69 2 v M
  own : ∀ k, v.ownBlock = some k → w.heap.size ≤ k
  bytes : ∀ x ∈ M, BytesAt wr x.a x.n x.cap x.b
  new : ∀ x ∈ M, ∀ p, x.a = some p → w.heap.size ≤ p.block ∧ p.block < wr.heap.size ∧ v.ownBlock ≠ some p.block
  below : Below w.heap.size w wr

section
variable {w wr w1 w2 : World} {v v' : Value} {M : List PutM}
theorem PutRow.nil (w : World) : PutRow w w (.slice none 0 0) [] := ⟨Recs.nil _ _ _ _, fun k hk => by simp [Value.ownBlock] at hk, by simp, by simp, Below.refl _ _⟩
theorem PutRow.quiet (h : PutRow w wr v M) (hb : Below wr.heap.size wr w1) : PutRow w w1 v M :=
  ⟨h.recs.below hb, h.own, fun x hx => (h.bytes x hx).below hb, fun x hx p hp => by
    have := h.new x hx p hp
    exact ⟨this.1, Nat.lt_of_lt_of_le this.2.1 hb.size, this.2.2⟩, h.below.trans (hb.mono h.below.size)⟩
theorem PutRow.snoc (h : PutRow w wr v M) (hb : Below wr.heap.size wr w1) (y : PutM) (hy : BytesAt w1 y.a y.n y.cap y.b) (hn : ∀ p, y.a = some p → wr.heap.size ≤ p.block ∧ p.block < w1.heap.size)
    (hr : Recs putC w2 69 2 v' (M ++ [y])) (hg : w1.grownBy w2 v.ownBlock) (hv : v'.ownBlock = v.ownBlock ∨ v'.ownBlock = some w1.heap.size) : PutRow w w2 v' (M ++ [y]) := by
  have h1 := h.quiet hb
  have hs := h.below.size
  have hbs := hb.size
  have hgs := hg.size
  have hvl : ∀ k, v.ownBlock = some k → k < wr.heap.size := h.recs.lt
  refine ⟨hr, fun k hk => ?_, fun x hx => ?_, fun x hx p hp => ?_, h1.below.grown hg h1.below.size (fun k hk => h.own k hk)⟩
  · rcases hv with e | e
    · exact h.own k (by rw [← e]; exact hk)
    · rw [e] at hk; injection hk with hk; omega
  · rcases List.mem_append.1 hx with hx | hx
    · exact (h1.bytes x hx).grown hg (fun p hp e => (h1.new x hx p hp).2.2 e.symm)
    · simp only [List.mem_singleton] at hx; subst hx
      exact hy.grown hg (fun p hp e => by have := hvl _ e.symm; have := (hn p hp).1; omega)
  · rcases List.mem_append.1 hx with hx | hx
    · have := h1.new x hx p hp
      refine ⟨this.1, by omega, fun e => ?_⟩
      rcases hv with e2 | e2
      · exact this.2.2 (by rw [← e2]; exact e)
      · rw [e2] at e; injection e with e; omega
    · simp only [List.mem_singleton] at hx; subst hx
      have := hn p hp
      refine ⟨by omega, by omega, fun e => ?_⟩
      rcases hv with e2 | e2
      · have := hvl _ (by rw [← e2]; exact e); omega
      · rw [e2] at e; injection e with e; omega
theorem PutRow.puts {a : Option Addr} {n cap : Nat} (h : PutRow w wr (.slice a n cap) M) : PutsIn wr (fun k => w.heap.size ≤ k ∧ k < wr.heap.size) a n cap M := by
  refine ⟨came_of_recs h.recs, fun k hk => hk.2, fun p hp => ?_, h.bytes, fun x hx p hp => ⟨(h.new x hx p hp).1, (h.new x hx p hp).2.1⟩⟩
  subst hp
  obtain ⟨b, off, spot⟩ := p
  rcases h.recs.2.2.2 with ⟨h', _⟩ | ⟨g, cap', cur, h', hb, hg, _⟩
  · simp at h'
  · simp only [Value.slice.injEq, Option.some.injEq, Addr.mk.injEq] at h'
    obtain ⟨⟨rfl, rfl, rfl⟩, _, rfl⟩ := h'
    exact ⟨h.own _ rfl, (Array.getElem?_eq_some_iff.1 hg).1⟩
end

/-- one put in a block of its own: what append reads -/
theorem put_news {w : World} {B : Nat} {i : Int} {a : Option Addr} {n cap : Nat} {l : List UInt8} {t : TypeId} {fr : Nat × Nat} (h : w.heap[B]? = some (.cells (putV i a n cap) t fr)) : ∀ j u, ([(⟨i, a, n, cap, l⟩ : PutM)].flatMap putC)[j]? = some u → w.cell? ((⟨B, 0, none⟩ : Addr).add j) = some u := by
  intro j u hj
  rw [Addr.add_mid, Nat.zero_add, cell_of_row _ _ _ _ _ _ h]
  simpa [putC, putV] using hj

end Go.Proofs.Ytinfgfgmijjhjaa
