/-
  A region that draws its order: all reads first, whatever comes up; then the rest by hand, each order that can come up.
-/
import Derived.Test.YtklfoafbgniogaaHdS
namespace Go.Proofs.Ytklfoafbgniogaa
open Go.RowKit
set_option linter.unusedVariables false
set_option linter.unusedSimpArgs false

section
variable {P : Program} {ops : Array Oper} {Q : Exit → Act → World → Prop}
def lexR (ops : Array Oper) : List Nat → Array Bool → Bool
  | [], _ => true
  | k :: r, listed => decide (k < ops.size) && ((Region.ready .any ops listed).contains k && Region.free .any ops listed k) && lexR ops r (listed.setIfInBounds k true)
def listR : List Nat → Array Bool → Array Bool
  | [], listed => listed
  | k :: r, listed => listR r (listed.setIfInBounds k true)
abbrev doneR (ops : Array Oper) (Q : Exit → Act → World → Prop) : Array Bool → Act → World → Prop := fun listed a w => Region.ready .any ops listed = [] ∧ Q .normal a w

theorem wpHdS_reads {f : Nat} {l0 : List Oper} (hops : ops = l0.toArray) (hsel : Region.noSelect ops = true) :
    ∀ (order : List Nat) (S : World → Prop) (listed : Array Bool) (a : Act) (w : World), S w → lexR ops order listed = true →
    wpSeqS P ops Q [] (fun a' w' => wpHdS P .any ops Q ops.size (doneR ops Q) f S (listR order listed) a' w') (pickO l0 order) S a w →
    wpHdS P .any ops Q ops.size (doneR ops Q) (order.length + f) S listed a w
  | [], S, listed, a, w, hS, hB, h => by rw [List.length_nil, Nat.zero_add]; exact h
  | k :: l, S, listed, a, w, hS, hB, h => by
    simp only [lexR, Bool.and_eq_true, decide_eq_true_eq] at hB
    obtain ⟨⟨hkn, hB1⟩, hB2⟩ := hB
    obtain ⟨o, h0⟩ : ∃ o, ops[k]? = some o := ⟨ops[k]'(by omega), Array.getElem?_eq_getElem _⟩
    have h0l : l0[k]? = some o := by rw [hops] at h0; simpa using h0
    rw [show pickO l0 (k :: l) = (k, o) :: pickO l0 l by simp [pickO, h0l]] at h
    unfold wpSeqS at h
    rw [if_neg (by simp)] at h
    obtain ⟨v, hy, hK⟩ := h
    rw [List.length_cons, show l.length + 1 + f = (l.length + f) + 1 by omega]
    exact wpHdS_first h0 (Region.noSelect_spec hsel) hkn (fun t h1 h2 => by omega) (fun listed' a' w' hL j hj => by rw [hL.1] at hj; cases hj) (l.length + f) S listed a w (Region.free_spec h0 hB1.2) (by simpa using hB1.1) hy hS
      (wpHdS_reads hops hsel l S _ _ w hS hB2 hK)

/-- THE LAW -/
theorem region_fork {id : Nat} {a : Act} {w : World} {l : List Oper} (order : List Nat) (f : Nat) (S : World → Prop) (hm : P.follows .mixedOrders = true) (hsel : Region.noSelect l.toArray = true) (hf : order.length + f = l.length)
    (hB : lexR l.toArray order (Array.replicate l.length false) = true) (hS : S w.drew)
    (h : wpSeqS P l.toArray Q [] (fun a' w' => wpHdS P .any l.toArray Q l.length (doneR l.toArray Q) f S (listR order (Array.replicate l.length false)) a' w') (pickO l order) S a w.drew) : (Code.region id l.toArray true).wp P Q a w := by
  refine wp_region_any hm ?_
  have hz : l.toArray.size = l.length := by simp
  have h1 := wpHdS_reads (P := P) (Q := Q) (f := f) (l0 := l) rfl hsel order S (Array.replicate l.length false) a w.drew hS hB (by rw [hz]; exact h)
  have h2 := wpAny_of_hdS (P := P) (Q := Q) (md := .any) (ops := l.toArray) (n := l.toArray.size) (g := 0) (L := doneR l.toArray Q) (fun listed a w hL => hL) _ S _ a w.drew h1
  rw [Nat.add_zero, hf] at h2
  rw [hz]
  exact h2
/-- one step by hand: one alone may come -/
theorem hdF_one {n f k : Nat} {L : Array Bool → Act → World → Prop} {S : World → Prop} {listed : Array Bool} {a : Act} {w : World} {o : Oper} (hr : Region.ready .any ops listed = [k]) (hk : k < n) (ho : ops[k]? = some o) (hg : o.guard = none)
    (h : ∀ K : Act → World → Prop, (∀ a' w', S w' → wpHdS P .any ops Q n L f S (listed.setIfInBounds k true) a' w' → K a' w') → o.wp P a w K (NoPanic Q)) :
    wpHdS P .any ops Q n L (f + 1) S listed a w := by
  refine ⟨by rw [hr]; simp, fun i hi => ?_⟩
  rw [hr] at hi
  obtain rfl : i = k := by simpa using hi
  refine ⟨hk, ?_⟩
  unfold wpOp
  simp only [ho]
  rw [if_pos (by simp [Region.wanted, hg])]
  exact .inl (h _ fun a' w' h1 h2 => ⟨S, fun _ h => h, h1, h2⟩)
/-- one of two may come -/
theorem hdF_two {n f k j : Nat} {L : Array Bool → Act → World → Prop} {S : World → Prop} {listed : Array Bool} {a : Act} {w : World} {o p : Oper} (hr : Region.ready .any ops listed = [k, j]) (hk : k < n) (hj : j < n) (ho : ops[k]? = some o) (hp : ops[j]? = some p) (hg : o.guard = none) (hgp : p.guard = none)
    (h : ∀ K : Act → World → Prop, (∀ a' w', S w' → wpHdS P .any ops Q n L f S (listed.setIfInBounds k true) a' w' → K a' w') → o.wp P a w K (NoPanic Q))
    (h2 : ∀ K : Act → World → Prop, (∀ a' w', S w' → wpHdS P .any ops Q n L f S (listed.setIfInBounds j true) a' w' → K a' w') → p.wp P a w K (NoPanic Q)) :
    wpHdS P .any ops Q n L (f + 1) S listed a w := by
  refine ⟨by rw [hr]; simp, fun i hi => ?_⟩
  rw [hr] at hi
  simp only [List.mem_cons, List.not_mem_nil, or_false] at hi
  rcases hi with rfl | rfl
  · refine ⟨hk, ?_⟩
    unfold wpOp
    simp only [ho]
    rw [if_pos (by simp [Region.wanted, hg])]
    exact .inl (h _ fun a' w' h1 h2 => ⟨S, fun _ h => h, h1, h2⟩)
  · refine ⟨hj, ?_⟩
    unfold wpOp
    simp only [hp]
    rw [if_pos (by simp [Region.wanted, hgp])]
    exact .inl (h2 _ fun a' w' h1 h2 => ⟨S, fun _ h => h, h1, h2⟩)
theorem hdF_end {n : Nat} {S : World → Prop} {listed : Array Bool} {a : Act} {w : World} (hr : Region.ready .any ops listed = []) (h : Q .normal a w) : wpHdS P .any ops Q n (doneR ops Q) 0 S listed a w := ⟨hr, h⟩
end
end Go.Proofs.Ytklfoafbgniogaa
