/-
  Contracts of package bits: Octets of a Reader.
-/
import Derived.Test.YtgfdonmkhmolpaaBtF
namespace Go.Proofs.Ytgfdonmkhmolpaa
open Go.RowKit
set_option linter.unusedVariables false
set_option linter.unusedSimpArgs false
set_option maxRecDepth 100000

/-- what Octets answers, and how far it is read -/
def octsR (l : List UInt8) (at_ : Nat) (n : Int) : List UInt8 × Int × Nat :=
  if n < 0 then ([], 1, octN at_ * 8) else if l.length < octN at_ + n.toNat then ([], 2, octN at_ * 8) else ((l.drop (octN at_)).take n.toNat, 0, (octN at_ + n.toNat) * 8)
/-- octets that are handed out, and the reader -/
def OctsTo (B : Nat) (a : Option Addr) (cap : Nat) (l : List UInt8) (r : List UInt8 × Int × Nat) (w : World) (e : Ending) (w' : World) : Prop :=
  ∃ a2 cap2, e = .returned (.tuple #[.slice a2 r.1.length cap2, .int .i64 r.2.1]) ∧ w'.ownsRow w.heap.size 5 1 (.slice a2 r.1.length cap2) r.1.length (vals r.1) ∧ RdTo B a cap l r.2.2 w w'

/-- a part of octets -/
theorem BytesAt.cutIf {w : World} {a : Option Addr} {n cap at_ m : Nat} {l : List UInt8} (h : BytesAt w a n cap l) (hm : at_ + m ≤ n) :
    BytesAt w (if cap = at_ then a else Option.map (fun x => x.add at_) a) m (cap - at_) ((l.drop at_).take m) := by
  obtain ⟨h1, h2, h3, h4⟩ := h
  refine ⟨by simp; omega, by omega, by omega, ?_⟩
  by_cases hc : cap = at_
  · have : m = 0 := by omega
    subst this
    rw [if_pos hc]
    rcases h4 with ⟨rfl, _, _⟩ | ⟨x, rfl, hx⟩
    · exact .inl ⟨rfl, rfl, by omega⟩
    · exact .inr ⟨x, rfl, fun i hi => by omega⟩
  · rw [if_neg hc]
    rcases h4 with ⟨rfl, h5, h6⟩ | ⟨x, rfl, hx⟩
    · omega
    · refine .inr ⟨_, rfl, fun i hi => ?_⟩
      have e : (x.add at_).add i = x.add (at_ + i) := by
        unfold Addr.add
        by_cases h0 : at_ = 0 <;> by_cases h1 : i = 0 <;> simp [h0, h1, Nat.add_assoc]
      rw [e, hx _ (by omega)]
      simp [List.getD, List.getElem?_take, List.getElem?_drop, hi]

theorem owned_lower {w : World} {base base' sz n : Nat} {e : TypeId} {v : Value} {xs : List Value} (h : w.ownsRow base e sz v n xs) (hb : base' ≤ base) : w.ownsRow base' e sz v n xs := by
  refine ⟨h.1, ?_⟩
  rcases h.2 with hn | ⟨g, cap, cur, e1, hbg, rest⟩
  · exact .inl hn
  · exact .inr ⟨g, cap, cur, e1, Nat.le_trans hb hbg, rest⟩


end Go.Proofs.Ytgfdonmkhmolpaa
