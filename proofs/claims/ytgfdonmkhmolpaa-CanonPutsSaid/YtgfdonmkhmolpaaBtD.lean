/-
  Contracts of package bits: Octets of a Writer.
-/
import Derived.Test.YtgfdonmkhmolpaaBtC
namespace Go.Proofs.Ytgfdonmkhmolpaa
open Go.RowKit
set_option linter.unusedVariables false
set_option linter.unusedSimpArgs false
set_option maxRecDepth 100000

/-- behind whole octets: the box anew -/
theorem wr_whole {w w' : World} {B : Nat} {v v' : Value} {F : List Bool} {l : List UInt8} {q : Nat} (h : WrV w B v F) (hr : BytO w' v' (packB F ++ l)) (hg : w.grownBy w' v.ownBlock) (hk : v'.ownBlock = v.ownBlock ∨ v'.ownBlock = some w.heap.size)
    (hq : q = octN F.length + l.length) :
    WrTo B v (wholeL F ++ ofL l) w ((w'.setCell ⟨B, 0, none⟩ v').setCell ⟨B, 1, none⟩ (.int .i64 ((q : Int) * 8))) := by
  have hB0 : w'.heap[B]? = w.heap[B]? := hg.block B h.lt (fun e => h.ne B e.symm rfl)
  have hB := hB0.trans h.1
  refine ⟨v', ⟨?_, ?_⟩, ?_, ?_⟩
  · have e1 := heap_setCell_same w' B 0 _ _ v' hB
    rw [heap_setCell_same _ B 1 _ _ _ e1, wholeOf_length, ← hq]
    simp
  · rw [pack_octets]
    have hn := hr.ne_of hB ne_wr_byte
    exact hr.keep fun k hk => (heap_setCell_other _ _ _ _ (hn k hk)).trans (heap_setCell_other _ _ _ _ (hn k hk))
  · exact ((Only.of_grown (S := fun k => k = B ∨ v.ownBlock = some k) hg fun k hk => .inr hk).trans (Only.setCell _ _ _ (.inl rfl)) (fun i hi hS => hS)).trans (Only.setCell _ _ _ (.inl rfl)) (fun i hi hS => hS)
  · rcases hk with hk | hk
    · exact .inl hk
    · exact .inr ⟨_, hk, by simp⟩


end Go.Proofs.Ytgfdonmkhmolpaa
