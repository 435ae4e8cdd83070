/-
  Contracts of package disk: Clone.
-/
import Derived.Test.YtinfgfgmijjhjaaDiskD
import Derived.Lib.SliceRun
namespace Go.Proofs.Ytinfgfgmijjhjaa
open Go.RowKit
set_option linter.unusedVariables false
set_option linter.unusedSimpArgs false

def RecsTo {α : Type} (f : α → List Value) (e : TypeId) (size : Nat) (L : List α) (w : World) (en : Ending) (w' : World) : Prop :=
  ∃ v, en = .returned v ∧ Recs f w' e size v L ∧ Below w.heap.size w w' ∧ ∀ k, v.ownBlock = some k → w.heap.size ≤ k






end Go.Proofs.Ytinfgfgmijjhjaa
