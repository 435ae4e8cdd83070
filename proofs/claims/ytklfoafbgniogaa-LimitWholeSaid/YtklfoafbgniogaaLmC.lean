/-
  What lengths cost, as the document says.
-/
import Derived.Test.YtklfoafbgniogaaLmX
import Derived.Test.YtklfoafbgniogaaCnR
namespace Go.Proofs.Ytklfoafbgniogaa
set_option linter.unusedVariables false

def costOk (L M : List Int) : Bool := mayK L && decide (L.length = M.length) && M.all okI
def costN (L M : List Int) : Nat := ((List.range M.length).map fun i => (L.getD i 0).toNat * (M.getD i 0).toNat).sum
def costE (L M : List Int) : Int := if costOk L M = true then 0 else 1
def costV (L M : List Int) : Int := if costOk L M = true then (costN L M : Nat) else 0
end Go.Proofs.Ytklfoafbgniogaa
