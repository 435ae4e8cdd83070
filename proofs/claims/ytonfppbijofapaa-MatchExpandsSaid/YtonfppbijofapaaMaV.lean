/-
  Package match: what its functions answer, by the document's words.
-/
import Derived.Test.YtonfppbijofapaaMaU
namespace Go.Proofs.Ytonfppbijofapaa
open Go.RowKit
set_option linter.unusedVariables false
set_option linter.unusedSimpArgs false

/-- Best: how many, the Dist, the error -/
def bestA (b : List UInt8) (at_ : Int) : Int × Int × Int :=
  if 65536 < b.length then (0, 0, 5) else if at_ < 0 ∨ (b.length : Int) ≤ at_ then (0, 0, 4) else (((bestM b at_.toNat).1 : Nat), ((bestM b at_.toNat).2 : Nat), 0)
/-- Find: the error, the tokens -/
def findE (b : List UInt8) : Int := if 65536 < b.length then 5 else 0
def findT (b : List UInt8) : List Tok := if 65536 < b.length then [] else findM b
/-- tokens that are handed out, with an error -/
def FindTo (b : List UInt8) (w : World) (e : Ending) (w' : World) : Prop :=
  ∃ a n cap, e = .returned (.tuple #[.slice a n cap, .int .i64 (findE b)]) ∧ TokAt w' a n cap (findT b) ∧ Below w.heap.size w w'
/-- octets that are handed out, with an error and its place -/
def ExpTo (L : List Tok) (most : Int) (w : World) (e : Ending) (w' : World) : Prop :=
  ∃ a n cap s er at_, (s, er, at_) = expandM L most ∧ e = .returned (.tuple #[.slice a n cap, .int .i64 er, .int .i64 (at_ : Nat)]) ∧ BytesAt w' a n cap s ∧ Below w.heap.size w w'
end Go.Proofs.Ytonfppbijofapaa
