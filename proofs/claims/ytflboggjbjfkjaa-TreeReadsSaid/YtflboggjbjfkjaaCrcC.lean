/-
  Contracts of package crc: Open.
-/
import Derived.Test.YtflboggjbjfkjaaCrcB
import Derived.Stop.BytesEq
import Derived.Deep.RegionHeld3
namespace Go.Proofs.Ytflboggjbjfkjaa
open Go.RowKit
set_option linter.unusedVariables false
set_option linter.unusedSimpArgs false

theorem owned_base {w : World} {B B' : Nat} {t : TypeId} {sz n : Nat} {v : Value} {xs : List Value} (h : w.ownsRow B t sz v n xs) (hB : B' ≤ B) : w.ownsRow B' t sz v n xs := by
  refine ⟨h.1, ?_⟩
  rcases h.2 with hn | ⟨g, cap, cur, rfl, hbg, rest⟩
  · exact .inl hn
  · exact .inr ⟨g, cap, cur, rfl, Nat.le_trans hB hbg, rest⟩


theorem four {l : List UInt8} (h : l.length = 4) : ∃ x0 x1 x2 x3, l = [x0, x1, x2, x3] := by
  match l, h with
  | [x0, x1, x2, x3], _ => exact ⟨_, _, _, _, rfl⟩

theorem sizeU8 : ∀ w, (sizeOf 5).run Try.prog w = .ok 1 w := by
  intro w
  obtain ⟨i0, hi, hz0, hz1, hz2⟩ := info_parts infoU8
  simp [sizeOf, typeInfo, hi, hz1]

theorem marks_eq (xs l : List UInt8) (h : xs.length = 4) (w : World) :
    (Op.equalIn 10000 106 (.agg (vals xs).toArray) (.agg (markV (sumL l)))).run Try.prog w = .ok (xs == leB 4 (sumL l)) w := by
  have e : markV (sumL l) = (vals (leB 4 (sumL l))).toArray := by rw [← mark_vals, Array.toArray_toList]
  rw [e]
  exact run_equalIn_bytes w 9998 106 5 4 Try.underlying106 Try.underlying5 sizeU8 xs _ h (leB_length _ _)

theorem run_arrayAt (x : Addr) (c : Nat) (w : World) : (Instr.arrayAt 106 (.slice (some x) 4 c)).run Try.prog w = .ok (.pointer (some x)) w := by
  simp [Instr.arrayAt, run_underlying Try.underlying106]


/-- octets that came in, made again behind a row of nothing -/
theorem nil_row (w : World) : w.ownsRow w.heap.size 5 1 (.slice none 0 0) 0 [] := World.ownsRow_nil _ _ _ _


end Go.Proofs.Ytflboggjbjfkjaa
