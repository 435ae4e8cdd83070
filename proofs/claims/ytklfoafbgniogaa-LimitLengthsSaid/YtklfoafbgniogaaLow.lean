/-
  A region whose operations each wait for earlier ones alone goes on; the world by which of two stores have been done.
-/
import Derived.Test.YtklfoafbgniogaaInv
namespace Go.Proofs.Ytklfoafbgniogaa
open Go.RowKit
set_option linter.unusedVariables false
set_option linter.unusedSimpArgs false

/-- the world, by which of the two stores have been done -/
def revU (wd w1 w2 : World) (b13 b15 : Bool) (u : World) : Prop := u = if b15 = true then w2 else if b13 = true then w1 else wd

theorem allB_len : ∀ (n : Nat) (l : List Bool), l ∈ allB n → l.length = n
  | 0, l, h => by simp [allB] at h; subst h; rfl
  | n + 1, l, h => by
    simp only [allB, List.mem_flatMap] at h
    obtain ⟨m, hm, hl⟩ := h
    have := allB_len n m hm
    simp at hl
    rcases hl with rfl | rfl <;> simp [this]
/-- each operation waits for earlier ones alone -/
def lowB (ops : Array Oper) : Bool := (List.range ops.size).all fun i => match ops[i]? with
  | some o => o.after.toList.all fun e => !Region.binds .any e || decide (e.on < i)
  | none => true
theorem first_false : ∀ l : List Bool, (l.all (· = true)) = true ∨ ∃ j : Nat, l[j]? = some false ∧ ∀ i : Nat, i < j → l[i]? = some true
  | [] => .inl rfl
  | false :: l => .inr ⟨0, rfl, fun i hi => by omega⟩
  | true :: l => by
    rcases first_false l with h | ⟨j, h1, h2⟩
    · left; simpa using h
    · refine .inr ⟨j + 1, by simpa using h1, fun i hi => ?_⟩
      cases i with
      | zero => rfl
      | succ i => simpa using h2 i (by omega)
theorem goesB_low {ops : Array Oper} (h : lowB ops = true) : goesB ops = true := by
  unfold goesB
  rw [List.all_eq_true]
  intro l hl
  have hlen := allB_len _ _ hl
  rcases first_false l with ha | ⟨j, h1, h2⟩
  · rw [ha]; rfl
  · have hjl : j < l.length := (List.getElem?_eq_some_iff.1 h1).1
    have hjo : j < ops.size := by omega
    have hm : j ∈ Region.ready .any ops l.toArray := by
      refine mem_ready.2 ⟨?_, ops[j], Array.getElem?_eq_getElem hjo, fun e he hb => ?_⟩
      · rw [Array.getD, dif_pos (by simpa using hjl)]
        have := (List.getElem?_eq_some_iff.1 h1).2
        simpa using this
      · unfold lowB at h
        have hh := List.all_eq_true.1 h j (List.mem_range.2 hjo)
        rw [Array.getElem?_eq_getElem hjo] at hh
        have hlt := List.all_eq_true.1 hh e (by simpa using he)
        rw [hb] at hlt
        have hlt : e.on < j := by simpa using hlt
        have h3 := h2 e.on hlt
        have hel : e.on < l.length := by omega
        rw [Array.getD, dif_pos (by simpa using hel)]
        have := (List.getElem?_eq_some_iff.1 h3).2
        simpa using this
    have : (Region.ready .any ops l.toArray).isEmpty = false := by
      cases hr : Region.ready .any ops l.toArray with
      | nil => rw [hr] at hm; cases hm
      | cons _ _ => rfl
    rw [this]
    simp
end Go.Proofs.Ytklfoafbgniogaa
