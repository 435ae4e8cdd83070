/-
  A disk, as lists.
-/
import Derived.Test.YtinfgfgmijjhjaaOctMath
namespace Go.Proofs.Ytinfgfgmijjhjaa
set_option linter.unusedVariables false
set_option linter.unusedSimpArgs false

structure Dk where
  secs : List (List UInt8)
  waits : List (Nat × List UInt8)
  power : Bool
  budget : Int

namespace Dk

def new (n : Nat) : Dk := ⟨List.replicate n (List.replicate 128 0), [], true, -1⟩

structure Ok (D : Dk) : Prop where
  sec : ∀ s ∈ D.secs, s.length = 128
  wait : ∀ x ∈ D.waits, x.1 < D.secs.length ∧ x.2.length = 128
  low : -1 ≤ D.budget
  high : D.budget ≤ 9223372036854775807
  one : 1 ≤ D.secs.length
  many : D.secs.length ≤ 2048
  few : D.waits.length ≤ 1073741824

theorem ok_new (n : Nat) (h1 : 1 ≤ n) (h2 : n ≤ 2048) : (new n).Ok :=
  ⟨fun s hs => by simp only [new, List.mem_replicate] at hs; rw [hs.2]; simp, by simp [new], by simp [new], by simp [new], by simpa [new] using h1, by simpa [new] using h2, by simp [new]⟩

/-- what is read of sector i, when these writes wait over what it has -/
def over (ws : List (Nat × List UInt8)) (i : Nat) (s : List UInt8) : List UInt8 := ws.foldl (fun s x => if x.1 = i then x.2 else s) s
def content (D : Dk) (i : Nat) : List UInt8 := over D.waits i (D.secs.getD i [])

theorem over_append (a b : List (Nat × List UInt8)) (i : Nat) (s : List UInt8) : over (a ++ b) i s = over b i (over a i s) := by simp [over]
theorem over_snoc (a : List (Nat × List UInt8)) (x : Nat × List UInt8) (i : Nat) (s : List UInt8) : over (a ++ [x]) i s = if x.1 = i then x.2 else over a i s := by simp [over]
theorem over_none (b : List (Nat × List UInt8)) (i : Nat) (s : List UInt8) (h : ∀ x ∈ b, x.1 ≠ i) : over b i s = s := by
  induction b generalizing s with
  | nil => rfl
  | cons x b ih =>
    have hx := h x (by simp)
    show over b i (if x.1 = i then x.2 else s) = s
    rw [if_neg hx]; exact ih s (fun y hy => h y (by simp [hy]))
theorem over_hit (a b : List (Nat × List UInt8)) (x : Nat × List UInt8) (i : Nat) (s : List UInt8) (hx : x.1 = i) (h : ∀ y ∈ b, y.1 ≠ i) : over (a ++ x :: b) i s = x.2 := by
  rw [show a ++ x :: b = (a ++ [x]) ++ b by simp, over_append, over_none b _ _ h, over_snoc, if_pos hx]
theorem over_length (ws : List (Nat × List UInt8)) (i : Nat) (s : List UInt8) (h : ∀ x ∈ ws, x.2.length = 128) (hs : s.length = 128) : (over ws i s).length = 128 := by
  induction ws generalizing s with
  | nil => exact hs
  | cons x b ih =>
    show (over b i (if x.1 = i then x.2 else s)).length = 128
    refine ih _ (fun y hy => h y (by simp [hy])) ?_
    split
    · exact h x (by simp)
    · exact hs
theorem Ok.getD {D : Dk} (h : D.Ok) (i : Nat) (hi : i < D.secs.length) : (D.secs.getD i []).length = 128 := by
  rw [List.getD, List.getElem?_eq_getElem hi]; exact h.sec _ (List.getElem_mem hi)
theorem Ok.content {D : Dk} (h : D.Ok) (i : Nat) (hi : i < D.secs.length) : (D.content i).length = 128 := over_length _ _ _ (fun x hx => (h.wait x hx).2) (h.getD i hi)

/-- is a write or a flush done? -/
def can (D : Dk) : Bool := D.power && !(D.budget == 0)
def off (D : Dk) : Dk := { D with power := false }
def paid (D : Dk) : Dk := { D with budget := if D.budget = -1 then -1 else D.budget - 1 }
def put (D : Dk) (i : Nat) (s : List UInt8) : Dk := { D.paid with waits := D.waits ++ [(i, s)] }

/-- the writes that are kept, laid over the sectors -/
def laid (K : Nat → Bool) (ws : List (Nat × List UInt8)) (s : List (List UInt8)) : List (List UInt8) := ws.zipIdx.foldl (fun s x => if K x.2 then s.set x.1.1 x.1.2 else s) s
theorem laid_nil (K : Nat → Bool) (s : List (List UInt8)) : laid K [] s = s := rfl
theorem laid_snoc (K : Nat → Bool) (ws : List (Nat × List UInt8)) (x : Nat × List UInt8) (s : List (List UInt8)) :
    laid K (ws ++ [x]) s = if K ws.length then (laid K ws s).set x.1 x.2 else laid K ws s := by
  simp [laid, List.zipIdx_append]
theorem laid_take (K : Nat → Bool) (ws : List (Nat × List UInt8)) (s : List (List UInt8)) (k : Nat) (hk : k < ws.length) :
    laid K (ws.take (k + 1)) s = if K k then (laid K (ws.take k) s).set ws[k].1 ws[k].2 else laid K (ws.take k) s := by
  rw [List.take_succ_eq_append_getElem hk, laid_snoc, List.length_take, Nat.min_eq_left (by omega)]
theorem snoc_ind {α : Type} {P : List α → Prop} (h0 : P []) (h1 : ∀ l x, P l → P (l ++ [x])) (l : List α) : P l := by
  have : ∀ n (l : List α), l.length = n → P l := by
    intro n
    induction n with
    | zero => intro l hl; rw [List.eq_nil_of_length_eq_zero hl]; exact h0
    | succ n ih =>
      intro l hl
      have hne : l ≠ [] := by intro h; subst h; simp at hl
      rw [← List.dropLast_concat_getLast hne]
      exact h1 _ _ (ih _ (by simp [hl]))
  exact this _ l rfl
theorem laid_length (K : Nat → Bool) (ws : List (Nat × List UInt8)) (s : List (List UInt8)) : (laid K ws s).length = s.length := by
  induction ws using snoc_ind with
  | h0 => rfl
  | h1 l x ih => rw [laid_snoc]; split <;> simp [ih]
theorem laid_mem (K : Nat → Bool) (ws : List (Nat × List UInt8)) (s : List (List UInt8)) (hs : ∀ t ∈ s, t.length = 128) (hw : ∀ x ∈ ws, x.2.length = 128) : ∀ t ∈ laid K ws s, t.length = 128 := by
  induction ws using snoc_ind with
  | h0 => exact hs
  | h1 l x ih =>
    rw [laid_snoc]
    have ih := ih (fun y hy => hw y (by simp [hy]))
    split
    · intro t ht
      rcases List.mem_or_eq_of_mem_set ht with ht | rfl
      · exact ih t ht
      · exact hw x (by simp)
    · exact ih

def settle (D : Dk) (K : Nat → Bool) : Dk := { D with secs := laid K D.waits D.secs, waits := [] }
def flushed (D : Dk) : Dk := D.paid.settle fun _ => true
def keeps (keep : List Bool) (k : Nat) : Bool := keep.getD k false
def cut (D : Dk) (keep : List Bool) : Dk := { D.settle (keeps keep) with power := false }
def on (D : Dk) : Dk := { D.settle (fun _ => false) with power := true, budget := -1 }

theorem laid_false (ws : List (Nat × List UInt8)) (s : List (List UInt8)) : laid (fun _ => false) ws s = s := by
  induction ws using snoc_ind with
  | h0 => rfl
  | h1 l x ih => rw [laid_snoc]; simpa using ih

theorem Ok.settle {D : Dk} (h : D.Ok) (K : Nat → Bool) : (D.settle K).Ok :=
  ⟨laid_mem K _ _ h.sec (fun x hx => (h.wait x hx).2), by simp [Dk.settle], h.low, h.high, by simpa [Dk.settle, laid_length] using h.one, by simpa [Dk.settle, laid_length] using h.many, by simp [Dk.settle]⟩
theorem Ok.off {D : Dk} (h : D.Ok) : D.off.Ok := ⟨h.sec, h.wait, h.low, h.high, h.one, h.many, h.few⟩
theorem Ok.cut {D : Dk} (h : D.Ok) (keep : List Bool) : (D.cut keep).Ok := (h.settle (keeps keep)).off
theorem Ok.on {D : Dk} (h : D.Ok) : D.on.Ok := by
  have := h.settle (fun _ => false)
  exact ⟨this.sec, this.wait, by simp [Dk.on], by simp [Dk.on], this.one, this.many, this.few⟩
theorem Ok.setBudget {D : Dk} (h : D.Ok) (b : Int) (h1 : -1 ≤ b) (h2 : b ≤ 9223372036854775807) : ({ D with budget := b } : Dk).Ok := ⟨h.sec, h.wait, h1, h2, h.one, h.many, h.few⟩
theorem Ok.paid {D : Dk} (h : D.Ok) (hc : D.can = true) : D.paid.Ok := by
  have hb : D.budget ≠ 0 := by simp [can] at hc; exact hc.2
  have := h.low; have := h.high
  refine ⟨h.sec, h.wait, ?_, ?_, h.one, h.many, h.few⟩ <;> simp only [Dk.paid] <;> split <;> omega
theorem Ok.put {D : Dk} (h : D.Ok) (hc : D.can = true) (i : Nat) (s : List UInt8) (hi : i < D.secs.length) (hs : s.length = 128) (hf : D.waits.length < 1073741824) : (D.put i s).Ok := by
  have hp := h.paid hc
  refine ⟨hp.sec, fun x hx => ?_, hp.low, hp.high, hp.one, hp.many, by simp [Dk.put]; omega⟩
  simp only [Dk.put, List.mem_append, List.mem_singleton] at hx
  rcases hx with hx | rfl
  · exact h.wait x hx
  · exact ⟨hi, hs⟩
theorem Ok.flushed {D : Dk} (h : D.Ok) (hc : D.can = true) : D.flushed.Ok := (h.paid hc).settle _

theorem content_put (D : Dk) (i j : Nat) (s : List UInt8) : (D.put i s).content j = if i = j then s else D.content j := by
  show over (D.waits ++ [(i, s)]) j _ = _
  rw [over_snoc]; rfl
theorem laid_getD (ws : List (Nat × List UInt8)) (s : List (List UInt8)) (j : Nat) (hj : j < s.length) : (laid (fun _ => true) ws s).getD j [] = over ws j (s.getD j []) := by
  induction ws using snoc_ind with
  | h0 => rfl
  | h1 l x ih =>
    rw [laid_snoc, if_pos rfl, over_snoc, List.getD, List.getElem?_set]
    by_cases h : x.1 = j
    · rw [if_pos h, if_pos h, laid_length, if_pos (by omega)]; rfl
    · rw [if_neg h, if_neg h, ← ih]; rfl
theorem content_flushed (D : Dk) (j : Nat) (hj : j < D.secs.length) : D.flushed.content j = D.content j := by
  show (laid (fun _ => true) D.waits D.secs).getD j [] = _
  exact laid_getD _ _ _ hj
end Dk
end Go.Proofs.Ytinfgfgmijjhjaa
