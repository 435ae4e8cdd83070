/-
  The journal, as lists: writes, steps, heads; what a commit and a recovering come to.
-/
import Derived.Test.YtinfgfgmijjhjaaTwo
import Derived.Test.YtinfgfgmijjhjaaCrcMath
namespace Go.Proofs.Ytinfgfgmijjhjaa
set_option linter.unusedVariables false
set_option linter.unusedSimpArgs false

/-- a put: where, and its octets -/
abbrev Pt := Int × List UInt8

def wrsOf : Dk → List Pt → Int × Dk
  | D, [] => (0, D)
  | D, p :: L => if (wrOf D p.1 p.2.length p.2).1 = 0 then wrsOf (wrOf D p.1 p.2.length p.2).2 L else wrOf D p.1 p.2.length p.2

inductive Stp where
  | flush
  | write (L : List Pt)

def Stp.play : Stp → Dk → Int × Dk
  | .flush, D => flOf D
  | .write L, D => wrsOf D L
def Stp.cost : Stp → Nat
  | .flush => 0
  | .write L => L.length

def plays : List Stp → Dk → Int × Dk
  | [], D => (0, D)
  | s :: r, D => if (s.play D).1 = 0 then plays r (s.play D).2 else s.play D
def costs (r : List Stp) : Nat := (r.map Stp.cost).sum

theorem wrOf_len (D : Dk) (i : Int) (m : Nat) (l : List UInt8) : (wrOf D i m l).2.secs.length = D.secs.length := (Fit.wr (n := D.secs.length) (k := D.waits.length) ⟨rfl, Nat.le_refl _⟩ i m l).1
theorem wrOf_waits (D : Dk) (i : Int) (m : Nat) (l : List UInt8) : (wrOf D i m l).2.waits.length ≤ D.waits.length + 1 := (Fit.wr (n := D.secs.length) (k := D.waits.length) ⟨rfl, Nat.le_refl _⟩ i m l).2
theorem flOf_len (D : Dk) : (flOf D).2.secs.length = D.secs.length := (Fit.fl (n := D.secs.length) (k := D.waits.length) ⟨rfl, Nat.le_refl _⟩).1
theorem flOf_waits (D : Dk) : (flOf D).2.waits.length ≤ D.waits.length := (Fit.fl (n := D.secs.length) (k := D.waits.length) ⟨rfl, Nat.le_refl _⟩).2

theorem wrsOf_len : ∀ (L : List Pt) (D : Dk), (wrsOf D L).2.secs.length = D.secs.length
  | [], D => rfl
  | p :: L, D => by
    unfold wrsOf
    split
    · rw [wrsOf_len L, wrOf_len]
    · exact wrOf_len _ _ _ _
theorem wrsOf_waits : ∀ (L : List Pt) (D : Dk), (wrsOf D L).2.waits.length ≤ D.waits.length + L.length
  | [], D => by simp [wrsOf]
  | p :: L, D => by
    have h := wrOf_waits D p.1 p.2.length p.2
    unfold wrsOf
    split
    · have := wrsOf_waits L (wrOf D p.1 p.2.length p.2).2
      simp only [List.length_cons]; omega
    · simp only [List.length_cons]; omega
theorem play_len (s : Stp) (D : Dk) : (s.play D).2.secs.length = D.secs.length := by
  cases s with
  | flush => exact flOf_len D
  | write L => exact wrsOf_len L D
theorem play_waits (s : Stp) (D : Dk) : (s.play D).2.waits.length ≤ D.waits.length + s.cost := by
  cases s with
  | flush => exact flOf_waits D
  | write L => exact wrsOf_waits L D
theorem plays_len : ∀ (r : List Stp) (D : Dk), (plays r D).2.secs.length = D.secs.length
  | [], D => rfl
  | s :: r, D => by
    unfold plays
    split
    · rw [plays_len r, play_len]
    · exact play_len _ _
theorem costs_cons (s : Stp) (r : List Stp) : costs (s :: r) = s.cost + costs r := by simp [costs]
theorem plays_waits : ∀ (r : List Stp) (D : Dk), (plays r D).2.waits.length ≤ D.waits.length + costs r
  | [], D => by simp [plays]
  | s :: r, D => by
    have h := play_waits s D
    rw [costs_cons]
    unfold plays
    split
    · have := plays_waits r (s.play D).2; omega
    · omega

theorem plays_yes {s : Stp} {D : Dk} (r : List Stp) (h : (s.play D).1 = 0) : plays (s :: r) D = plays r (s.play D).2 := by simp [plays, h]
theorem plays_no {s : Stp} {D : Dk} (r : List Stp) (h : (s.play D).1 ≠ 0) : plays (s :: r) D = s.play D := by simp [plays, h]
theorem plays_app_yes : ∀ (a b : List Stp) (D : Dk), (plays a D).1 = 0 → plays (a ++ b) D = plays b (plays a D).2
  | [], b, D, _ => rfl
  | s :: a, b, D, h => by
    by_cases h1 : (s.play D).1 = 0
    · rw [plays_yes a h1] at h ⊢
      rw [List.cons_append, plays_yes _ h1]
      exact plays_app_yes a b _ h
    · rw [plays_no a h1] at h
      exact absurd h h1
theorem plays_app_no : ∀ (a b : List Stp) (D : Dk), (plays a D).1 ≠ 0 → plays (a ++ b) D = plays a D
  | [], b, D, h => absurd rfl h
  | s :: a, b, D, h => by
    by_cases h1 : (s.play D).1 = 0
    · rw [plays_yes a h1] at h ⊢
      rw [List.cons_append, plays_yes _ h1]
      exact plays_app_no a b _ h
    · rw [List.cons_append, plays_no _ h1, plays_no _ h1]

/-! ### transactions that may be -/
def okAt (L : List Pt) (size : Int) (k : Nat) : Bool :=
  !((L.take k).any fun q => q.1 == (L.getD k (0, [])).1) && (decide (41 ≤ (L.getD k (0, [])).1) && (decide ((L.getD k (0, [])).1 < size) && decide ((L.getD k (0, [])).2.length = 128)))
def mayB (L : List Pt) (size : Int) : Bool := decide (1 ≤ L.length) && (decide (L.length ≤ 40) && (List.range L.length).all (okAt L size))

structure MayP (L : List Pt) (size : Int) : Prop where
  one : 1 ≤ L.length
  few : L.length ≤ 40
  ok : ∀ k, k < L.length → okAt L size k = true

theorem may_iff (L : List Pt) (size : Int) : mayB L size = true ↔ MayP L size := by
  unfold mayB
  simp only [Bool.and_eq_true, decide_eq_true_eq, List.all_eq_true, List.mem_range]
  exact ⟨fun ⟨h1, h2, h3⟩ => ⟨h1, h2, h3⟩, fun h => ⟨h.one, h.few, h.ok⟩⟩
theorem okAt_iff (L : List Pt) (size : Int) (k : Nat) (hk : k < L.length) : okAt L size k = true ↔ (∀ j, j < k → (L.getD j (0, [])).1 ≠ (L.getD k (0, [])).1) ∧ 41 ≤ (L.getD k (0, [])).1 ∧ (L.getD k (0, [])).1 < size ∧ (L.getD k (0, [])).2.length = 128 := by
  unfold okAt
  simp only [Bool.and_eq_true, Bool.not_eq_true', decide_eq_true_eq, List.any_eq_false, beq_iff_eq]
  refine and_congr_left fun _ => ⟨fun h j hj => ?_, fun h q hq => ?_⟩
  · have hjl : j < L.length := by omega
    have : L.getD j (0, []) ∈ L.take k := by
      rw [List.mem_iff_getElem?]
      exact ⟨j, by rw [List.getElem?_take_of_lt hj, List.getD, List.getElem?_eq_getElem hjl]; rfl⟩
    exact h _ this
  · obtain ⟨j, hj⟩ := List.mem_iff_getElem?.1 hq
    have hjk : j < k := by
      have := (List.getElem?_eq_some_iff.1 hj).1
      simp at this; omega
    rw [List.getElem?_take_of_lt hjk] at hj
    have := h j hjk
    rw [List.getD, hj] at this
    exact this
theorem MayP.at {L : List Pt} {size : Int} (h : MayP L size) (p : Pt) (hp : p ∈ L) : 41 ≤ p.1 ∧ p.1 < size ∧ p.2.length = 128 := by
  obtain ⟨k, hk⟩ := List.mem_iff_getElem?.1 hp
  have hl : k < L.length := (List.getElem?_eq_some_iff.1 hk).1
  have := ((okAt_iff L size k hl).1 (h.ok k hl)).2
  rw [List.getD, hk] at this
  exact this
theorem MayP.more {L : List Pt} {a b : Int} (h : MayP L a) (hab : a ≤ b) : MayP L b := by
  refine ⟨h.one, h.few, fun k hk => ?_⟩
  have := (okAt_iff L a k hk).1 (h.ok k hk)
  exact (okAt_iff L b k hk).2 ⟨this.1, this.2.1, by omega, this.2.2.2⟩
theorem MayP.ne {L : List Pt} {size : Int} (h : MayP L size) (j k : Nat) (hj : j < L.length) (hk : k < L.length) (hjk : j ≠ k) : (L.getD j (0, [])).1 ≠ (L.getD k (0, [])).1 := by
  rcases Nat.lt_or_gt_of_ne hjk with h1 | h1
  · exact ((okAt_iff L size k hk).1 (h.ok k hk)).1 j h1
  · exact fun e => ((okAt_iff L size j hj).1 (h.ok j hj)).1 k h1 e.symm

/-! ### heads -/
def bytesL (L : List Pt) : List UInt8 := L.flatMap (·.2)
def placesL (L : List Pt) : List UInt8 := L.flatMap fun p => leB 2 p.1.toNat
def markL : List UInt8 := [116, 110, 108, 106]
def hdRaw (L : List Pt) : List UInt8 := markL ++ (leB 2 L.length ++ (leB 4 (sumL (bytesL L)) ++ placesL L))
def hdL (L : List Pt) : List UInt8 := sealL (hdRaw L) ++ List.replicate (128 - (hdRaw L).length - 4) 0

theorem placesL_length (L : List Pt) : (placesL L).length = 2 * L.length := by
  induction L with
  | nil => rfl
  | cons p L ih => simp only [placesL, List.flatMap_cons, List.length_append, leB_length, List.length_cons] at *; omega
theorem hdRaw_length (L : List Pt) : (hdRaw L).length = 10 + 2 * L.length := by
  simp [hdRaw, markL, leB_length, placesL_length]; omega
theorem hdL_length (L : List Pt) (h : L.length ≤ 40) : (hdL L).length = 128 := by
  simp [hdL, sealL_length, hdRaw_length]; omega

def copiesL (L : List Pt) : List Pt := L.zipIdx.map fun x => (1 + (x.2 : Int), x.1.2)
theorem copiesL_length (L : List Pt) : (copiesL L).length = L.length := by simp [copiesL]

def formatR : List Stp := [.write [(0, sec 0)], .flush]
def homeR (L : List Pt) : List Stp := [.write L, .flush, .write [(0, sec 0)], .flush]
def commitR (L : List Pt) : List Stp := [.write (copiesL L), .flush, .write [(0, hdL L)], .flush, .write L, .flush, .write [(0, sec 0)], .flush]

def formatOf (D : Dk) : Int × Dk := if 41 < D.secs.length then plays formatR D else (1, D)
def commitOf (D : Dk) (L : List Pt) : Int × Dk := if mayB L D.secs.length then plays (commitR L) D else (1, D)

/-- the puts that the journal's sectors name -/
def namedL (R : List (List UInt8)) : List Pt :=
  if 40 < le (((R.getD 0 []).drop 4).take 2) then [] else (List.range (le (((R.getD 0 []).drop 4).take 2))).map fun k => ((le (((R.getD 0 []).drop (10 + 2 * k)).take 2) : Nat), R.getD (1 + k) [])
def begunL (R : List (List UInt8)) (size : Int) : List Pt := if mayB (namedL R) size && hdL (namedL R) == R.getD 0 [] then namedL R else []
def rowsL (D : Dk) : List (List UInt8) := (List.range 41).map D.content

def recR (L : List Pt) : List Stp := (if L = [] then [] else [.write L, .flush]) ++ formatR
def recoverOf (D : Dk) : Int × Int × Dk :=
  if ¬ 41 < D.secs.length then (0, 1, D)
  else if D.power = false then (0, 10, D)
  else if D.content 0 = sec 0 then (0, 0, D)
  else (if (plays (recR (begunL (rowsL D) D.secs.length)) D).1 = 0 then ((begunL (rowsL D) D.secs.length).length : Int) else 0, plays (recR (begunL (rowsL D) D.secs.length)) D)

theorem commitOf_len (D : Dk) (L : List Pt) : (commitOf D L).2.secs.length = D.secs.length := by
  unfold commitOf; split
  · exact plays_len _ _
  · rfl
theorem formatOf_len (D : Dk) : (formatOf D).2.secs.length = D.secs.length := by
  unfold formatOf; split
  · exact plays_len _ _
  · rfl
theorem recoverOf_len (D : Dk) : (recoverOf D).2.2.secs.length = D.secs.length := by
  unfold recoverOf
  split; · rfl
  split; · rfl
  split; · rfl
  exact plays_len _ _
theorem formatR_costs : costs formatR = 1 := by simp [costs, formatR, Stp.cost]
theorem commitR_costs (L : List Pt) (h : L.length ≤ 40) : costs (commitR L) ≤ 82 := by simp [costs, commitR, Stp.cost, copiesL_length]; omega
theorem recR_costs (L : List Pt) (h : L.length ≤ 40) : costs (recR L) ≤ 41 := by
  unfold recR; split <;> simp [costs, formatR, Stp.cost] <;> omega
theorem begunL_length (R : List (List UInt8)) (size : Int) : (begunL R size).length ≤ 40 := by
  unfold begunL
  split
  · rename_i h
    simp only [Bool.and_eq_true] at h
    exact ((may_iff _ _).1 h.1).few
  · simp
theorem begunL_may (R : List (List UInt8)) (size : Int) (h : begunL R size ≠ []) : mayB (begunL R size) size = true ∧ hdL (begunL R size) = R.getD 0 [] := by
  unfold begunL at h ⊢
  split at h
  · rename_i h1
    rw [if_pos h1]
    simpa using h1
  · exact absurd rfl h
theorem Fit.commit {n k : Nat} {D : Dk} (h : Fit n k D) (L : List Pt) : Fit n (k + 82) (commitOf D L).2 := by
  refine ⟨(commitOf_len D L).trans h.1, ?_⟩
  have h2 := h.2
  unfold commitOf
  split
  · rename_i hm
    have := plays_waits (commitR L) D
    have := commitR_costs L ((may_iff _ _).1 hm).few
    omega
  · show D.waits.length ≤ _; omega
theorem Fit.format {n k : Nat} {D : Dk} (h : Fit n k D) : Fit n (k + 82) (formatOf D).2 := by
  refine ⟨(formatOf_len D).trans h.1, ?_⟩
  have h2 := h.2
  unfold formatOf
  split
  · have := plays_waits formatR D
    have := formatR_costs
    omega
  · show D.waits.length ≤ _; omega
theorem Fit.recover {n k : Nat} {D : Dk} (h : Fit n k D) : Fit n (k + 82) (recoverOf D).2.2 := by
  refine ⟨(recoverOf_len D).trans h.1, ?_⟩
  have h2 := h.2
  unfold recoverOf
  split; · show D.waits.length ≤ _; omega
  split; · show D.waits.length ≤ _; omega
  split; · show D.waits.length ≤ _; omega
  have := plays_waits (recR (begunL (rowsL D) D.secs.length)) D
  have := recR_costs _ (begunL_length (rowsL D) D.secs.length)
  show (plays _ D).2.waits.length ≤ _
  omega

end Go.Proofs.Ytinfgfgmijjhjaa
