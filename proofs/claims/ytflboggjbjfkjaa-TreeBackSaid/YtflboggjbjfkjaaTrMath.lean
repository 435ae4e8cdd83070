/-
  Pages of a tree, as lists of octets: what a page tells, and that what is laid down tells what was laid.
-/
import Derived.Test.YtflboggjbjfkjaaCrcMath
namespace Go.Proofs.Ytflboggjbjfkjaa
set_option linter.unusedVariables false
set_option linter.unusedSimpArgs false

theorem leB_le : ∀ x : List UInt8, leB x.length (le x) = x
  | [] => rfl
  | b :: r => by
    have h := b.toNat_lt
    have e1 : (b.toNat + 256 * le r) % 256 = b.toNat := by omega
    have e2 : (b.toNat + 256 * le r) / 256 = le r := by omega
    show UInt8.ofNat ((b.toNat + 256 * le r) % 256) :: leB r.length ((b.toNat + 256 * le r) / 256) = b :: r
    rw [e1, e2, leB_le r]
    simp

/-! ### a page -/
def vwN (k : Nat) : Nat := if k = 1 then 8 else 2
def ewN (k : Nat) : Nat := 8 + vwN k
theorem vwN_one : vwN 1 = 8 := rfl
theorem vwN_two : vwN 2 = 2 := rfl
theorem vwN_le (k : Nat) : 1 ≤ vwN k ∧ vwN k ≤ 8 := by unfold vwN; split <;> omega
def entL (k : Nat) (p : Nat × Nat) : List UInt8 := leB 8 p.1 ++ leB (vwN k) p.2
theorem entL_length (k : Nat) (p : Nat × Nat) : (entL k p).length = ewN k := by simp [entL, ewN, leB_length]
def bodyL (k : Nat) (es : List (Nat × Nat)) : List UInt8 := [UInt8.ofNat k, UInt8.ofNat es.length] ++ es.flatMap (entL k)
theorem flatMap_lenT {α : Type} (f : α → List UInt8) (size : Nat) : ∀ L : List α, (∀ x ∈ L, (f x).length = size) → (L.flatMap f).length = size * L.length
  | [], _ => by simp
  | a :: L, h => by
    rw [List.flatMap_cons, List.length_append, h a List.mem_cons_self, flatMap_lenT f size L (fun x hx => h x (List.mem_cons_of_mem _ hx)), List.length_cons, Nat.mul_add]
    omega
theorem bodyL_length (k : Nat) (es : List (Nat × Nat)) : (bodyL k es).length = 2 + ewN k * es.length := by
  simp [bodyL, flatMap_lenT (entL k) (ewN k) es (fun x _ => entL_length k x)]
  omega
def padL (l : List UInt8) : List UInt8 := l ++ List.replicate (128 - l.length) 0
def pageL (k : Nat) (es : List (Nat × Nat)) : List UInt8 := padL (sealL (bodyL k es))
def Fits (k : Nat) (es : List (Nat × Nat)) : Prop := ∀ p ∈ es, p.1 < 18446744073709551616 ∧ p.2 < 256 ^ vwN k
def mayN (k c : Nat) : Bool := decide ((k = 1 ∧ c ≤ 7) ∨ (k = 2 ∧ 1 ≤ c ∧ c ≤ 12))
def kindL (l : List UInt8) : Nat := (l.getD 0 0).toNat
def cntL (l : List UInt8) : Nat := (l.getD 1 0).toNat
def entAt (k : Nat) (l : List UInt8) (i : Nat) : Nat × Nat := (le ((l.drop (2 + ewN k * i)).take 8), le ((l.drop (10 + ewN k * i)).take (vwN k)))
def entsOf (l : List UInt8) : List (Nat × Nat) := (List.range (cntL l)).map (entAt (kindL l) l)
def isP (l : List UInt8) : Bool := decide (l.length = 128) && (mayN (kindL l) (cntL l) && decide (padL (sealL (l.take (2 + ewN (kindL l) * cntL l))) = l))

theorem mayN_cases {k c : Nat} (h : mayN k c = true) : (k = 1 ∧ c ≤ 7) ∨ (k = 2 ∧ 1 ≤ c ∧ c ≤ 12) := by simpa [mayN] using h
theorem mayN_size {k c : Nat} (h : mayN k c = true) : 2 + ewN k * c ≤ 122 := by
  rcases mayN_cases h with ⟨rfl, h⟩ | ⟨rfl, _, h⟩
  · show 2 + 16 * c ≤ 122; omega
  · show 2 + 10 * c ≤ 122; omega
theorem mayN_lt {k c : Nat} (h : mayN k c = true) : k < 256 ∧ c < 256 := by
  rcases mayN_cases h with ⟨rfl, h⟩ | ⟨rfl, _, h⟩ <;> omega
theorem padL_length {l : List UInt8} (h : l.length ≤ 128) : (padL l).length = 128 := by simp [padL]; omega
theorem pageL_length {k : Nat} {es : List (Nat × Nat)} (h : mayN k es.length = true) : (pageL k es).length = 128 := by
  have := mayN_size h
  exact padL_length (by rw [sealL_length, bodyL_length]; omega)

theorem entsOf_length (l : List UInt8) : (entsOf l).length = cntL l := by simp [entsOf]

theorem fits_ents (l : List UInt8) : Fits (kindL l) (entsOf l) := by
  intro p hp
  simp only [entsOf, List.mem_map, List.mem_range] at hp
  obtain ⟨i, _, rfl⟩ := hp
  have h1 := le_lt ((l.drop (2 + ewN (kindL l) * i)).take 8)
  have h2 := le_lt ((l.drop (10 + ewN (kindL l) * i)).take (vwN (kindL l)))
  refine ⟨Nat.lt_of_lt_of_le h1 ?_, Nat.lt_of_lt_of_le h2 (Nat.pow_le_pow_right (by omega) (by simp; omega))⟩
  calc 256 ^ ((l.drop (2 + ewN (kindL l) * i)).take 8).length ≤ 256 ^ 8 := Nat.pow_le_pow_right (by omega) (by simp; omega)
    _ = 18446744073709551616 := by decide

theorem entL_at (k : Nat) (l : List UInt8) (i : Nat) (h : 2 + ewN k * (i + 1) ≤ l.length) : entL k (entAt k l i) = (l.drop (2 + ewN k * i)).take (ewN k) := by
  rw [Nat.mul_add] at h
  have e1 : ((l.drop (2 + ewN k * i)).take 8).length = 8 := by simp; unfold ewN at *; omega
  have e2 : ((l.drop (10 + ewN k * i)).take (vwN k)).length = vwN k := by simp; unfold ewN at *; omega
  unfold entL entAt
  have f1 := leB_le ((l.drop (2 + ewN k * i)).take 8)
  have f2 := leB_le ((l.drop (10 + ewN k * i)).take (vwN k))
  rw [e1] at f1
  rw [e2] at f2
  simp only [f1, f2]
  unfold ewN
  rw [List.take_add, List.drop_drop]
  have e3 : 2 + (8 + vwN k) * i + 8 = 10 + (8 + vwN k) * i := by omega
  rw [e3]

theorem flat_seg {α : Type} (f : Nat → List α) (l : List α) (b s : Nat) : ∀ c : Nat, (∀ i, i < c → f i = (l.drop (b + s * i)).take s) → (List.range c).flatMap f = (l.drop b).take (s * c)
  | 0, _ => by simp
  | c + 1, h => by
    rw [List.range_succ, List.flatMap_append, flat_seg f l b s c (fun i hi => h i (by omega)), Nat.mul_add, Nat.mul_one, List.take_add, List.drop_drop]
    simp [h c (by omega)]

/-- what a page's octets tell is what stands in it -/
theorem body_of (l : List UInt8) (h : 2 + ewN (kindL l) * cntL l ≤ l.length) : bodyL (kindL l) (entsOf l) = l.take (2 + ewN (kindL l) * cntL l) := by
  have h1 : (entsOf l).flatMap (entL (kindL l)) = (l.drop 2).take (ewN (kindL l) * cntL l) := by
    unfold entsOf
    rw [List.flatMap_map]
    refine flat_seg _ l 2 (ewN (kindL l)) (cntL l) fun i hi => entL_at _ _ _ ?_
    have : ewN (kindL l) * (i + 1) ≤ ewN (kindL l) * cntL l := Nat.mul_le_mul_left _ hi
    omega
  have h2 : l.take 2 = [UInt8.ofNat (kindL l), UInt8.ofNat (entsOf l).length] := by
    rw [entsOf_length]
    match l, h with
    | [], h => simp at h
    | [_], h => simp at h; omega
    | a :: b :: r, _ => simp [kindL, cntL]
  unfold bodyL
  rw [h1, List.take_add, h2]

theorem isP_iff {l : List UInt8} (hl : l.length = 128) (hm : mayN (kindL l) (cntL l) = true) : isP l = decide (pageL (kindL l) (entsOf l) = l) := by
  have h := mayN_size hm
  unfold isP pageL
  rw [body_of l (by omega), hm]
  simp [hl]

theorem padL_take (l : List UInt8) (n : Nat) (h : n ≤ l.length) : (padL l).take n = l.take n := by
  unfold padL
  rw [List.take_append_of_le_length h]
theorem sealL_take (l : List UInt8) (n : Nat) (h : n ≤ l.length) : (sealL l).take n = l.take n := by
  unfold sealL
  rw [List.take_append_of_le_length h]
theorem pageL_take (k : Nat) (es : List (Nat × Nat)) : (pageL k es).take (2 + ewN k * es.length) = bodyL k es := by
  unfold pageL
  rw [padL_take _ _ (by rw [sealL_length, bodyL_length]; omega), sealL_take _ _ (by rw [bodyL_length]; omega), ← bodyL_length, List.take_length]
theorem getD_take (l : List UInt8) (n i : Nat) (h : i < n) : (l.take n).getD i 0 = l.getD i 0 := by
  simp [List.getD, List.getElem?_take, h]
theorem pageL_kind {k : Nat} {es : List (Nat × Nat)} (h : mayN k es.length = true) : kindL (pageL k es) = k := by
  have h1 := (mayN_lt h).1
  unfold kindL
  rw [← getD_take _ (2 + ewN k * es.length) 0 (by omega), pageL_take]
  simp [bodyL]
  omega
theorem pageL_cnt {k : Nat} {es : List (Nat × Nat)} (h : mayN k es.length = true) : cntL (pageL k es) = es.length := by
  have h1 := (mayN_lt h).2
  unfold cntL
  rw [← getD_take _ (2 + ewN k * es.length) 1 (by omega), pageL_take]
  simp [bodyL]
  omega

theorem entL_inj {k : Nat} {p q : Nat × Nat} (hp : p.1 < 18446744073709551616 ∧ p.2 < 256 ^ vwN k) (hq : q.1 < 18446744073709551616 ∧ q.2 < 256 ^ vwN k) (h : entL k p = entL k q) : p = q := by
  unfold entL at h
  obtain ⟨h1, h2⟩ := List.append_inj h (by rw [leB_length, leB_length])
  have e1 := congrArg le h1
  have e2 := congrArg le h2
  rw [le_leB 8 _ (by exact hp.1), le_leB 8 _ (by exact hq.1)] at e1
  rw [le_leB _ _ hp.2, le_leB _ _ hq.2] at e2
  exact Prod.ext e1 e2
theorem flat_inj {k : Nat} : ∀ {es fs : List (Nat × Nat)}, Fits k es → Fits k fs → es.length = fs.length → es.flatMap (entL k) = fs.flatMap (entL k) → es = fs
  | [], [], _, _, _, _ => rfl
  | [], _ :: _, _, _, h, _ => by simp at h
  | _ :: _, [], _, _, h, _ => by simp at h
  | p :: es, q :: fs, h1, h2, hl, h => by
    rw [List.flatMap_cons, List.flatMap_cons] at h
    obtain ⟨ha, hb⟩ := List.append_inj h (by rw [entL_length, entL_length])
    rw [entL_inj (h1 p List.mem_cons_self) (h2 q List.mem_cons_self) ha, flat_inj (fun x hx => h1 x (List.mem_cons_of_mem _ hx)) (fun x hx => h2 x (List.mem_cons_of_mem _ hx)) (by simpa using hl) hb]

/-- what was laid in a page is what it tells -/
theorem ents_page {k : Nat} {es : List (Nat × Nat)} (h : mayN k es.length = true) (hf : Fits k es) : entsOf (pageL k es) = es := by
  have hk := pageL_kind h
  have hc := pageL_cnt h
  have hs := mayN_size h
  have hb := body_of (pageL k es) (by rw [hk, hc, pageL_length h]; omega)
  rw [hk, hc, pageL_take] at hb
  have hf2 := fits_ents (pageL k es)
  rw [hk] at hf2
  unfold bodyL at hb
  obtain ⟨_, h2⟩ := List.append_inj hb (by simp)
  exact flat_inj hf2 hf (by rw [entsOf_length, hc]) h2
theorem isP_page {k : Nat} {es : List (Nat × Nat)} (h : mayN k es.length = true) (hf : Fits k es) : isP (pageL k es) = true := by
  rw [isP_iff (pageL_length h) (by rw [pageL_kind h, pageL_cnt h]; exact h), ents_page h hf, pageL_kind h]
  simp
theorem isP_may {l : List UInt8} (h : isP l = true) : l.length = 128 ∧ mayN (kindL l) (cntL l) = true := by
  unfold isP at h
  simp only [Bool.and_eq_true, decide_eq_true_eq] at h
  exact ⟨h.1, h.2.1⟩

/-! ### levels -/
def chunk {α : Type} (m : Nat) (l : List α) : List (List α) := (List.range ((l.length + (m - 1)) / m)).map fun i => (l.drop (m * i)).take m
def partsL (m : Nat) (l : List (Nat × Nat)) : List (List (Nat × Nat)) := if l.length = 0 then [[]] else chunk m l
def leastL (es : List (Nat × Nat)) : Nat := (es.getD 0 (0, 0)).1
def aboveL (base : Nat) (parts : List (List (Nat × Nat))) : List (Nat × Nat) := (List.range parts.length).map fun i => (leastL (parts.getD i []), base + i)
def levelL (k : Nat) (pages : List (List UInt8)) (parts : List (List (Nat × Nat))) : List (List UInt8) × List (Nat × Nat) := (pages ++ parts.map (pageL k), aboveL pages.length parts)
def stepL (s : List (List UInt8) × List (Nat × Nat)) : List (List UInt8) × List (Nat × Nat) := levelL 2 s.1 (partsL 12 s.2)
def runL : Nat → List (List UInt8) × List (Nat × Nat) → List (List UInt8) × List (Nat × Nat)
  | 0, s => s
  | n + 1, s => if s.2.length ≤ 1 then s else runL n (stepL s)
def finL (s : List (List UInt8) × List (Nat × Nat)) : List (List UInt8) := (runL s.2.length s).1
def startL (l : List (Nat × Nat)) : List (List UInt8) × List (Nat × Nat) := levelL 1 [] (partsL 7 l)
def buildL (l : List (Nat × Nat)) : List (List UInt8) := finL (startL l)
def mayL (l : List (Nat × Nat)) : Bool := (List.range (l.length - 1)).all (fun i => decide ((l.getD i (0, 0)).1 < (l.getD (i + 1) (0, 0)).1)) && decide (l.length ≤ 600)

theorem chunk_length {α : Type} (m : Nat) (l : List α) : (chunk m l).length = (l.length + (m - 1)) / m := by simp [chunk]
theorem partsL_length (m : Nat) (l : List (Nat × Nat)) (hm : 0 < m) : (partsL m l).length = max 1 ((l.length + (m - 1)) / m) := by
  unfold partsL
  split
  · rename_i h
    rw [h, Nat.zero_add, Nat.div_eq_of_lt (by omega)]
    rfl
  · rename_i h
    rw [chunk_length]
    have : 1 ≤ (l.length + (m - 1)) / m := (Nat.le_div_iff_mul_le hm).2 (by omega)
    omega
theorem aboveL_length (b : Nat) (parts : List (List (Nat × Nat))) : (aboveL b parts).length = parts.length := by simp [aboveL]
theorem levelL_len (k : Nat) (pages : List (List UInt8)) (parts : List (List (Nat × Nat))) : (levelL k pages parts).1.length = pages.length + parts.length ∧ (levelL k pages parts).2.length = parts.length := by
  simp [levelL, aboveL_length]
theorem stepL_len (s : List (List UInt8) × List (Nat × Nat)) (h : 1 < s.2.length) : (stepL s).2.length = (s.2.length + 11) / 12 ∧ (stepL s).1.length = s.1.length + (s.2.length + 11) / 12 := by
  unfold stepL
  obtain ⟨h1, h2⟩ := levelL_len 2 s.1 (partsL 12 s.2)
  rw [h1, h2, partsL_length _ _ (by omega)]
  omega
theorem runL_more : ∀ (n m : Nat) (s : List (List UInt8) × List (Nat × Nat)), s.2.length ≤ n + 1 → s.2.length ≤ m + 1 → runL n s = runL m s
  | 0, 0, _, _, _ => rfl
  | 0, m + 1, s, h, _ => by simp only [runL]; rw [if_pos (by omega)]
  | n + 1, 0, s, _, h => by simp only [runL]; rw [if_pos (by omega)]
  | n + 1, m + 1, s, h1, h2 => by
    simp only [runL]
    split
    · rfl
    · rename_i h
      have hs := (stepL_len s (by omega)).1
      exact runL_more n m _ (by omega) (by omega)
theorem finL_done (s : List (List UInt8) × List (Nat × Nat)) (h : s.2.length ≤ 1) : finL s = s.1 := by
  unfold finL
  rw [runL_more _ 0 s (by omega) (by omega)]
  rfl
theorem finL_step (s : List (List UInt8) × List (Nat × Nat)) (h : 1 < s.2.length) : finL s = finL (stepL s) := by
  have hs := (stepL_len s h).1
  unfold finL
  obtain ⟨k, hk⟩ : ∃ k, s.2.length = k + 1 := ⟨s.2.length - 1, by omega⟩
  rw [hk]
  simp only [runL]
  rw [if_neg (by omega), runL_more k (stepL s).2.length (stepL s) (by omega) (by omega)]

/-! ### how many -/
def runN : Nat → Nat × Nat → Nat
  | 0, s => s.1
  | n + 1, s => if s.2 ≤ 1 then s.1 else runN n (s.1 + (s.2 + 11) / 12, (s.2 + 11) / 12)
def finN (s : Nat × Nat) : Nat := runN s.2 s
def pagesN (n : Nat) : Nat := finN (max 1 ((n + 6) / 7), max 1 ((n + 6) / 7))
theorem runN_more : ∀ (n m : Nat) (s : Nat × Nat), s.2 ≤ n + 1 → s.2 ≤ m + 1 → runN n s = runN m s
  | 0, 0, _, _, _ => rfl
  | 0, m + 1, s, h, _ => by simp only [runN]; rw [if_pos (by omega)]
  | n + 1, 0, s, _, h => by simp only [runN]; rw [if_pos (by omega)]
  | n + 1, m + 1, s, h1, h2 => by
    simp only [runN]
    split
    · rfl
    · exact runN_more n m _ (by simp only []; omega) (by simp only []; omega)
theorem finN_done (s : Nat × Nat) (h : s.2 ≤ 1) : finN s = s.1 := by
  unfold finN
  rw [runN_more _ 0 s (by omega) (by omega)]
  rfl
theorem finN_step (s : Nat × Nat) (h : 1 < s.2) : finN s = finN (s.1 + (s.2 + 11) / 12, (s.2 + 11) / 12) := by
  unfold finN
  obtain ⟨k, hk⟩ : ∃ k, s.2 = k + 1 := ⟨s.2 - 1, by omega⟩
  rw [hk]
  simp only [runN]
  rw [hk, if_neg (by omega), runN_more k ((k + 1 + 11) / 12) _ (by simp only []; omega) (by simp only []; omega)]
theorem finL_length : ∀ (n : Nat) (s : List (List UInt8) × List (Nat × Nat)), s.2.length ≤ n → (finL s).length = finN (s.1.length, s.2.length) := by
  intro n
  induction n with
  | zero => intro s h; rw [finL_done s (by omega), finN_done _ (by simp only []; omega)]
  | succ n ih =>
    intro s h
    by_cases h1 : s.2.length ≤ 1
    · rw [finL_done s h1, finN_done _ (by simp only []; omega)]
    · obtain ⟨e1, e2⟩ := stepL_len s (by omega)
      rw [finL_step s (by omega), ih _ (by omega), e1, e2, finN_step (s.1.length, s.2.length) (by simp only []; omega)]
theorem buildL_length (l : List (Nat × Nat)) : (buildL l).length = pagesN l.length := by
  unfold buildL pagesN
  rw [finL_length _ _ (Nat.le_refl _)]
  unfold startL
  obtain ⟨h1, h2⟩ := levelL_len 1 [] (partsL 7 l)
  rw [h1, h2, partsL_length _ _ (by omega)]
  simp

end Go.Proofs.Ytflboggjbjfkjaa
