/-
  A piece of the proof, laid together by program: TrMath TrLook SpMath SpE HtMath SrtA SrtB SrtC.
-/
import Derived.Test.YtjcmphjjkeigjaaGreatPbA
import Derived.Test.YtjcmphjjkeigjaaGreatPbB
import Derived.Sort.LotA
import Derived.Sort.LotB
import Derived.Sort.LotC
import Derived.Sort.LotD3
import Derived.BigQuiet
import Derived.CellFam
import Derived.BigCall
import Derived.BigGuard
import Derived.Deep.DeepCutAuto

namespace Go.Proofs.YtjcmphjjkeigjaaGreat
set_option linter.unusedVariables false
set_option linter.unusedSimpArgs false

theorem leB_le : ∀ x : List UInt8, leB x.length (le x) = x
  | [] => rfl
  | b :: r => by
    have h := b.toNat_lt
    have e1 : (b.toNat + 256 * le r) % 256 = b.toNat := by omega
    have e2 : (b.toNat + 256 * le r) / 256 = le r := by omega
    show UInt8.ofNat ((b.toNat + 256 * le r) % 256) :: leB r.length ((b.toNat + 256 * le r) / 256) = b :: r
    rw [e1, e2, leB_le r]
    simp

/-! ### a page -/
def vwN (k : Nat) : Nat := if k = 1 then 8 else 2
def ewN (k : Nat) : Nat := 8 + vwN k
theorem vwN_one : vwN 1 = 8 := rfl
theorem vwN_le (k : Nat) : 1 ≤ vwN k ∧ vwN k ≤ 8 := by unfold vwN; split <;> omega
def entL (k : Nat) (p : Nat × Nat) : List UInt8 := leB 8 p.1 ++ leB (vwN k) p.2
theorem entL_length (k : Nat) (p : Nat × Nat) : (entL k p).length = ewN k := by simp [entL, ewN, leB_length]
def bodyL (k : Nat) (es : List (Nat × Nat)) : List UInt8 := [UInt8.ofNat k, UInt8.ofNat es.length] ++ es.flatMap (entL k)
theorem flatMap_lenT {α : Type} (f : α → List UInt8) (size : Nat) : ∀ L : List α, (∀ x ∈ L, (f x).length = size) → (L.flatMap f).length = size * L.length
  | [], _ => by simp
  | a :: L, h => by
    rw [List.flatMap_cons, List.length_append, h a List.mem_cons_self, flatMap_lenT f size L (fun x hx => h x (List.mem_cons_of_mem _ hx)), List.length_cons, Nat.mul_add]
    omega
theorem bodyL_length (k : Nat) (es : List (Nat × Nat)) : (bodyL k es).length = 2 + ewN k * es.length := by
  simp [bodyL, flatMap_lenT (entL k) (ewN k) es (fun x _ => entL_length k x)]
  omega
def padL (l : List UInt8) : List UInt8 := l ++ List.replicate (128 - l.length) 0
def pageL (k : Nat) (es : List (Nat × Nat)) : List UInt8 := padL (sealL (bodyL k es))
def FitsT (k : Nat) (es : List (Nat × Nat)) : Prop := ∀ p ∈ es, p.1 < 18446744073709551616 ∧ p.2 < 256 ^ vwN k
def mayN (k c : Nat) : Bool := decide ((k = 1 ∧ c ≤ 7) ∨ (k = 2 ∧ 1 ≤ c ∧ c ≤ 12))
def kindL (l : List UInt8) : Nat := (l.getD 0 0).toNat
def cntL (l : List UInt8) : Nat := (l.getD 1 0).toNat
def entAt (k : Nat) (l : List UInt8) (i : Nat) : Nat × Nat := (le ((l.drop (2 + ewN k * i)).take 8), le ((l.drop (10 + ewN k * i)).take (vwN k)))
def entsOf (l : List UInt8) : List (Nat × Nat) := (List.range (cntL l)).map (entAt (kindL l) l)
def isP (l : List UInt8) : Bool := decide (l.length = 128) && (mayN (kindL l) (cntL l) && decide (padL (sealL (l.take (2 + ewN (kindL l) * cntL l))) = l))

theorem mayN_cases {k c : Nat} (h : mayN k c = true) : (k = 1 ∧ c ≤ 7) ∨ (k = 2 ∧ 1 ≤ c ∧ c ≤ 12) := by simpa [mayN] using h
theorem mayN_size {k c : Nat} (h : mayN k c = true) : 2 + ewN k * c ≤ 122 := by
  rcases mayN_cases h with ⟨rfl, h⟩ | ⟨rfl, _, h⟩
  · show 2 + 16 * c ≤ 122; omega
  · show 2 + 10 * c ≤ 122; omega
theorem mayN_lt {k c : Nat} (h : mayN k c = true) : k < 256 ∧ c < 256 := by
  rcases mayN_cases h with ⟨rfl, h⟩ | ⟨rfl, _, h⟩ <;> omega
theorem padL_length {l : List UInt8} (h : l.length ≤ 128) : (padL l).length = 128 := by simp [padL]; omega
theorem pageL_length {k : Nat} {es : List (Nat × Nat)} (h : mayN k es.length = true) : (pageL k es).length = 128 := by
  have := mayN_size h
  exact padL_length (by rw [sealL_length, bodyL_length]; omega)

theorem entsOf_length (l : List UInt8) : (entsOf l).length = cntL l := by simp [entsOf]

theorem fits_ents (l : List UInt8) : FitsT (kindL l) (entsOf l) := by
  intro p hp
  simp only [entsOf, List.mem_map, List.mem_range] at hp
  obtain ⟨i, _, rfl⟩ := hp
  have h1 := le_lt ((l.drop (2 + ewN (kindL l) * i)).take 8)
  have h2 := le_lt ((l.drop (10 + ewN (kindL l) * i)).take (vwN (kindL l)))
  refine ⟨Nat.lt_of_lt_of_le h1 ?_, Nat.lt_of_lt_of_le h2 (Nat.pow_le_pow_right (by omega) (by simp; omega))⟩
  calc 256 ^ ((l.drop (2 + ewN (kindL l) * i)).take 8).length ≤ 256 ^ 8 := Nat.pow_le_pow_right (by omega) (by simp; omega)
    _ = 18446744073709551616 := by decide

theorem entL_at (k : Nat) (l : List UInt8) (i : Nat) (h : 2 + ewN k * (i + 1) ≤ l.length) : entL k (entAt k l i) = (l.drop (2 + ewN k * i)).take (ewN k) := by
  rw [Nat.mul_add] at h
  have e1 : ((l.drop (2 + ewN k * i)).take 8).length = 8 := by simp; unfold ewN at *; omega
  have e2 : ((l.drop (10 + ewN k * i)).take (vwN k)).length = vwN k := by simp; unfold ewN at *; omega
  unfold entL entAt
  have f1 := leB_le ((l.drop (2 + ewN k * i)).take 8)
  have f2 := leB_le ((l.drop (10 + ewN k * i)).take (vwN k))
  rw [e1] at f1
  rw [e2] at f2
  simp only [f1, f2]
  unfold ewN
  rw [List.take_add, List.drop_drop]
  have e3 : 2 + (8 + vwN k) * i + 8 = 10 + (8 + vwN k) * i := by omega
  rw [e3]

theorem flat_seg {α : Type} (f : Nat → List α) (l : List α) (b s : Nat) : ∀ c : Nat, (∀ i, i < c → f i = (l.drop (b + s * i)).take s) → (List.range c).flatMap f = (l.drop b).take (s * c)
  | 0, _ => by simp
  | c + 1, h => by
    rw [List.range_succ, List.flatMap_append, flat_seg f l b s c (fun i hi => h i (by omega)), Nat.mul_add, Nat.mul_one, List.take_add, List.drop_drop]
    simp [h c (by omega)]

/-- what a page's octets tell is what stands in it -/
theorem body_of (l : List UInt8) (h : 2 + ewN (kindL l) * cntL l ≤ l.length) : bodyL (kindL l) (entsOf l) = l.take (2 + ewN (kindL l) * cntL l) := by
  have h1 : (entsOf l).flatMap (entL (kindL l)) = (l.drop 2).take (ewN (kindL l) * cntL l) := by
    unfold entsOf
    rw [List.flatMap_map]
    refine flat_seg _ l 2 (ewN (kindL l)) (cntL l) fun i hi => entL_at _ _ _ ?_
    have : ewN (kindL l) * (i + 1) ≤ ewN (kindL l) * cntL l := Nat.mul_le_mul_left _ hi
    omega
  have h2 : l.take 2 = [UInt8.ofNat (kindL l), UInt8.ofNat (entsOf l).length] := by
    rw [entsOf_length]
    match l, h with
    | [], h => simp at h
    | [_], h => simp at h; omega
    | a :: b :: r, _ => simp [kindL, cntL]
  unfold bodyL
  rw [h1, List.take_add, h2]

theorem isP_iff {l : List UInt8} (hl : l.length = 128) (hm : mayN (kindL l) (cntL l) = true) : isP l = decide (pageL (kindL l) (entsOf l) = l) := by
  have h := mayN_size hm
  unfold isP pageL
  rw [body_of l (by omega), hm]
  simp [hl]

theorem padL_take (l : List UInt8) (n : Nat) (h : n ≤ l.length) : (padL l).take n = l.take n := by
  unfold padL
  rw [List.take_append_of_le_length h]
theorem sealL_take (l : List UInt8) (n : Nat) (h : n ≤ l.length) : (sealL l).take n = l.take n := by
  unfold sealL
  rw [List.take_append_of_le_length h]
theorem pageL_take (k : Nat) (es : List (Nat × Nat)) : (pageL k es).take (2 + ewN k * es.length) = bodyL k es := by
  unfold pageL
  rw [padL_take _ _ (by rw [sealL_length, bodyL_length]; omega), sealL_take _ _ (by rw [bodyL_length]; omega), ← bodyL_length, List.take_length]
theorem getD_take (l : List UInt8) (n i : Nat) (h : i < n) : (l.take n).getD i 0 = l.getD i 0 := by
  simp [List.getD, List.getElem?_take, h]
theorem pageL_kind {k : Nat} {es : List (Nat × Nat)} (h : mayN k es.length = true) : kindL (pageL k es) = k := by
  have h1 := (mayN_lt h).1
  unfold kindL
  rw [← getD_take _ (2 + ewN k * es.length) 0 (by omega), pageL_take]
  simp [bodyL]
  omega
theorem pageL_cnt {k : Nat} {es : List (Nat × Nat)} (h : mayN k es.length = true) : cntL (pageL k es) = es.length := by
  have h1 := (mayN_lt h).2
  unfold cntL
  rw [← getD_take _ (2 + ewN k * es.length) 1 (by omega), pageL_take]
  simp [bodyL]
  omega

theorem entL_inj {k : Nat} {p q : Nat × Nat} (hp : p.1 < 18446744073709551616 ∧ p.2 < 256 ^ vwN k) (hq : q.1 < 18446744073709551616 ∧ q.2 < 256 ^ vwN k) (h : entL k p = entL k q) : p = q := by
  unfold entL at h
  obtain ⟨h1, h2⟩ := List.append_inj h (by rw [leB_length, leB_length])
  have e1 := congrArg le h1
  have e2 := congrArg le h2
  rw [le_leB 8 _ (by exact hp.1), le_leB 8 _ (by exact hq.1)] at e1
  rw [le_leB _ _ hp.2, le_leB _ _ hq.2] at e2
  exact Prod.ext e1 e2
theorem flat_inj {k : Nat} : ∀ {es fs : List (Nat × Nat)}, FitsT k es → FitsT k fs → es.length = fs.length → es.flatMap (entL k) = fs.flatMap (entL k) → es = fs
  | [], [], _, _, _, _ => rfl
  | [], _ :: _, _, _, h, _ => by simp at h
  | _ :: _, [], _, _, h, _ => by simp at h
  | p :: es, q :: fs, h1, h2, hl, h => by
    rw [List.flatMap_cons, List.flatMap_cons] at h
    obtain ⟨ha, hb⟩ := List.append_inj h (by rw [entL_length, entL_length])
    rw [entL_inj (h1 p List.mem_cons_self) (h2 q List.mem_cons_self) ha, flat_inj (fun x hx => h1 x (List.mem_cons_of_mem _ hx)) (fun x hx => h2 x (List.mem_cons_of_mem _ hx)) (by simpa using hl) hb]

/-- what was laid in a page is what it tells -/
theorem ents_page {k : Nat} {es : List (Nat × Nat)} (h : mayN k es.length = true) (hf : FitsT k es) : entsOf (pageL k es) = es := by
  have hk := pageL_kind h
  have hc := pageL_cnt h
  have hs := mayN_size h
  have hb := body_of (pageL k es) (by rw [hk, hc, pageL_length h]; omega)
  rw [hk, hc, pageL_take] at hb
  have hf2 := fits_ents (pageL k es)
  rw [hk] at hf2
  unfold bodyL at hb
  obtain ⟨_, h2⟩ := List.append_inj hb (by simp)
  exact flat_inj hf2 hf (by rw [entsOf_length, hc]) h2
theorem isP_page {k : Nat} {es : List (Nat × Nat)} (h : mayN k es.length = true) (hf : FitsT k es) : isP (pageL k es) = true := by
  rw [isP_iff (pageL_length h) (by rw [pageL_kind h, pageL_cnt h]; exact h), ents_page h hf, pageL_kind h]
  simp
theorem isP_may {l : List UInt8} (h : isP l = true) : l.length = 128 ∧ mayN (kindL l) (cntL l) = true := by
  unfold isP at h
  simp only [Bool.and_eq_true, decide_eq_true_eq] at h
  exact ⟨h.1, h.2.1⟩

/-! ### levels -/
def chunk {α : Type} (m : Nat) (l : List α) : List (List α) := (List.range ((l.length + (m - 1)) / m)).map fun i => (l.drop (m * i)).take m
def partsL (m : Nat) (l : List (Nat × Nat)) : List (List (Nat × Nat)) := if l.length = 0 then [[]] else chunk m l
def leastL (es : List (Nat × Nat)) : Nat := (es.getD 0 (0, 0)).1
def aboveL (base : Nat) (parts : List (List (Nat × Nat))) : List (Nat × Nat) := (List.range parts.length).map fun i => (leastL (parts.getD i []), base + i)
def levelL (k : Nat) (pages : List (List UInt8)) (parts : List (List (Nat × Nat))) : List (List UInt8) × List (Nat × Nat) := (pages ++ parts.map (pageL k), aboveL pages.length parts)
def stepL (s : List (List UInt8) × List (Nat × Nat)) : List (List UInt8) × List (Nat × Nat) := levelL 2 s.1 (partsL 12 s.2)
def runL : Nat → List (List UInt8) × List (Nat × Nat) → List (List UInt8) × List (Nat × Nat)
  | 0, s => s
  | n + 1, s => if s.2.length ≤ 1 then s else runL n (stepL s)
def finL (s : List (List UInt8) × List (Nat × Nat)) : List (List UInt8) := (runL s.2.length s).1
def startL (l : List (Nat × Nat)) : List (List UInt8) × List (Nat × Nat) := levelL 1 [] (partsL 7 l)
def buildL (l : List (Nat × Nat)) : List (List UInt8) := finL (startL l)
def mayL (l : List (Nat × Nat)) : Bool := (List.range (l.length - 1)).all (fun i => decide ((l.getD i (0, 0)).1 < (l.getD (i + 1) (0, 0)).1)) && decide (l.length ≤ 600)

theorem chunk_length {α : Type} (m : Nat) (l : List α) : (chunk m l).length = (l.length + (m - 1)) / m := by simp [chunk]
theorem partsL_length (m : Nat) (l : List (Nat × Nat)) (hm : 0 < m) : (partsL m l).length = max 1 ((l.length + (m - 1)) / m) := by
  unfold partsL
  split
  · rename_i h
    rw [h, Nat.zero_add, Nat.div_eq_of_lt (by omega)]
    rfl
  · rename_i h
    rw [chunk_length]
    have : 1 ≤ (l.length + (m - 1)) / m := (Nat.le_div_iff_mul_le hm).2 (by omega)
    omega
theorem aboveL_length (b : Nat) (parts : List (List (Nat × Nat))) : (aboveL b parts).length = parts.length := by simp [aboveL]
theorem levelL_len (k : Nat) (pages : List (List UInt8)) (parts : List (List (Nat × Nat))) : (levelL k pages parts).1.length = pages.length + parts.length ∧ (levelL k pages parts).2.length = parts.length := by
  simp [levelL, aboveL_length]
theorem stepL_len (s : List (List UInt8) × List (Nat × Nat)) (h : 1 < s.2.length) : (stepL s).2.length = (s.2.length + 11) / 12 ∧ (stepL s).1.length = s.1.length + (s.2.length + 11) / 12 := by
  unfold stepL
  obtain ⟨h1, h2⟩ := levelL_len 2 s.1 (partsL 12 s.2)
  rw [h1, h2, partsL_length _ _ (by omega)]
  omega
theorem runL_more : ∀ (n m : Nat) (s : List (List UInt8) × List (Nat × Nat)), s.2.length ≤ n + 1 → s.2.length ≤ m + 1 → runL n s = runL m s
  | 0, 0, _, _, _ => rfl
  | 0, m + 1, s, h, _ => by simp only [runL]; rw [if_pos (by omega)]
  | n + 1, 0, s, _, h => by simp only [runL]; rw [if_pos (by omega)]
  | n + 1, m + 1, s, h1, h2 => by
    simp only [runL]
    split
    · rfl
    · rename_i h
      have hs := (stepL_len s (by omega)).1
      exact runL_more n m _ (by omega) (by omega)
theorem finL_done (s : List (List UInt8) × List (Nat × Nat)) (h : s.2.length ≤ 1) : finL s = s.1 := by
  unfold finL
  rw [runL_more _ 0 s (by omega) (by omega)]
  rfl
theorem finL_step (s : List (List UInt8) × List (Nat × Nat)) (h : 1 < s.2.length) : finL s = finL (stepL s) := by
  have hs := (stepL_len s h).1
  unfold finL
  obtain ⟨k, hk⟩ : ∃ k, s.2.length = k + 1 := ⟨s.2.length - 1, by omega⟩
  rw [hk]
  simp only [runL]
  rw [if_neg (by omega), runL_more k (stepL s).2.length (stepL s) (by omega) (by omega)]

/-! ### how many -/
def runN : Nat → Nat × Nat → Nat
  | 0, s => s.1
  | n + 1, s => if s.2 ≤ 1 then s.1 else runN n (s.1 + (s.2 + 11) / 12, (s.2 + 11) / 12)
def finN (s : Nat × Nat) : Nat := runN s.2 s
def pagesN (n : Nat) : Nat := finN (max 1 ((n + 6) / 7), max 1 ((n + 6) / 7))
theorem runN_more : ∀ (n m : Nat) (s : Nat × Nat), s.2 ≤ n + 1 → s.2 ≤ m + 1 → runN n s = runN m s
  | 0, 0, _, _, _ => rfl
  | 0, m + 1, s, h, _ => by simp only [runN]; rw [if_pos (by omega)]
  | n + 1, 0, s, _, h => by simp only [runN]; rw [if_pos (by omega)]
  | n + 1, m + 1, s, h1, h2 => by
    simp only [runN]
    split
    · rfl
    · exact runN_more n m _ (by simp only []; omega) (by simp only []; omega)
theorem finN_done (s : Nat × Nat) (h : s.2 ≤ 1) : finN s = s.1 := by
  unfold finN
  rw [runN_more _ 0 s (by omega) (by omega)]
  rfl
theorem finN_step (s : Nat × Nat) (h : 1 < s.2) : finN s = finN (s.1 + (s.2 + 11) / 12, (s.2 + 11) / 12) := by
  unfold finN
  obtain ⟨k, hk⟩ : ∃ k, s.2 = k + 1 := ⟨s.2 - 1, by omega⟩
  rw [hk]
  simp only [runN]
  rw [hk, if_neg (by omega), runN_more k ((k + 1 + 11) / 12) _ (by simp only []; omega) (by simp only []; omega)]
theorem finL_length : ∀ (n : Nat) (s : List (List UInt8) × List (Nat × Nat)), s.2.length ≤ n → (finL s).length = finN (s.1.length, s.2.length) := by
  intro n
  induction n with
  | zero => intro s h; rw [finL_done s (by omega), finN_done _ (by simp only []; omega)]
  | succ n ih =>
    intro s h
    by_cases h1 : s.2.length ≤ 1
    · rw [finL_done s h1, finN_done _ (by simp only []; omega)]
    · obtain ⟨e1, e2⟩ := stepL_len s (by omega)
      rw [finL_step s (by omega), ih _ (by omega), e1, e2, finN_step (s.1.length, s.2.length) (by simp only []; omega)]
theorem buildL_length (l : List (Nat × Nat)) : (buildL l).length = pagesN l.length := by
  unfold buildL pagesN
  rw [finL_length _ _ (Nat.le_refl _)]
  unfold startL
  obtain ⟨h1, h2⟩ := levelL_len 1 [] (partsL 7 l)
  rw [h1, h2, partsL_length _ _ (by omega)]
  simp

end Go.Proofs.YtjcmphjjkeigjaaGreat

namespace Go.Proofs.YtjcmphjjkeigjaaGreat
set_option linter.unusedVariables false
set_option linter.unusedSimpArgs false

abbrev LvS := List (List UInt8) × List (Nat × Nat)
def lastLe : List (Nat × Nat) → Nat → Option (Nat × Nat)
  | [], _ => none
  | x :: es, key => match lastLe es key with
    | some y => some y
    | none => if x.1 ≤ key then some x else none
def valAt (es : List (Nat × Nat)) (key : Nat) : Option Nat := (es.find? fun p => decide (p.1 = key)).map (·.2)
def leafEnts (b : List UInt8) : List (Nat × Nat) := if kindL b = 1 then entsOf b else []
def valR (r : Nat) : Option Nat → Nat × Nat × Nat
  | some v => (v, r, 0)
  | none => (0, r, 6)
def findF (P : List (List UInt8)) (key : Nat) : Nat → Nat → Nat → Nat × Nat × Nat
  | 0, _, _ => (0, 0, 3)
  | f + 1, at_, r =>
    if isP (P.getD at_ []) = true then
      if kindL (P.getD at_ []) = 1 then valR r (valAt (entsOf (P.getD at_ [])) key)
      else match lastLe (entsOf (P.getD at_ [])) key with
        | none => (0, r, 6)
        | some p => if at_ ≤ p.2 then (0, 0, 3) else findF P key f p.2 (r + 1)
    else (0, 0, 3)
/-! ### the last that is not above -/
theorem lastLe_mem : ∀ {es : List (Nat × Nat)} {key : Nat} {y : Nat × Nat}, lastLe es key = some y → y ∈ es ∧ y.1 ≤ key
  | [], _, _, h => by simp [lastLe] at h
  | x :: es, key, y, h => by
    simp only [lastLe] at h
    split at h
    · rename_i z hz
      obtain rfl : z = y := by simpa using h
      exact ⟨List.mem_cons_of_mem _ (lastLe_mem hz).1, (lastLe_mem hz).2⟩
    · split at h
      · rename_i hx
        obtain rfl : x = y := by simpa using h
        exact ⟨List.mem_cons_self, hx⟩
      · cases h
theorem lastLe_none : ∀ {es : List (Nat × Nat)} {key : Nat}, lastLe es key = none ↔ ∀ x ∈ es, key < x.1
  | [], _ => by simp [lastLe]
  | x :: es, key => by
    have ih := lastLe_none (es := es) (key := key)
    simp only [lastLe]
    split
    · rename_i z hz
      constructor
      · intro h; cases h
      · intro h
        have := ih.2 (fun x hx => h x (List.mem_cons_of_mem _ hx))
        rw [hz] at this
        cases this
    · rename_i hz
      split
      · rename_i hx
        constructor
        · intro h; cases h
        · intro h; have := h x List.mem_cons_self; omega
      · rename_i hx
        refine ⟨fun _ y hy => ?_, fun _ => rfl⟩
        rcases List.mem_cons.1 hy with rfl | hy
        · omega
        · exact ih.1 hz y hy
theorem lastLe_append (es fs : List (Nat × Nat)) (key : Nat) : lastLe (es ++ fs) key = (match lastLe fs key with | some y => some y | none => lastLe es key) := by
  induction es with
  | nil => simp only [List.nil_append, lastLe]; split <;> simp_all
  | cons x es ih =>
    simp only [List.cons_append, lastLe, ih]
    cases lastLe fs key <;> rfl
theorem valAt_last : ∀ (es : List (Nat × Nat)) (key : Nat), es.Pairwise (fun a b => a.1 < b.1) → valAt es key = (lastLe es key).bind fun p => if p.1 = key then some p.2 else none
  | [], _, _ => rfl
  | x :: es, key, h => by
    obtain ⟨h1, h2⟩ := List.pairwise_cons.1 h
    have ih := valAt_last es key h2
    simp only [lastLe]
    split
    · rename_i y hy
      obtain ⟨m1, m2⟩ := lastLe_mem hy
      have := h1 y m1
      rw [hy] at ih
      rw [← ih]
      unfold valAt
      rw [List.find?_cons_of_neg (by simp; omega)]
    · rename_i hn
      rw [hn] at ih
      unfold valAt at ih ⊢
      by_cases hx : x.1 = key
      · rw [List.find?_cons_of_pos (by simp [hx])]
        simp [hx]
      · rw [List.find?_cons_of_neg (by simp [hx]), ih]
        by_cases hle : x.1 ≤ key
        · simp [hle, hx]
        · simp [hle]

/-! ### parts -/
theorem chunk_flat {α : Type} (m : Nat) (l : List α) (hm : 0 < m) : (chunk m l).flatten = l := by
  have h := flat_seg (fun i => (l.drop (m * i)).take m) l 0 m ((l.length + (m - 1)) / m) (fun i _ => by simp)
  unfold chunk
  rw [← List.flatMap_def, h, List.drop_zero]
  apply List.take_of_length_le
  have := Nat.lt_mul_div_succ (l.length + (m - 1)) hm
  rw [Nat.mul_add] at this
  omega
theorem partsL_flat (m : Nat) (l : List (Nat × Nat)) (hm : 0 < m) : (partsL m l).flatten = l := by
  unfold partsL
  split
  · rename_i h
    rw [List.eq_nil_of_length_eq_zero h]
    rfl
  · exact chunk_flat m l hm
theorem partsL_part {m : Nat} {l : List (Nat × Nat)} (hm : 0 < m) {p : List (Nat × Nat)} (h : p ∈ partsL m l) : p.length ≤ m ∧ p.Sublist l ∧ (l.length ≠ 0 → p ≠ []) := by
  unfold partsL at h
  split at h
  · rename_i h0
    obtain rfl : p = [] := by simpa using h
    exact ⟨by simp, List.nil_sublist _, fun h => absurd h0 h⟩
  · rename_i h0
    unfold chunk at h
    simp only [List.mem_map, List.mem_range] at h
    obtain ⟨i, hi, rfl⟩ := h
    have h1 := (Nat.le_div_iff_mul_le hm).1 hi
    rw [Nat.succ_mul, Nat.mul_comm] at h1
    refine ⟨by simp; omega, (List.take_sublist _ _).trans (List.drop_sublist _ _), fun _ he => ?_⟩
    have := congrArg List.length he
    simp at this
    omega
theorem aboveL_nil (b : Nat) : aboveL b [] = [] := rfl
theorem aboveL_cons (b : Nat) (p : List (Nat × Nat)) (ps : List (List (Nat × Nat))) : aboveL b (p :: ps) = (leastL p, b) :: aboveL (b + 1) ps := by
  unfold aboveL
  rw [List.length_cons, List.range_succ_eq_map, List.map_cons, List.map_map]
  congr 1
  apply List.map_congr_left
  intro i _
  simp
  omega
theorem aboveL_mem {b : Nat} {ps : List (List (Nat × Nat))} {x : Nat × Nat} (h : x ∈ aboveL b ps) : ∃ j p, ps[j]? = some p ∧ x = (leastL p, b + j) := by
  unfold aboveL at h
  simp only [List.mem_map, List.mem_range] at h
  obtain ⟨i, hi, rfl⟩ := h
  exact ⟨i, ps.getD i [], by simp [List.getD, List.getElem?_eq_getElem hi], rfl⟩
theorem leastL_mem {p : List (Nat × Nat)} (h : p ≠ []) : ∃ x ∈ p, leastL p = x.1 := by
  cases p with
  | nil => exact absurd rfl h
  | cons x p => exact ⟨x, List.mem_cons_self, rfl⟩
theorem least_le {p : List (Nat × Nat)} (h : p.Pairwise fun a b => a.1 < b.1) : ∀ x ∈ p, leastL p ≤ x.1 := by
  cases p with
  | nil => intro x hx; cases hx
  | cons y p =>
    intro x hx
    rcases List.mem_cons.1 hx with rfl | hx
    · exact Nat.le_refl _
    · exact Nat.le_of_lt ((List.pairwise_cons.1 h).1 x hx)
theorem above_sorted : ∀ (b : Nat) (ps : List (List (Nat × Nat))), (∀ p ∈ ps, p ≠ []) → ps.flatten.Pairwise (fun a b => a.1 < b.1) → (aboveL b ps).Pairwise fun a b => a.1 < b.1
  | _, [], _, _ => by simp [aboveL_nil]
  | b, p :: ps, h, hs => by
    rw [List.flatten_cons, List.pairwise_append] at hs
    obtain ⟨h1, h2, h3⟩ := hs
    rw [aboveL_cons, List.pairwise_cons]
    refine ⟨fun y hy => ?_, above_sorted _ ps (fun q hq => h q (List.mem_cons_of_mem _ hq)) h2⟩
    obtain ⟨j, q, hq, rfl⟩ := aboveL_mem hy
    have hqm := List.mem_of_getElem? hq
    obtain ⟨x, hx, e1⟩ := leastL_mem (h p List.mem_cons_self)
    obtain ⟨z, hz, e2⟩ := leastL_mem (h q (List.mem_cons_of_mem _ hqm))
    simp only [e1, e2]
    exact h3 x hx z (List.mem_flatten.2 ⟨q, hqm, hz⟩)

/-- the last part whose least is not above is where the last one that is not above stands -/
theorem pick_part (key : Nat) : ∀ (b : Nat) (ps : List (List (Nat × Nat))), (∀ p ∈ ps, ∀ x ∈ p, leastL p ≤ x.1) →
    (lastLe (aboveL b ps) key = none ∧ (∀ p ∈ ps, key < leastL p) ∧ lastLe ps.flatten key = none) ∨
    ∃ j p, ps[j]? = some p ∧ leastL p ≤ key ∧ lastLe (aboveL b ps) key = some (leastL p, b + j) ∧ (p ≠ [] → lastLe p key ≠ none) ∧ (p ≠ [] ∨ ps.length = 1 → lastLe ps.flatten key = lastLe p key)
  | _, [], _ => .inl ⟨rfl, by simp, rfl⟩
  | b, p :: ps, h => by
    rcases pick_part key (b + 1) ps (fun q hq => h q (List.mem_cons_of_mem _ hq)) with ⟨h1, h2, h3⟩ | ⟨j, q, h1, h2, h3, h4, h5⟩
    · by_cases hk : leastL p ≤ key
      · refine .inr ⟨0, p, rfl, hk, by rw [aboveL_cons, lastLe, h1]; simp [hk], fun hp hn => ?_, fun _ => by rw [List.flatten_cons, lastLe_append, h3]⟩
        obtain ⟨x, hx, e⟩ := leastL_mem hp
        have := lastLe_none.1 hn x hx
        omega
      · refine .inl ⟨by rw [aboveL_cons, lastLe, h1]; simp [hk], fun q hq => ?_, ?_⟩
        · rcases List.mem_cons.1 hq with rfl | hq
          · omega
          · exact h2 q hq
        · rw [List.flatten_cons, lastLe_append, h3]
          refine lastLe_none.2 fun x hx => ?_
          have := h p List.mem_cons_self x hx
          omega
    · refine .inr ⟨j + 1, q, by simpa using h1, h2, by rw [aboveL_cons, lastLe, h3]; simp; omega, h4, fun hq => ?_⟩
      have hq2 : q ≠ [] := by
        rcases hq with hq | hq
        · exact hq
        · have := (List.getElem?_eq_some_iff.1 h1).1
          rw [List.length_cons] at hq
          omega
      have h6 := h5 (.inl hq2)
      rw [List.flatten_cons, lastLe_append, h6]
      cases hl : lastLe q key with
      | none => exact absurd hl (h4 hq2)
      | some y => rfl

/-! ### a level, and what is found below it -/
structure Look (l : List (Nat × Nat)) (s : LvS) (d : Nat) : Prop where
  ne : s.2.length ≠ 0
  last : ∀ x, s.2 = [x] → x.2 + 1 = s.1.length
  sorted : s.2.Pairwise fun a b => a.1 < b.1
  fit : FitsT 2 s.2
  small : s.1.length + s.2.length ≤ 1000
  page : ∀ b ∈ s.1, isP b = true
  flat : s.1.flatMap leafEnts = l
  hit : ∀ key p, lastLe s.2 key = some p → p.2 < s.1.length ∧ ∀ M f r, p.2 < f → findF (s.1 ++ M) key f p.2 r = valR (r + d) (valAt l key)
  miss : ∀ key, lastLe s.2 key = none → valAt l key = none ∧ ∀ x ∈ s.2, x.2 < s.1.length ∧ ∀ M f r, x.2 < f → findF (s.1 ++ M) key f x.2 r = (0, r, 6)

theorem getD_mid {α : Type} (A B M : List α) (d x : α) (j : Nat) (h : B[j]? = some x) : ((A ++ B) ++ M).getD (A.length + j) d = x := by
  have hj := (List.getElem?_eq_some_iff.1 h).1
  rw [List.getD, List.getElem?_append_left (by simp; omega), List.getElem?_append_right (by omega), Nat.add_sub_cancel_left, h]
  rfl

theorem levelL_one (k : Nat) (pages : List (List UInt8)) (ps : List (List (Nat × Nat))) : ∀ x, (levelL k pages ps).2 = [x] → x.2 + 1 = (levelL k pages ps).1.length := by
  intro x h
  obtain ⟨h1, h2⟩ := levelL_len k pages ps
  have hl : ps.length = 1 := by rw [← h2, h]; rfl
  rw [h1, hl]
  have hx : x ∈ aboveL pages.length ps := by
    show x ∈ (levelL k pages ps).2
    rw [h]; exact List.mem_cons_self
  obtain ⟨j, p, hj, rfl⟩ := aboveL_mem hx
  have := (List.getElem?_eq_some_iff.1 hj).1
  simp only
  omega

theorem above_fits {k : Nat} (b : Nat) (ps : List (List (Nat × Nat))) (h : ∀ p ∈ ps, FitsT k p) (hb : b + ps.length ≤ 65536) : FitsT 2 (aboveL b ps) := by
  intro x hx
  obtain ⟨j, p, hj, rfl⟩ := aboveL_mem hx
  have := (List.getElem?_eq_some_iff.1 hj).1
  refine ⟨?_, by show b + j < 65536; omega⟩
  by_cases hp : p = []
  · subst hp; show leastL [] < 18446744073709551616; decide
  · obtain ⟨x, hx, e⟩ := leastL_mem hp
    simp only [e]
    exact (h p (List.mem_of_getElem? hj) x hx).1

theorem mayL_asc {l : List (Nat × Nat)} (h : mayL l = true) : l.Pairwise (fun a b => a.1 < b.1) ∧ l.length ≤ 600 := by
  unfold mayL at h
  simp only [Bool.and_eq_true, List.all_eq_true, List.mem_range, decide_eq_true_eq] at h
  refine ⟨?_, h.2⟩
  have key : ∀ (j i : Nat) (hi : i < j) (hj : j < l.length), (l.getD i (0, 0)).1 < (l.getD j (0, 0)).1 := by
    intro j
    induction j with
    | zero => intro i hi; omega
    | succ j ih =>
      intro i hi hj
      have h1 := h.1 j (by omega)
      by_cases he : i = j
      · subst he; exact h1
      · exact Nat.lt_trans (ih i (by omega) (by omega)) h1
  rw [List.pairwise_iff_getElem]
  intro i j hi hj hij
  have := key j i hij hj
  simpa [List.getD, List.getElem?_eq_getElem hi, List.getElem?_eq_getElem hj] using this

theorem look_start (l : List (Nat × Nat)) (hl : l.Pairwise (fun a b => a.1 < b.1)) (hf : FitsT 1 l) (h6 : l.length ≤ 700) : Look l (startL l) 0 := by
  obtain ⟨e1, e2⟩ := levelL_len 1 [] (partsL 7 l)
  have e3 := partsL_length 7 l (by omega)
  have hparts : ∀ p ∈ partsL 7 l, mayN 1 p.length = true ∧ FitsT 1 p ∧ p.Pairwise (fun a b => a.1 < b.1) ∧ ∀ x ∈ p, leastL p ≤ x.1 := by
    intro p hp
    obtain ⟨h1, h2, _⟩ := partsL_part (by omega) hp
    exact ⟨by simp [mayN, h1], fun x hx => hf x (h2.subset hx), hl.sublist h2, least_le (hl.sublist h2)⟩
  have hempty : (∀ p ∈ partsL 7 l, p ≠ []) ∨ partsL 7 l = [[]] := by
    by_cases h0 : l.length = 0
    · right; unfold partsL; rw [if_pos h0]
    · left; intro p hp; exact (partsL_part (by omega) hp).2.2 h0
  have hflat : (partsL 7 l).flatten = l := partsL_flat 7 l (by omega)
  refine ⟨?_, levelL_one _ _ _, ?_, ?_, ?_, ?_, ?_, ?_, ?_⟩
  · show (levelL 1 [] (partsL 7 l)).2.length ≠ 0
    rw [e2, e3]; omega
  · show (aboveL 0 (partsL 7 l)).Pairwise _
    rcases hempty with h | h
    · exact above_sorted _ _ h (by rw [hflat]; exact hl)
    · rw [h, aboveL_cons, aboveL_nil]; simp
  · exact above_fits 0 (partsL 7 l) (fun p hp => (hparts p hp).2.1) (by rw [e3]; omega)
  · show (levelL 1 [] (partsL 7 l)).1.length + (levelL 1 [] (partsL 7 l)).2.length ≤ 1000
    rw [e1, e2, e3]; simp; omega
  · intro b hb
    have hb : b ∈ [] ++ (partsL 7 l).map (pageL 1) := hb
    simp only [List.nil_append, List.mem_map] at hb
    obtain ⟨p, hp, rfl⟩ := hb
    exact isP_page (hparts p hp).1 (hparts p hp).2.1
  · show ([] ++ (partsL 7 l).map (pageL 1)).flatMap leafEnts = l
    rw [List.nil_append, List.flatMap_map]
    have : (partsL 7 l).flatMap (fun p => leafEnts (pageL 1 p)) = (partsL 7 l).flatMap id := by
      rw [List.flatMap_def, List.flatMap_def]
      congr 1
      apply List.map_congr_left
      intro p hp
      unfold leafEnts
      rw [pageL_kind (hparts p hp).1, if_pos rfl, ents_page (hparts p hp).1 (hparts p hp).2.1]
      rfl
    rw [this, List.flatMap_id, hflat]
  · intro key q hq
    have hq : lastLe (aboveL 0 (partsL 7 l)) key = some q := hq
    rcases pick_part key 0 (partsL 7 l) (fun p hp => (hparts p hp).2.2.2) with ⟨h1, _, _⟩ | ⟨j, p, h1, h2, h3, h4, h5⟩
    · rw [h1] at hq; cases hq
    · rw [h3] at hq
      obtain rfl : (leastL p, 0 + j) = q := by simpa using hq
      have hj := (List.getElem?_eq_some_iff.1 h1).1
      have hpm := List.mem_of_getElem? h1
      refine ⟨by show 0 + j < (levelL 1 [] (partsL 7 l)).1.length; rw [e1]; simpa using hj, fun M f r hfu => ?_⟩
      obtain ⟨f, rfl⟩ : ∃ g, f = g + 1 := ⟨f - 1, by simp only at hfu; omega⟩
      have hg : (((startL l).1 ++ M).getD (0 + j) []) = pageL 1 p := by
        have := getD_mid [] ((partsL 7 l).map (pageL 1)) M [] (pageL 1 p) j (by simp [h1])
        simpa [startL, levelL] using this
      simp only [findF, hg, isP_page (hparts p hpm).1 (hparts p hpm).2.1, pageL_kind (hparts p hpm).1, ents_page (hparts p hpm).1 (hparts p hpm).2.1, if_true]
      have h6 : lastLe (partsL 7 l).flatten key = lastLe p key := h5 (by
        rcases hempty with h | h
        · exact .inl (h p hpm)
        · right; rw [h]; rfl)
      rw [hflat] at h6
      rw [valAt_last p key (hparts p hpm).2.2.1, valAt_last l key hl, h6]
      rfl
  · intro key hq
    have hq : lastLe (aboveL 0 (partsL 7 l)) key = none := hq
    rcases pick_part key 0 (partsL 7 l) (fun p hp => (hparts p hp).2.2.2) with ⟨h1, h2, h3⟩ | ⟨j, p, h1, h2, h3, h4, h5⟩
    · rw [hflat] at h3
      refine ⟨by rw [valAt_last l key hl, h3]; rfl, fun x hx => ?_⟩
      obtain ⟨j, p, hj, rfl⟩ := aboveL_mem (show x ∈ aboveL 0 (partsL 7 l) from hx)
      have hjl := (List.getElem?_eq_some_iff.1 hj).1
      have hpm := List.mem_of_getElem? hj
      refine ⟨by show 0 + j < (levelL 1 [] (partsL 7 l)).1.length; rw [e1]; simpa using hjl, fun M f r hfu => ?_⟩
      obtain ⟨f, rfl⟩ : ∃ g, f = g + 1 := ⟨f - 1, by simp only at hfu; omega⟩
      have hg : (((startL l).1 ++ M).getD (0 + j) []) = pageL 1 p := by
        have := getD_mid [] ((partsL 7 l).map (pageL 1)) M [] (pageL 1 p) j (by simp [hj])
        simpa [startL, levelL] using this
      simp only [findF, hg, isP_page (hparts p hpm).1 (hparts p hpm).2.1, pageL_kind (hparts p hpm).1, ents_page (hparts p hpm).1 (hparts p hpm).2.1, if_true]
      have hn : lastLe p key = none := lastLe_none.2 fun x hx => Nat.lt_of_lt_of_le (h2 p hpm) ((hparts p hpm).2.2.2 x hx)
      rw [valAt_last p key (hparts p hpm).2.2.1, hn]
      rfl
    · rw [h3] at hq; cases hq

theorem look_step {l : List (Nat × Nat)} {s : LvS} {d : Nat} (h : Look l s d) (h1 : 1 < s.2.length) : Look l (stepL s) (d + 1) := by
  obtain ⟨e1, e2⟩ := levelL_len 2 s.1 (partsL 12 s.2)
  have e3 := partsL_length 12 s.2 (by omega)
  have hparts : ∀ p ∈ partsL 12 s.2, mayN 2 p.length = true ∧ FitsT 2 p ∧ p ≠ [] ∧ ∀ x ∈ p, leastL p ≤ x.1 := by
    intro p hp
    obtain ⟨g1, g2, g3⟩ := partsL_part (by omega) hp
    have g4 := g3 h.ne
    have : p.length ≠ 0 := fun h0 => g4 (List.eq_nil_of_length_eq_zero h0)
    exact ⟨by simp [mayN]; omega, fun x hx => h.fit x (g2.subset hx), g4, least_le (h.sorted.sublist g2)⟩
  have hflat : (partsL 12 s.2).flatten = s.2 := partsL_flat 12 s.2 (by omega)
  have hsm := h.small
  have hpage : ∀ (j : Nat) (p : List (Nat × Nat)) (M : List (List UInt8)), (partsL 12 s.2)[j]? = some p → (((stepL s).1 ++ M).getD (s.1.length + j) []) = pageL 2 p := by
    intro j p M hj
    exact getD_mid s.1 ((partsL 12 s.2).map (pageL 2)) M [] (pageL 2 p) j (by simp [hj])
  have happ : ∀ M, (stepL s).1 ++ M = s.1 ++ ((partsL 12 s.2).map (pageL 2) ++ M) := fun M => List.append_assoc _ _ _
  refine ⟨?_, levelL_one _ _ _, ?_, ?_, ?_, ?_, ?_, ?_, ?_⟩
  · show (levelL 2 s.1 (partsL 12 s.2)).2.length ≠ 0
    rw [e2, e3]; omega
  · exact above_sorted _ _ (fun p hp => (hparts p hp).2.2.1) (by rw [hflat]; exact h.sorted)
  · exact above_fits s.1.length (partsL 12 s.2) (fun p hp => (hparts p hp).2.1) (by rw [e3]; omega)
  · show (levelL 2 s.1 (partsL 12 s.2)).1.length + (levelL 2 s.1 (partsL 12 s.2)).2.length ≤ 1000
    rw [e1, e2, e3]; omega
  · intro b hb
    have hb : b ∈ s.1 ++ (partsL 12 s.2).map (pageL 2) := hb
    rcases List.mem_append.1 hb with hb | hb
    · exact h.page b hb
    · simp only [List.mem_map] at hb
      obtain ⟨p, hp, rfl⟩ := hb
      exact isP_page (hparts p hp).1 (hparts p hp).2.1
  · show (s.1 ++ (partsL 12 s.2).map (pageL 2)).flatMap leafEnts = l
    rw [List.flatMap_append, h.flat, List.flatMap_map]
    have : (partsL 12 s.2).flatMap (fun p => leafEnts (pageL 2 p)) = [] := by
      rw [List.flatMap_eq_nil_iff]
      intro p hp
      unfold leafEnts
      rw [pageL_kind (hparts p hp).1, if_neg (by omega)]
    rw [this, List.append_nil]
  · intro key q hq
    have hq : lastLe (aboveL s.1.length (partsL 12 s.2)) key = some q := hq
    rcases pick_part key s.1.length (partsL 12 s.2) (fun p hp => (hparts p hp).2.2.2) with ⟨g1, _, _⟩ | ⟨j, p, g1, g2, g3, g4, g5⟩
    · rw [g1] at hq; cases hq
    · rw [g3] at hq
      obtain rfl : (leastL p, s.1.length + j) = q := by simpa using hq
      have hj := (List.getElem?_eq_some_iff.1 g1).1
      have hpm := List.mem_of_getElem? g1
      refine ⟨by show s.1.length + j < (levelL 2 s.1 (partsL 12 s.2)).1.length; rw [e1]; omega, fun M f r hfu => ?_⟩
      obtain ⟨f, rfl⟩ : ∃ g, f = g + 1 := ⟨f - 1, by simp only at hfu; omega⟩
      have g6 : lastLe s.2 key = lastLe p key := by
        have := g5 (.inl (hparts p hpm).2.2.1)
        rwa [hflat] at this
      cases hp0 : lastLe p key with
      | none => exact absurd hp0 (g4 (hparts p hpm).2.2.1)
      | some p0 =>
        rw [hp0] at g6
        obtain ⟨k1, k2⟩ := h.hit key p0 g6
        simp only [findF, hpage j p M g1, isP_page (hparts p hpm).1 (hparts p hpm).2.1, pageL_kind (hparts p hpm).1, ents_page (hparts p hpm).1 (hparts p hpm).2.1, if_true, hp0]
        rw [if_neg (by omega), if_neg (by omega), happ, k2 _ f (r + 1) (by simp only at hfu; omega), Nat.add_assoc, Nat.add_comm 1 d]
  · intro key hq
    have hq : lastLe (aboveL s.1.length (partsL 12 s.2)) key = none := hq
    rcases pick_part key s.1.length (partsL 12 s.2) (fun p hp => (hparts p hp).2.2.2) with ⟨g1, g2, g3⟩ | ⟨j, p, g1, g2, g3, g4, g5⟩
    · rw [hflat] at g3
      refine ⟨(h.miss key g3).1, fun x hx => ?_⟩
      obtain ⟨j, p, hj, rfl⟩ := aboveL_mem (show x ∈ aboveL s.1.length (partsL 12 s.2) from hx)
      have hjl := (List.getElem?_eq_some_iff.1 hj).1
      have hpm := List.mem_of_getElem? hj
      refine ⟨by show s.1.length + j < (levelL 2 s.1 (partsL 12 s.2)).1.length; rw [e1]; omega, fun M f r hfu => ?_⟩
      obtain ⟨f, rfl⟩ : ∃ g, f = g + 1 := ⟨f - 1, by simp only at hfu; omega⟩
      have hn : lastLe p key = none := lastLe_none.2 fun x hx => Nat.lt_of_lt_of_le (g2 p hpm) ((hparts p hpm).2.2.2 x hx)
      simp only [findF, hpage j p M hj, isP_page (hparts p hpm).1 (hparts p hpm).2.1, pageL_kind (hparts p hpm).1, ents_page (hparts p hpm).1 (hparts p hpm).2.1, if_true, hn]
      rw [if_neg (by omega)]
    · rw [g3] at hq; cases hq

def levN (n : Nat) : Nat := if n ≤ 7 then 1 else if n ≤ 84 then 2 else 3

theorem look_fin (l : List (Nat × Nat)) (hl : l.Pairwise (fun a b => a.1 < b.1)) (hf : FitsT 1 l) (h6 : l.length ≤ 600) : ∃ s d, Look l s d ∧ buildL l = s.1 ∧ s.2.length = 1 ∧ d + 1 = levN l.length := by
  have k0 := look_start l hl hf (by omega)
  have e0 : (startL l).2.length = max 1 ((l.length + 6) / 7) := by
    unfold startL
    rw [(levelL_len 1 [] (partsL 7 l)).2, partsL_length 7 l (by omega)]
  unfold buildL levN
  by_cases a1 : l.length ≤ 7
  · have hle : (startL l).2.length = 1 := by rw [e0]; omega
    exact ⟨_, 0, k0, finL_done _ (by omega), hle, by rw [if_pos a1]⟩
  · have hgt : 1 < (startL l).2.length := by rw [e0]; omega
    have k1 := look_step k0 hgt
    have e1 := (stepL_len (startL l) hgt).1
    rw [if_neg a1, finL_step _ hgt]
    by_cases a2 : l.length ≤ 84
    · have hle : (stepL (startL l)).2.length = 1 := by rw [e1, e0]; omega
      exact ⟨_, 1, k1, finL_done _ (by omega), hle, by rw [if_pos a2]⟩
    · have hgt2 : 1 < (stepL (startL l)).2.length := by rw [e1, e0]; omega
      have k2 := look_step k1 hgt2
      have e2 := (stepL_len _ hgt2).1
      have hle : (stepL (stepL (startL l))).2.length = 1 := by rw [e2, e1, e0]; omega
      exact ⟨_, 2, k2, by rw [finL_step _ hgt2, finL_done _ (by omega)], hle, by rw [if_neg a2]⟩

theorem built_pages (l : List (Nat × Nat)) (hl : l.Pairwise (fun a b => a.1 < b.1)) (hf : FitsT 1 l) (h6 : l.length ≤ 600) :
    (∀ b ∈ buildL l, isP b = true) ∧ (buildL l).flatMap leafEnts = l ∧ 1 ≤ (buildL l).length := by
  obtain ⟨s, d, hs, hb, h1, hd⟩ := look_fin l hl hf h6
  rw [hb]
  refine ⟨hs.page, hs.flat, ?_⟩
  obtain ⟨x, hx⟩ : ∃ x, s.2 = [x] := by
    match hh : s.2, h1 with
    | [x], _ => exact ⟨x, rfl⟩
  have := hs.last x hx
  omega

/-! ### all of them -/
def allR (P : List (List UInt8)) : Option (List (Nat × Nat)) :=
  if P.all isP = true ∧ mayL (P.flatMap leafEnts) = true ∧ buildL (P.flatMap leafEnts) = P then some (P.flatMap leafEnts) else none
theorem allR_build (l : List (Nat × Nat)) (hm : mayL l = true) (hf : FitsT 1 l) : allR (buildL l) = some l := by
  obtain ⟨h1, h2⟩ := mayL_asc hm
  obtain ⟨g1, g2, g3⟩ := built_pages l h1 hf h2
  unfold allR
  rw [g2, if_pos ⟨List.all_eq_true.2 g1, hm, rfl⟩]

end Go.Proofs.YtjcmphjjkeigjaaGreat

namespace Go.Proofs.YtjcmphjjkeigjaaGreat

/-- bit p of octets -/
def bitU (l : List UInt8) (p : Nat) : Bool := (l.getD (p / 8) 0).toNat.testBit (p % 8)
/-- the number that has the first n bits of g -/
def octF (g : Nat → Bool) : Nat → Nat
  | 0 => 0
  | n + 1 => octF g n + (if g n then 2 ^ n else 0)
/-- the octets of flags -/
def packB (F : List Bool) : List UInt8 := (List.range ((F.length + 7) / 8)).map fun i => UInt8.ofNat (octF (fun j => F.getD (8 * i + j) false) 8)
/-- the flags of so many bits -/
def flagsL (N : Nat) (l : List UInt8) : List Bool := (List.range N).map (bitU l)

theorem octF_lt (g : Nat → Bool) : ∀ n, octF g n < 2 ^ n
  | 0 => by simp [octF]
  | n + 1 => by
    have := octF_lt g n
    unfold octF
    split <;> (rw [Nat.pow_succ]; omega)
theorem octF_bit (g : Nat → Bool) (j : Nat) : ∀ n, (octF g n).testBit j = (decide (j < n) && g j)
  | 0 => by simp [octF]
  | n + 1 => by
    have hl := octF_lt g n
    have ih := octF_bit g j n
    unfold octF
    by_cases hg : g n = true
    · rw [if_pos hg, Nat.add_comm, show (2 : Nat) ^ n + octF g n = 2 ^ n * 1 + octF g n by simp, Nat.two_pow_add_eq_or_of_lt hl, Nat.testBit_or, Nat.mul_one, Nat.testBit_two_pow, ih]
      by_cases hj : n = j
      · subst hj; simp [hg]
      · have h1 : decide (n = j) = false := by simp [hj]
        rw [h1, Bool.false_or]
        by_cases h2 : j < n
        · have : j < n + 1 := by omega
          simp [h2, this]
        · have : ¬ j < n + 1 := by omega
          simp [h2, this]
    · rw [if_neg hg, Nat.add_zero, ih]
      by_cases hj : j = n
      · subst hj; simp [hg]
      · by_cases h2 : j < n
        · have : j < n + 1 := by omega
          simp [h2, this]
        · have : ¬ j < n + 1 := by omega
          simp [h2, this]

theorem packB_length (F : List Bool) : (packB F).length = (F.length + 7) / 8 := by simp [packB]
theorem packB_getD (F : List Bool) (i : Nat) (h : i < (F.length + 7) / 8) : ((packB F).getD i 0).toNat = octF (fun j => F.getD (8 * i + j) false) 8 := by
  have := octF_lt (fun j => F.getD (8 * i + j) false) 8
  unfold packB
  rw [List.getD, List.getElem?_map, List.getElem?_range h]
  simp only [Option.map_some, Option.getD_some, UInt8.toNat_ofNat']
  omega
theorem packB_bit (F : List Bool) (p : Nat) : bitU (packB F) p = F.getD p false := by
  unfold bitU
  by_cases h : p / 8 < (F.length + 7) / 8
  · rw [packB_getD F _ h, octF_bit]
    have h1 : p % 8 < 8 := by omega
    have h2 : 8 * (p / 8) + p % 8 = p := by omega
    simp only [h1, decide_true, Bool.true_and, h2]
  · rw [List.getD, List.getElem?_eq_none (by rw [packB_length]; omega), List.getD, List.getElem?_eq_none (show F.length ≤ p by omega)]
    simp

theorem u8_ext (x y : UInt8) (h : ∀ j, j < 8 → x.toNat.testBit j = y.toNat.testBit j) : x = y := by
  apply UInt8.toNat_inj.1
  apply Nat.eq_of_testBit_eq
  intro j
  by_cases hj : j < 8
  · exact h j hj
  · have h1 : x.toNat < 2 ^ j := Nat.lt_of_lt_of_le x.toNat_lt (Nat.pow_le_pow_right (n := 2) (by omega) (show 8 ≤ j by omega))
    have h2 : y.toNat < 2 ^ j := Nat.lt_of_lt_of_le y.toNat_lt (Nat.pow_le_pow_right (n := 2) (by omega) (show 8 ≤ j by omega))
    rw [Nat.testBit_lt_two_pow h1, Nat.testBit_lt_two_pow h2]

theorem bit_ext (l l' : List UInt8) (hl : l.length = l'.length) (h : ∀ p, p < 8 * l.length → bitU l p = bitU l' p) : l = l' := by
  apply List.ext_getElem hl
  intro i h1 h2
  apply u8_ext
  intro j hj
  have := h (8 * i + j) (by omega)
  unfold bitU at this
  rw [show (8 * i + j) / 8 = i by omega, show (8 * i + j) % 8 = j by omega] at this
  simpa [List.getD, List.getElem?_eq_getElem h1, List.getElem?_eq_getElem h2] using this

theorem flagsL_length (N : Nat) (l : List UInt8) : (flagsL N l).length = N := by simp [flagsL]
theorem flagsL_at (N : Nat) (l : List UInt8) (p : Nat) (h : p < N) : (flagsL N l).getD p false = bitU l p := by
  unfold flagsL
  rw [List.getD, List.getElem?_map, List.getElem?_range h]; rfl
theorem flags_ext (F G : List Bool) (hl : F.length = G.length) (h : ∀ p, p < F.length → F.getD p false = G.getD p false) : F = G := by
  apply List.ext_getElem hl
  intro i h1 h2
  have := h i h1
  simpa [List.getD, List.getElem?_eq_getElem h1, List.getElem?_eq_getElem h2] using this
/-- may a space be? -/
def mayS (N : Int) (l : List UInt8) : Bool :=
  decide (0 ≤ N) && decide (N ≤ 2048) && decide (l.length = (N.toNat + 7) / 8) && (List.range (8 * l.length)).all fun p => decide (p < N.toNat) || !bitU l p

theorem pack_flags (N : Nat) (l : List UInt8) (hl : l.length = (N + 7) / 8) (h : ∀ p, N ≤ p → p < 8 * l.length → bitU l p = false) : packB (flagsL N l) = l := by
  refine bit_ext _ _ (by rw [packB_length, flagsL_length, hl]) fun p hp => ?_
  rw [packB_length, flagsL_length, ← hl] at hp
  rw [packB_bit]
  by_cases hN : p < N
  · exact flagsL_at N l p hN
  · rw [h p (by omega) hp, List.getD, List.getElem?_eq_none (by rw [flagsL_length]; omega)]; rfl
theorem mayS_iff (N : Int) (l : List UInt8) : mayS N l = true ↔ ∃ F : List Bool, F.length ≤ 2048 ∧ N = F.length ∧ l = packB F := by
  constructor
  · intro h
    simp only [mayS, Bool.and_eq_true, decide_eq_true_eq, List.all_eq_true, List.mem_range, Bool.or_eq_true, Bool.not_eq_true'] at h
    obtain ⟨⟨⟨h1, h2⟩, h3⟩, h4⟩ := h
    refine ⟨flagsL N.toNat l, by rw [flagsL_length]; omega, by rw [flagsL_length]; omega, (pack_flags _ _ h3 fun p hp hp2 => ?_).symm⟩
    exact (h4 p hp2).resolve_left (by omega)
  · rintro ⟨F, h1, rfl, rfl⟩
    simp only [mayS, Bool.and_eq_true, decide_eq_true_eq, List.all_eq_true, List.mem_range, Bool.or_eq_true, Bool.not_eq_true']
    refine ⟨⟨⟨by omega, by omega⟩, by rw [packB_length]; simp⟩, fun p hp => ?_⟩
    by_cases hN : p < F.length
    · exact .inl (by simpa using hN)
    · right
      rw [packB_bit, List.getD, List.getElem?_eq_none (by omega)]; rfl
theorem mayS_pack (F : List Bool) (h : F.length ≤ 2048) : mayS F.length (packB F) = true := (mayS_iff _ _).2 ⟨F, h, rfl, rfl⟩

/-! ### one page turned over -/
theorem two_pow_lt (j : Nat) (h : j < 8) : 2 ^ j < 256 := by
  have := Nat.pow_lt_pow_right (a := 2) (by omega) h
  simpa using this
theorem packB_flip (F : List Bool) (p : Nat) (h : p < F.length) :
    (packB F).set (p / 8) (UInt8.ofNat (((packB F).getD (p / 8) 0).toNat ^^^ 2 ^ (p % 8))) = packB (F.set p (!F.getD p false)) := by
  have hp8 : p / 8 < (packB F).length := by rw [packB_length]; omega
  refine bit_ext _ _ (by simp [packB_length]) fun q hq => ?_
  rw [packB_bit]
  have hx : ((packB F).getD (p / 8) 0).toNat ^^^ 2 ^ (p % 8) < 256 := Nat.xor_lt_two_pow (n := 8) (UInt8.toNat_lt _) (two_pow_lt _ (by omega))
  unfold bitU
  by_cases hb : q / 8 = p / 8
  · rw [hb, List.getD, List.getElem?_set_self hp8, Option.getD_some]
    rw [show (UInt8.ofNat (((packB F).getD (p / 8) 0).toNat ^^^ 2 ^ (p % 8))).toNat = ((packB F).getD (p / 8) 0).toNat ^^^ 2 ^ (p % 8) by simp only [UInt8.toNat_ofNat']; omega]
    rw [Nat.testBit_xor, Nat.testBit_two_pow]
    have hF := packB_bit F q
    unfold bitU at hF
    rw [hb] at hF
    rw [hF]
    by_cases he : p % 8 = q % 8
    · have : q = p := by omega
      subst this
      simp only [decide_true, Bool.xor_true, List.getD, List.getElem?_set_self h, Option.getD_some]
    · have hn : p ≠ q := fun e => he (by rw [e])
      simp only [he, decide_false, Bool.xor_false, List.getD, List.getElem?_set_ne hn]
  · rw [List.getD, List.getElem?_set_ne (fun e => hb e.symm)]
    have hn : p ≠ q := fun e => hb (by rw [e])
    have := packB_bit F q
    unfold bitU at this
    rw [List.getD] at this
    rw [this, List.getD, List.getD, List.getElem?_set_ne hn]

/-! ### what is taken, given back, marked -/
/-- pages turned over, in order: the error is e for one that is not `used` -/
def turnF (used : Bool) (e : Int) : List Bool → List Int → Option (List Bool) × Int
  | F, [] => (some F, 0)
  | F, p :: l => if p < 0 ∨ (F.length : Int) ≤ p then (none, 4) else if F.getD p.toNat false ≠ used then (none, e) else turnF used e (F.set p.toNat (!used)) l

end Go.Proofs.YtjcmphjjkeigjaaGreat

namespace Go.Proofs.YtjcmphjjkeigjaaGreat
set_option linter.unusedSimpArgs false

def freeB (F : List Bool) (i : Nat) : List Nat := (List.range i).filter fun p => !F.getD p false
def frees (F : List Bool) : List Nat := freeB F F.length
def markF (F : List Bool) (P : List Nat) : List Bool := P.foldl (fun G p => G.set p true) F
def clearF (F : List Bool) (P : List Nat) : List Bool := P.foldl (fun G p => G.set p false) F
def flipF (F : List Bool) (P : List Nat) : List Bool := P.foldl (fun G p => G.set p (!G.getD p false)) F

theorem freeB_succ (F : List Bool) (i : Nat) : freeB F (i + 1) = freeB F i ++ (if F.getD i false then [] else [i]) := by
  unfold freeB
  rw [List.range_succ, List.filter_append]
  rw [List.filter_cons, List.filter_nil]
  cases F.getD i false <;> rfl
theorem freeB_len (F : List Bool) (i : Nat) : (freeB F i).length ≤ i := by
  have := List.length_filter_le (fun p => !F.getD p false) (List.range i)
  simpa [freeB] using this
theorem freeB_prefix (F : List Bool) {i j : Nat} (h : i ≤ j) : freeB F i <+: freeB F j := by
  unfold freeB
  apply List.IsPrefix.filter
  rw [show j = i + (j - i) by omega, List.range_add]
  exact List.prefix_append _ _
theorem freeB_count (F : List Bool) : ∀ i, i ≤ F.length → (freeB F i).length + (F.take i).count true = i
  | 0, _ => by simp [freeB]
  | i + 1, h => by
    have ih := freeB_count F i (by omega)
    rw [freeB_succ, List.take_succ_eq_append_getElem (by omega), List.count_append, List.length_append]
    have hx : F.getD i false = F[i] := by rw [List.getD, List.getElem?_eq_getElem (by omega)]; rfl
    rw [hx]
    cases F[i] <;> simp <;> omega
theorem frees_count (F : List Bool) : (frees F).length + F.count true = F.length := by
  have := freeB_count F F.length (Nat.le_refl _)
  rwa [List.take_length] at this
theorem frees_mem (F : List Bool) (p : Nat) : p ∈ frees F ↔ p < F.length ∧ F.getD p false = false := by
  simp [frees, freeB]
theorem frees_nodup (F : List Bool) : (frees F).Nodup := List.Pairwise.filter _ List.nodup_range
theorem markF_len (P : List Nat) : ∀ F : List Bool, (markF F P).length = F.length := by
  induction P with
  | nil => intro F; rfl
  | cons p P ih => intro F; show (markF (F.set p true) P).length = _; rw [ih, List.length_set]
theorem clearF_len (P : List Nat) : ∀ F : List Bool, (clearF F P).length = F.length := by
  induction P with
  | nil => intro F; rfl
  | cons p P ih => intro F; show (clearF (F.set p false) P).length = _; rw [ih, List.length_set]
theorem set_getD (F : List Bool) (p q : Nat) (b : Bool) : (F.set p b).getD q false = if p = q ∧ q < F.length then b else F.getD q false := by
  by_cases h : p = q
  · subst h
    by_cases hl : p < F.length
    · simp [List.getD, List.getElem?_set_self hl, hl]
    · have : F.length ≤ p := by omega
      simp [List.getD, List.set_eq_of_length_le this, hl]
  · simp [List.getD, List.getElem?_set_ne h, h]
theorem markF_getD (q : Nat) (P : List Nat) : ∀ F : List Bool, (markF F P).getD q false = (F.getD q false || (decide (q ∈ P) && decide (q < F.length))) := by
  induction P with
  | nil => intro F; simp [markF]
  | cons p P ih =>
    intro F
    show (markF (F.set p true) P).getD q false = _
    rw [ih, set_getD, List.length_set]
    by_cases h : p = q ∧ q < F.length
    · rw [if_pos h]; obtain ⟨rfl, h2⟩ := h; simp [h2]
    · rw [if_neg h]
      by_cases hq : q < F.length
      · have : ¬ q = p := fun e => h ⟨e.symm, hq⟩
        simp [hq, this]
      · simp [hq]
theorem clearF_getD (q : Nat) (P : List Nat) : ∀ F : List Bool, (clearF F P).getD q false = (F.getD q false && !decide (q ∈ P)) := by
  induction P with
  | nil => intro F; simp [clearF]
  | cons p P ih =>
    intro F
    show (clearF (F.set p false) P).getD q false = _
    rw [ih, set_getD]
    by_cases h : p = q ∧ q < F.length
    · rw [if_pos h]; obtain ⟨rfl, h2⟩ := h; simp
    · rw [if_neg h]
      by_cases hq : q < F.length
      · have : ¬ q = p := fun e => h ⟨e.symm, hq⟩
        simp [this]
      · have : F.getD q false = false := by rw [List.getD, List.getElem?_eq_none (by omega)]; rfl
        rw [this]; simp
theorem flip_mark (P : List Nat) : ∀ F : List Bool, P.Nodup → (∀ p ∈ P, F.getD p false = false) → flipF F P = markF F P := by
  induction P with
  | nil => intro F _ _; rfl
  | cons p P ih =>
    intro F hn hf
    have h0 := hf p (by simp)
    show flipF (F.set p (!F.getD p false)) P = markF (F.set p true) P
    rw [h0]
    refine ih _ (List.nodup_cons.1 hn).2 fun q hq => ?_
    rw [set_getD, if_neg (fun h : p = q ∧ _ => (List.nodup_cons.1 hn).1 (h.1 ▸ hq)), hf q (by simp [hq])]
theorem flip_take (F : List Bool) (k : Nat) : flipF F ((frees F).take k) = markF F ((frees F).take k) :=
  flip_mark _ _ ((frees_nodup F).sublist (List.take_sublist _ _)) fun p hp => ((frees_mem F p).1 (List.mem_of_mem_take hp)).2

theorem turn_back (e : Int) (P : List Nat) : ∀ G : List Bool, P.Nodup → (∀ p ∈ P, p < G.length ∧ G.getD p false = true) → turnF true e G (P.map Int.ofNat) = (some (clearF G P), 0) := by
  induction P with
  | nil => intro G _ _; rfl
  | cons p P ih =>
    intro G hn hp
    obtain ⟨h1, h2⟩ := hp p (by simp)
    rw [List.map_cons, turnF, if_neg (by simp; omega), if_neg (by simp only [Int.ofNat_eq_natCast, Int.toNat_natCast]; rw [h2]; simp)]
    show turnF true e (G.set p (!true)) (P.map Int.ofNat) = (some (clearF (G.set p false) P), 0)
    rw [Bool.not_true]
    refine ih _ (List.nodup_cons.1 hn).2 fun q hq => ?_
    obtain ⟨h3, h4⟩ := hp q (by simp [hq])
    refine ⟨by rw [List.length_set]; exact h3, ?_⟩
    rw [set_getD, if_neg (fun h : p = q ∧ _ => (List.nodup_cons.1 hn).1 (h.1 ▸ hq)), h4]

/-- what Take answers: the flags behind it, the pages, the error -/
def takeR (F : List Bool) (k : Int) : List Bool × List Nat × Int :=
  if k < 0 then ([], [], 1) else if ((frees F).length : Int) < k then ([], [], 5) else (markF F ((frees F).take k.toNat), (frees F).take k.toNat, 0)

end Go.Proofs.YtjcmphjjkeigjaaGreat

namespace Go.Proofs.YtjcmphjjkeigjaaGreat
set_option linter.unusedVariables false
set_option linter.unusedSimpArgs false

/-- a blob: its key, its pages, its octets, the sum that is recorded -/
structure Spt where
  key : Nat
  pages : List Nat
  data : List UInt8
  sum : Nat
deriving Inhabited

structure Chg where
  id : Nat
  data : List UInt8
  gone : Bool
deriving Inhabited

structure Ht where
  at_ : List Spt
  dir : List Nat
  used : List Bool

def pfor (n : Nat) : Nat := (n + 125) / 126
def linkN : List Nat → Nat
  | [] => 0
  | p :: _ => p + 1
def valN (s : Spt) : Nat := linkN s.pages + s.data.length * 65536 + s.sum * 4294967296
def pairsL (l : List Spt) : List (Nat × Nat) := l.map fun s => (s.key, valN s)
def blobPut (data : List UInt8) (pages : List Nat) (k : Nat) : Pt := (((42 + pages.getD k 0 : Nat) : Int), padL (leB 2 (linkN (pages.drop (k + 1))) ++ (data.drop (126 * k)).take 126))
def blobPuts (data : List UInt8) (pages : List Nat) : List Pt := (List.range (pfor data.length)).map (blobPut data pages)
def dirPut (P : List (List UInt8)) (pages : List Nat) (k : Nat) : Pt := (((42 + pages.getD k 0 : Nat) : Int), P.getD k [])
def dirPutsP (P : List (List UInt8)) (pages : List Nat) : List Pt := (List.range P.length).map (dirPut P pages)
def dirPuts (l : List Spt) (pages : List Nat) : List Pt := dirPutsP (buildL (pairsL l)) pages
def markH : List UInt8 := [104, 115, 117, 112]
def superRaw (dir : List Nat) : List UInt8 := markH ++ (leB 2 dir.length ++ dir.flatMap (leB 2))
def superL (dir : List Nat) : List UInt8 := if dir.length ≤ 59 then padL (sealL (superRaw dir)) else []

/-! ### blobs by their keys -/
def delL (l : List Spt) (k : Nat) : List Spt := l.filter fun s => !(s.key == k)
def insL (l : List Spt) (s : Spt) : List Spt := l.filter (fun x => decide (x.key < s.key)) ++ s :: l.filter fun x => decide (s.key < x.key)
def atL (l : List Spt) (k : Nat) : Option Spt := l.find? fun s => s.key == k
def hasL (l : List Spt) (k : Nat) : Bool := l.any fun s => s.key == k
def pagesAt (l : List Spt) (k : Nat) : List Nat := match atL l k with
  | some s => s.pages
  | none => []

/-! ### changes -/
def okC (l : List Chg) (k : Nat) : Bool :=
  !((l.take k).any fun q => q.id == (l.getD k default).id) && (decide ((l.getD k default).data.length ≤ 4032) && !((l.getD k default).gone && decide (0 < (l.getD k default).data.length)))
def mayC (l : List Chg) : Bool := (List.range l.length).all (okC l)
def noneC (b : List Spt) (l : List Chg) : Bool := l.any fun c => c.gone && !hasL b c.id
def countC (b : List Spt) (l : List Chg) : Int := l.foldl (fun n c => if c.gone then n - 1 else if hasL b c.id then n else n + 1) (b.length : Int)
def takeC (l : List Chg) : Nat := l.foldl (fun n c => n + pfor c.data.length) 0
def leftL (h : Ht) (l : List Chg) : List Nat := h.dir ++ l.flatMap fun c => pagesAt h.at_ c.id
def needsOf (b : List Spt) (l : List Chg) : Option Nat := if 600 < countC b l then none else if 40 < takeC l + pagesN (countC b l).toNat + 1 then none else some (takeC l + pagesN (countC b l).toNat)

/-- blobs, puts, the pages that are left to be used -/
abbrev Pln := List Spt × List Pt × List Nat
def newS (c : Chg) (P : List Nat) : Spt := ⟨c.id, P, c.data, sumL c.data⟩
def planStep (s : Pln) (c : Chg) : Pln :=
  if c.gone then (delL s.1 c.id, s.2.1, s.2.2)
  else (insL (delL s.1 c.id) (newS c (s.2.2.take (pfor c.data.length))), s.2.1 ++ blobPuts c.data (s.2.2.take (pfor c.data.length)), s.2.2.drop (pfor c.data.length))
def planL (l : List Chg) (s : Pln) : Pln := l.foldl planStep s
def planPuts (r : Pln) : List Pt := r.2.1 ++ (dirPuts r.1 r.2.2 ++ [(41, superL r.2.2)])
def planAt (h : Ht) (l : List Chg) (n : Nat) : Ht × List Pt :=
  (⟨(planL l (h.at_, [], (frees h.used).take n)).1, (planL l (h.at_, [], (frees h.used).take n)).2.2, clearF (markF h.used ((frees h.used).take n)) (leftL h l)⟩, planPuts (planL l (h.at_, [], (frees h.used).take n)))
def planOf (h : Ht) (l : List Chg) : Option (Ht × List Pt) := match needsOf h.at_ l with
  | none => none
  | some n => if (frees h.used).length < n then none else some (planAt h l n)
def batchOf (D : Dk) (h : Ht) (l : List Chg) : Int × Dk × Ht :=
  if mayC l = false then (1, D, h) else if noneC h.at_ l then (6, D, h) else match planOf h l with
    | none => (5, D, h)
    | some x => ((commitOf D x.2).1, (commitOf D x.2).2, if (commitOf D x.2).1 = 0 then x.1 else h)

/-! ### opening -/
def chainOf (D : Dk) (N : Nat) : Nat → Nat → Option (List Nat × List UInt8)
  | 0, link => if link = 0 then some ([], []) else none
  | n + 1, link => if link = 0 ∨ N < link then none else match chainOf D N n (le ((D.content (41 + link)).take 2)) with
    | none => none
    | some r => some ((link - 1) :: r.1, (D.content (41 + link)).drop 2 ++ r.2)
def loadBlob (D : Dk) (F : List Bool) (p : Nat × Nat) : Option (Spt × List Bool) :=
  if 4032 < p.2 / 65536 % 65536 then none else match chainOf D F.length (pfor (p.2 / 65536 % 65536)) (p.2 % 65536) with
    | none => none
    | some r => match (turnF false 15 F (r.1.map Int.ofNat)).1 with
      | none => none
      | some F' => some (⟨p.1, r.1, r.2.take (p.2 / 65536 % 65536), p.2 / 4294967296⟩, F')
def loadsStep (D : Dk) (s : Option (List Spt × List Bool)) (p : Nat × Nat) : Option (List Spt × List Bool) := match s with
  | none => none
  | some s => match loadBlob D s.2 p with
    | none => none
    | some r => some (s.1 ++ [r.1], r.2)
def loadsOf (D : Dk) (s : Option (List Spt × List Bool)) (l : List (Nat × Nat)) : Option (List Spt × List Bool) := l.foldl (loadsStep D) s
def dirNums (b : List UInt8) : List Nat := (List.range (le ((b.drop 4).take 2))).map fun k => le ((b.drop (6 + 2 * k)).take 2)
def dirOf (b : List UInt8) : Option (List Nat) := if superL (dirNums b) = b then some (dirNums b) else none
/-- the directory: its pages, what is used then, its pairs -/
def loadDir (D : Dk) : Option (List Nat × List Bool × List (Nat × Nat)) := match dirOf (D.content 41) with
  | none => none
  | some dir => match (turnF false 15 (List.replicate (D.secs.length - 42) false) (dir.map Int.ofNat)).1 with
    | none => none
    | some F => match allR (dir.map fun p => D.content (42 + p)) with
      | none => none
      | some l => some (dir, F, l)
def loadOf (D : Dk) : Option Ht := match loadDir D with
  | none => none
  | some (dir, F, l) => match loadsOf D (some ([], F)) l with
    | none => none
    | some s => some ⟨s.1, dir, s.2⟩
/-- the error, the store, the disk -/
def openOf (D : Dk) : Int × Option Ht × Dk :=
  if D.secs.length < 44 then (1, none, D) else if (recoverOf D).2.1 ≠ 0 then ((recoverOf D).2.1, none, (recoverOf D).2.2) else match loadOf (recoverOf D).2.2 with
    | none => (3, none, (recoverOf D).2.2)
    | some h => (0, some h, (recoverOf D).2.2)
def blankH (n : Nat) : Ht := ⟨[], [], List.replicate n false⟩
def formatH (D : Dk) : Int × Option Ht × Dk :=
  if D.secs.length < 44 then (1, none, D) else if (formatOf D).1 ≠ 0 then ((formatOf D).1, none, (formatOf D).2)
  else if (batchOf (formatOf D).2 (blankH (D.secs.length - 42)) []).1 ≠ 0 then ((batchOf (formatOf D).2 (blankH (D.secs.length - 42)) []).1, none, (batchOf (formatOf D).2 (blankH (D.secs.length - 42)) []).2.1)
  else (0, some (batchOf (formatOf D).2 (blankH (D.secs.length - 42)) []).2.2, (batchOf (formatOf D).2 (blankH (D.secs.length - 42)) []).2.1)

/-! ### reading -/
def dataAt (D : Dk) (s : Spt) : List UInt8 := (s.pages.flatMap fun p => (D.content (42 + p)).drop 2).take s.data.length
def getOf (D : Dk) (h : Ht) (k : Nat) : Int × List UInt8 := match atL h.at_ k with
  | none => (6, [])
  | some s => if D.power = false then (10, []) else if sumL (dataAt D s) = s.sum then (0, dataAt D s) else (9, [])

/-! ### what a store keeps to -/
structure SptOk (s : Spt) : Prop where
  key : s.key < 18446744073709551616
  size : s.data.length ≤ 4032
  pages : s.pages.length = pfor s.data.length
  sum : s.sum < 4294967296
structure HtOk (h : Ht) : Prop where
  asc : h.at_.Pairwise fun a b => a.key < b.key
  each : ∀ s ∈ h.at_, SptOk s
  few : h.at_.length ≤ 600
  len : h.used.length ≤ 2006
  nodup : (h.dir ++ h.at_.flatMap (·.pages)).Nodup
  used : ∀ p, h.used.getD p false = true ↔ p ∈ h.dir ++ h.at_.flatMap (·.pages)
  dir : h.dir.length = pagesN h.at_.length

end Go.Proofs.YtjcmphjjkeigjaaGreat

namespace Go.Proofs.YtjcmphjjkeigjaaGreat
open Go.RowKit
set_option linter.unusedVariables false
set_option linter.unusedSimpArgs false

def ltN (x y : Nat) : Bool := decide (x < y)
theorem swo_ltN : Sort.SWO ltN where
  irrefl x := by simp [ltN]
  trans x y z := by simp [ltN]; omega
  ntrans x y z := by simp [ltN]; omega

def numC (x : Nat) : List Value := [.int .u64 x]
abbrev RowU (w : World) (v : Value) (d : Array Nat) : Prop := Recs numC w 36 1 v d.toList

section
variable {w w' : World} {g n cap : Nat} {d : Array Nat}
theorem getB (d : Array Nat) (t : Nat) (h : t < d.size) : d.toList[t]? = some d[t]! := by
  rw [Array.getElem?_toList, Array.getElem?_eq_getElem h, getElem!_pos d t h]
theorem RowU.cells (h : RowU w (.slice (some ⟨g, 0, none⟩) n cap) d) : ∀ t, t < d.size → w.cell? ⟨g, t, none⟩ = some (.int .u64 (d[t]! : Nat)) := fun t ht => by
  have := Recs.cellAt h t 0 _ (getB d t ht) (by omega)
  simpa [numC] using this
theorem RowU.frozen (h : RowU w (.slice (some ⟨g, 0, none⟩) n cap) d) : ∀ t, w.frozen? ⟨g, t, none⟩ = false := fun t => Recs.frozenAt h t
theorem RowU.len (h : RowU w (.slice (some ⟨g, 0, none⟩) n cap) d) : d.size = n ∧ n ≤ cap ∧ cap ≤ maxLen := by
  obtain ⟨a, c, h1, h2, h3⟩ := h.form
  simp only [Value.slice.injEq, Array.length_toList] at h1 h2
  omega
theorem RowU.set (h : RowU w (.slice (some ⟨g, 0, none⟩) n cap) d) (i : Nat) (hi : i < d.size) (x : Nat) : RowU (w.setCell ⟨g, i, none⟩ (.int .u64 (x : Nat))) (.slice (some ⟨g, 0, none⟩) n cap) (d.setIfInBounds i x) := by
  have := Recs.stored h i 0 (by simpa using hi) (by omega) x (.int .u64 x) rfl rfl
  rw [Nat.mul_one, Nat.add_zero] at this
  simpa [RowU, Array.toList_setIfInBounds] using this
theorem RowU.swp (h : RowU w (.slice (some ⟨g, 0, none⟩) n cap) d) (i j : Nat) (hi : i < d.size) (hj : j < d.size) :
    RowU ((w.setCell ⟨g, i, none⟩ (.int .u64 (d[j]! : Nat))).setCell ⟨g, j, none⟩ (.int .u64 (d[i]! : Nat))) (.slice (some ⟨g, 0, none⟩) n cap) (Sort.swp d i j) :=
  RowU.set (RowU.set h i hi d[j]!) j (by simpa using hj) d[i]!
end

/-- the row becomes d' -/
def SortTo (v : Value) (g : Nat) (r : Value) (d' : Array Nat) (w : World) (e : Ending) (w' : World) : Prop := e = .returned r ∧ RowU w' v d' ∧ Only (fun k => k = g) w w'

theorem isNaN_any (x : Nat) (w : World) : Calls Tryz.prog 211 #[.int .u64 x] w fun e w' => e = .returned (.bool false) ∧ w' = w := by
  go_enter Tryz.func211, Tryz.ntmps211
  go_wp2
  go_ret
  exact ⟨by simp, rfl⟩
theorem less_any (x y : Nat) (w : World) : Calls Tryz.prog 198 #[.int .u64 x, .int .u64 y] w fun e w' => e = .returned (.bool (ltN x y)) ∧ w' = w := by
  go_enter Tryz.func198, Tryz.ntmps198
  go_wp2_with (go_at_call 211; refine (isNaN_any _ _).mono ?_; rintro e w1 ⟨rfl, rfl⟩)
  go_ret
  exact ⟨by simp [ltN], rfl⟩

end Go.Proofs.YtjcmphjjkeigjaaGreat

namespace Go.Proofs.YtjcmphjjkeigjaaGreat
open Go.RowKit
set_option linter.unusedVariables false
set_option linter.unusedSimpArgs false

theorem swp_sz (d : Array Nat) (i j : Nat) : (Sort.swp d i j).size = d.size := by simp [Sort.swp]
theorem ins_go (a j : Nat) (d : Array Nat) (h : a < j + 1) (hl : ltN d[j + 1]! d[j]! = true) : Sort.insInner ltN a (j + 1) d = Sort.insInner ltN a j (Sort.swp d (j + 1) j) := by
  rw [Sort.insInner, if_pos (by simp [hl]; omega)]
theorem ins_stop (a j : Nat) (d : Array Nat) (hl : ltN d[j + 1]! d[j]! = false) : Sort.insInner ltN a (j + 1) d = d := by
  rw [Sort.insInner, if_neg (by simp [hl])]
theorem ins_low (a j : Nat) (d : Array Nat) (h : j ≤ a) : Sort.insInner ltN a j d = d := by
  cases j with
  | zero => rfl
  | succ j => rw [Sort.insInner, if_neg (by simp; omega)]
theorem out_go (a b i : Nat) (d : Array Nat) (h : i < b) : Sort.insOuter ltN a b i d = Sort.insOuter ltN a b (i + 1) (Sort.insInner ltN a i d) := by rw [Sort.insOuter, if_pos h]
theorem out_end (a b i : Nat) (d : Array Nat) (h : ¬ i < b) : Sort.insOuter ltN a b i d = d := by rw [Sort.insOuter, if_neg h]

/-- a row at work: what holds between two steps -/
structure RowW (w : World) (g n cap : Nat) (d : Array Nat) (W : World) : Prop where
  row : RowU W (.slice (some ⟨g, 0, none⟩) n cap) d
  only : Only (fun k => k = g) w W
section
variable {w W : World} {g n cap : Nat} {d : Array Nat}
theorem RowW.drew (h : RowW w g n cap d W) (m : Nat) : RowW w g n cap d (W.drewN m) := ⟨Recs.keep h.row fun _ _ => rfl, h.only.trans (Only.drewN _ m) fun _ _ e => e⟩
theorem RowW.drew1 (h : RowW w g n cap d W) : RowW w g n cap d W.drew := ⟨Recs.keep h.row fun _ _ => rfl, h.only.trans (Only.drew _) fun _ _ e => e⟩
theorem RowW.swp (h : RowW w g n cap d W) (i j : Nat) (hi : i < d.size) (hj : j < d.size) : RowW w g n cap (Sort.swp d i j) ((W.setCell ⟨g, i, none⟩ (.int .u64 (d[j]! : Nat))).setCell ⟨g, j, none⟩ (.int .u64 (d[i]! : Nat))) :=
  ⟨h.row.swp i j hi hj, (h.only.trans (Only.setCell (S := fun k => k = g) _ _ _ rfl) fun _ _ e => e).trans (Only.setCell (S := fun k => k = g) _ _ _ rfl) fun _ _ e => e⟩
theorem RowW.start (h : RowU w (.slice (some ⟨g, 0, none⟩) n cap) d) : RowW w g n cap d w := ⟨h, Only.refl _ _⟩
theorem RowW.done (h : RowW w g n cap d W) (r : Value) : SortTo (.slice (some ⟨g, 0, none⟩) n cap) g r d w (.returned r) W := ⟨rfl, h.row, h.only⟩
end

set_option maxHeartbeats 4000000 in
set_option maxRecDepth 100000 in
theorem insertion_any (g n cap : Nat) (d : Array Nat) (a b : Nat) (w : World) (h : RowU w (.slice (some ⟨g, 0, none⟩) n cap) d) (hab : a ≤ b) (hb : b ≤ n) (hn : n ≤ 1073741824) :
    Calls Tryz.prog 192 #[.slice (some ⟨g, 0, none⟩) n cap, .int .i64 a, .int .i64 b] w (SortTo (.slice (some ⟨g, 0, none⟩) n cap) g (.tuple #[]) (Sort.insertionSort ltN d a b) w) := by
  obtain ⟨hsz, hnc, hcm⟩ := h.len
  unfold maxLen at hcm
  have HS := Lib.hid (RowW.start h)
  have HSZ := Lib.hid hsz
  clear h hsz
  go_enter Tryz.func192, Tryz.ntmps192
  go_wp2
  go_loopw [6] (fun x wr => ∃ (i : Nat) (dk : Array Nat), x = .int .i64 i ∧ i ≤ b + 1 ∧ a < i ∧ dk.size = n ∧ RowW w g n cap dk wr ∧ Sort.insOuter ltN a b i dk = Sort.insertionSort ltN d a b) (fun x _ => b - (intOf x).toNat)
  case atStart => exact ⟨a + 1, d, by simp, by omega, by omega, HSZ.out, HS.out, rfl⟩
  case round =>
    obtain ⟨i, dk, rfl, hi, hai, hdk, hrw, heq⟩ := hrel
    have HRW := Lib.hid hrw
    have HEQ := Lib.hid heq
    have HDK := Lib.hid hdk
    clear hrw heq hdk HS
    by_cases hlt : i < b
    · have hlti : (i : Int) < (b : Int) := by omega
      have HE2 := Lib.hid ((out_go a b i dk hlt).symm.trans HEQ.out)
      go_wp2
      go_loopw [7] (fun x wr => ∃ (j : Nat) (dj : Array Nat), x = .int .i64 j ∧ j ≤ i ∧ dj.size = n ∧ RowW w g n cap dj wr ∧ Sort.insInner ltN a j dj = Sort.insInner ltN a i dk) (fun x _ => (intOf x).toNat)
      case atStart => exact ⟨i, dk, rfl, Nat.le_refl _, HDK.out, HRW.out, rfl⟩
      case round =>
        obtain ⟨j, dj, rfl, hj, hdj, hrw, heq⟩ := hrel
        have HRJ := Lib.hid hrw
        have HEJ := Lib.hid heq
        have HDJ := Lib.hid hdj
        have hcw := hrw.row.cells
        have hfw := hrw.row.frozen
        rw [hdj] at hcw
        clear hrw heq hdj
        by_cases hja : a < j
        · obtain ⟨q, hjq⟩ : ∃ q, j = q + 1 := ⟨j - 1, by omega⟩
          have HQ := Lib.hid hjq
          have hjai : (a : Int) < (j : Int) := by omega
          have hq : (j : Int) - 1 = (q : Int) := by omega
          have hqn : q < n := by omega
          have hjn : j < n := by omega
          clear hjq
          go_wp2_with fail
          go_big_quiet (first | (go_at_call 198; refine Calls.quiet_of_same (less_any _ _ _)))
          go_wp2_with fail
          · have hl : ltN dj[j]! dj[q]! = true := by assumption
            have HRS := Lib.hid (((HRJ.out).drew nq).swp j q (by rw [HDJ.out]; exact hjn) (by rw [HDJ.out]; exact hqn))
            have HES := Lib.hid (show Sort.insInner ltN a q (Sort.swp dj j q) = Sort.insInner ltN a i dk by
              rw [← HEJ.out]; have := HQ.out; subst this; exact (ins_go a q dj hja hl).symm)
            have hcw2 : ∀ t, t < n → (wr.drewN nq).cell? ⟨g, t, none⟩ = some (.int .u64 (dj[t]! : Nat)) := hcw
            have hfw2 : ∀ t, (wr.drewN nq).frozen? ⟨g, t, none⟩ = false := hfw
            clear hcw hfw
            generalize wr.drewN nq = wr2 at *
            go_region
            go_wp2
            go_roundw
            case rel => exact ⟨q, Sort.swp dj j q, rfl, by omega, by rw [swp_sz]; exact HDJ.out, HRS.out.drew1, HES.out⟩
            case measure => have := HQ.out; simp only [intOf]; omega
          · have hl : ltN dj[j]! dj[q]! = false := by assumption
            go_wp2
            go_roundw
            case rel =>
              exact ⟨i + 1, dj, by first | rfl | simp, by omega, by omega, HDJ.out, HRJ.out.drew _, by
                have h1 := HEJ.out
                have h2 := HE2.out
                have h3 := HQ.out
                subst h3
                rw [ins_stop a q dj hl] at h1
                rw [h1]; exact h2⟩
            case measure => simp only [intOf]; omega
        · have hjai : ¬ (a : Int) < (j : Int) := by omega
          go_wp2_with fail
          go_big_quiet (fail)
          go_wp2
          go_roundw
          case rel =>
              exact ⟨i + 1, dj, by first | rfl | simp, by omega, by omega, HDJ.out, HRJ.out.drew _, by
                have h1 := HEJ.out
                have h2 := HE2.out
                rw [ins_low a j dj (by omega)] at h1
                rw [h1]; exact h2⟩
          case measure => simp only [intOf]; omega
    · have hlti : ¬ (i : Int) < (b : Int) := by omega
      go_wp2
      go_end0
      have := HEQ.out
      rw [out_end a b i dk hlt] at this
      rw [← this]
      exact HRW.out.done _

end Go.Proofs.YtjcmphjjkeigjaaGreat

namespace Go.Proofs.YtjcmphjjkeigjaaGreat
open Go.RowKit
set_option linter.unusedVariables false
set_option linter.unusedSimpArgs false

/-- the greater child -/
def kidN (hi F root : Nat) (d : Array Nat) : Bool := decide (2 * root + 2 < hi) && ltN d[F + (2 * root + 1)]! d[F + (2 * root + 2)]!
theorem sd_end {hi F root : Nat} (d : Array Nat) (h : hi ≤ 2 * root + 1) : Sort.siftDown ltN hi F root d = d := by rw [Sort.siftDown, dif_pos h]
theorem sd_stop {hi F root c : Nat} (d : Array Nat) (h0 : 2 * root + 1 < hi) (hc : c = if kidN hi F root d = true then 2 * root + 2 else 2 * root + 1) (h : ltN d[F + root]! d[F + c]! = false) : Sort.siftDown ltN hi F root d = d := by
  have he : (decide (2 * root + 1 + 1 < hi) && ltN d[F + (2 * root + 1)]! d[F + (2 * root + 1) + 1]!) = kidN hi F root d := rfl
  rw [Sort.siftDown, dif_neg (by omega), he]
  split at hc <;> rename_i hk
  · rw [if_pos hk, ← hc, if_pos (by simp [h])]
  · rw [if_neg hk, ← hc, if_pos (by simp [h])]
theorem sd_go {hi F root c : Nat} (d : Array Nat) (h0 : 2 * root + 1 < hi) (hc : c = if kidN hi F root d = true then 2 * root + 2 else 2 * root + 1) (h : ltN d[F + root]! d[F + c]! = true) : Sort.siftDown ltN hi F root d = Sort.siftDown ltN hi F c (Sort.swp d (F + root) (F + c)) := by
  have he : (decide (2 * root + 1 + 1 < hi) && ltN d[F + (2 * root + 1)]! d[F + (2 * root + 1) + 1]!) = kidN hi F root d := rfl
  rw [Sort.siftDown, dif_neg (by omega), he]
  split at hc <;> rename_i hk
  · rw [if_pos hk, ← hc, if_neg (by simp [h]), dif_pos (by unfold kidN at hk; simp at hk; omega)]
  · rw [if_neg hk, ← hc, if_neg (by simp [h])]

set_option maxHeartbeats 4000000 in
set_option maxRecDepth 100000 in
theorem sift_any (g n cap : Nat) (d : Array Nat) (lo hi F : Nat) (w : World) (h : RowU w (.slice (some ⟨g, 0, none⟩) n cap) d) (hlh : lo ≤ hi) (hb : F + hi ≤ n) (hn : n ≤ 1073741824) :
    Calls Tryz.prog 206 #[.slice (some ⟨g, 0, none⟩) n cap, .int .i64 lo, .int .i64 hi, .int .i64 F] w (SortTo (.slice (some ⟨g, 0, none⟩) n cap) g (.tuple #[]) (Sort.siftDown ltN hi F lo d) w) := by
  obtain ⟨hsz, hnc, hcm⟩ := h.len
  unfold maxLen at hcm
  have HS := Lib.hid (RowW.start h)
  have HSZ := Lib.hid hsz
  clear h hsz
  go_enter Tryz.func206, Tryz.ntmps206
  go_wp2
  go_loopw [8] (fun x wr => ∃ (r : Nat) (dk : Array Nat), x = .int .i64 r ∧ r ≤ hi ∧ dk.size = n ∧ RowW w g n cap dk wr ∧ Sort.siftDown ltN hi F r dk = Sort.siftDown ltN hi F lo d) (fun x _ => hi - (intOf x).toNat)
  case atStart => exact ⟨lo, d, rfl, hlh, HSZ.out, HS.out, rfl⟩
  case round =>
    obtain ⟨r, dk, rfl, hr, hdk, hrw, heq⟩ := hrel
    have HRW := Lib.hid hrw
    have HEQ := Lib.hid heq
    have HDK := Lib.hid hdk
    have hcw := hrw.row.cells
    have hfw := hrw.row.frozen
    rw [hdk] at hcw
    clear hrw heq hdk HS
    by_cases h0 : 2 * r + 1 < hi
    · obtain ⟨c1, hc1⟩ : ∃ c1, c1 = 2 * r + 1 := ⟨_, rfl⟩
      have hci : 2 * (r : Int) + 1 = (c1 : Int) := by omega
      have h0i : ¬ (hi : Int) ≤ (c1 : Int) := by omega
      have HC1 := Lib.hid hc1
      have HH0 := Lib.hid h0
      have hfr : F + r < n := by omega
      have hf1 : F + c1 < n := by omega
      obtain ⟨x, hx⟩ : ∃ x, x = F + r := ⟨_, rfl⟩
      obtain ⟨y1, hy1⟩ : ∃ y, y = F + c1 := ⟨_, rfl⟩
      have hxi : (F : Int) + (r : Int) = (x : Int) := by omega
      have hy1i : (F : Int) + (c1 : Int) = (y1 : Int) := by omega
      have HX := Lib.hid hx
      have HY1 := Lib.hid hy1
      rw [← hx] at hfr
      rw [← hy1] at hf1
      clear hc1 h0 hx hy1
      go_upto_region 3 with (fail)
      go_cut [36] (fun s wc => s = .bool (kidN hi F r dk) ∧ ∃ m, wc = wr.drewN m)
      case first =>
        by_cases h2 : 2 * r + 2 < hi
        · have hy2 : y1 + 1 < n := by have := HC1.out; have := HY1.out; have := HX.out; omega
          have h2i : (c1 : Int) + 1 < (hi : Int) := by have := HC1.out; omega
          have HKD := Lib.hid (show ltN dk[y1]! dk[y1 + 1]! = kidN hi F r dk by
            have e1 := HC1.out; have e2 := HY1.out
            unfold kidN; rw [decide_eq_true h2, Bool.true_and, e2, e1]; rfl)
          go_big_quiet (first | (go_at_call 198; refine Calls.quiet_of_same (less_any _ _ _)))
          go_wp2_with fail
          go_meet
          exact ⟨by rw [HKD.out], _, rfl⟩
        · have h2i : ¬ (c1 : Int) + 1 < (hi : Int) := by have := HC1.out; omega
          have HKD := Lib.hid (show kidN hi F r dk = false by unfold kidN; rw [decide_eq_false h2, Bool.false_and])
          go_big_quiet (fail)
          go_wp2_with fail
          go_meet
          exact ⟨by rw [HKD.out], _, rfl⟩
      case rest =>
        obtain ⟨rfl, m, rfl⟩ := hcut
        have HR2 := Lib.hid (HRW.out.drew m)
        have hcw2 : ∀ t, t < n → (wr.drewN m).cell? ⟨g, t, none⟩ = some (.int .u64 (dk[t]! : Nat)) := hcw
        have hfw2 : ∀ t, (wr.drewN m).frozen? ⟨g, t, none⟩ = false := hfw
        clear hcw hfw
        generalize wr.drewN m = wr2 at *
        obtain ⟨bb, hbb⟩ : ∃ b, b = kidN hi F r dk := ⟨_, rfl⟩
        rw [← hbb]
        have HBB := Lib.hid hbb
        clear hbb
        go_upto_if 36 with (fail)
        go_cut [9] (fun s wc => wc = wr2 ∧ ∃ c : Nat, s = .int .i64 c ∧ c = (if kidN hi F r dk = true then 2 * r + 2 else 2 * r + 1))
        case first =>
          cases bb with
          | true =>
            go_wp2_with fail
            go_meet
            exact ⟨rfl, c1 + 1, rfl, by rw [← HBB.out, if_pos rfl]; have := HC1.out; omega⟩
          | false =>
            go_wp2_with fail
            go_meet
            exact ⟨rfl, c1, rfl, by rw [← HBB.out, if_neg (by simp)]; exact HC1.out⟩
        obtain ⟨hwc, c, rfl, hc⟩ := hcut
        replace hwc := hwc.symm
        subst hwc
        have HC := Lib.hid hc
        have hchi : c < hi ∧ r < c := by
          have e1 := HH0.out
          rw [hc]; split
          · rename_i hk; unfold kidN at hk; simp at hk; omega
          · omega
        obtain ⟨y, hy⟩ : ∃ y, y = F + c := ⟨_, rfl⟩
        have hyi : (F : Int) + (c : Int) = (y : Int) := by omega
        have hyn : y < n := by omega
        have HY := Lib.hid hy
        clear hc hy
        go_wp2_with fail
        go_big_quiet (first | (go_at_call 198; refine Calls.quiet_of_same (less_any _ _ _)))
        go_wp2_with fail
        · have hl : ltN dk[x]! dk[y]! = false := by
            have : (!ltN dk[x]! dk[y]!) = true := by assumption
            simpa using this
          (try simp only [Exit.inBlock, Exit.then]); refine bodyPost_ret (results_none rfl _ _ _) rfl ?_
          have h1 := HEQ.out
          rw [sd_stop dk HH0.out HC.out (by rw [← HX.out, ← HY.out]; exact hl)] at h1
          rw [← h1]
          exact (HR2.out.drew _).done _
        · have hl : ltN dk[x]! dk[y]! = true := by
            have : (!ltN dk[x]! dk[y]!) = false := by assumption
            simpa using this
          have HRS := Lib.hid (((HR2.out).drew nq).swp x y (by rw [HDK.out]; exact hfr) (by rw [HDK.out]; exact hyn))
          have HES := Lib.hid (show Sort.siftDown ltN hi F c (Sort.swp dk x y) = Sort.siftDown ltN hi F lo d by
            rw [← HEQ.out, HX.out, HY.out]; exact (sd_go dk HH0.out HC.out (by rw [← HX.out, ← HY.out]; exact hl)).symm)
          have hcw3 : ∀ t, t < n → (wr2.drewN nq).cell? ⟨g, t, none⟩ = some (.int .u64 (dk[t]! : Nat)) := hcw2
          have hfw3 : ∀ t, (wr2.drewN nq).frozen? ⟨g, t, none⟩ = false := hfw2
          clear hcw2 hfw2
          generalize wr2.drewN nq = wr3 at *
          go_region
          go_wp2
          go_roundw
          case rel => exact ⟨c, Sort.swp dk x y, rfl, by omega, by rw [swp_sz]; exact HDK.out, HRS.out.drew1, HES.out⟩
          case measure => simp only [intOf]; omega
    · have h0i : (hi : Int) ≤ 2 * (r : Int) + 1 := by omega
      go_wp2
      go_end0
      have := HEQ.out
      rw [sd_end dk (by omega)] at this
      rw [← this]
      exact HRW.out.done _

theorem hb_end (hi F : Nat) (d : Array Nat) : Sort.heapBuild ltN hi F 0 d = d := rfl
theorem hb_go (hi F k : Nat) (d : Array Nat) : Sort.heapBuild ltN hi F (k + 1) d = Sort.heapBuild ltN hi F k (Sort.siftDown ltN hi F k d) := rfl
theorem hp_end (F : Nat) (d : Array Nat) : Sort.heapPop ltN F 0 d = d := rfl
theorem hp_go (F k : Nat) (d : Array Nat) : Sort.heapPop ltN F (k + 1) d = Sort.heapPop ltN F k (Sort.siftDown ltN k F 0 (Sort.swp d F (F + k))) := rfl
theorem sift_sz (hi F : Nat) : ∀ (k r : Nat) (d : Array Nat), hi - r ≤ k → (Sort.siftDown ltN hi F r d).size = d.size
  | 0, r, d, h => by rw [sd_end d (by omega)]
  | k + 1, r, d, h => by
    by_cases h0 : 2 * r + 1 < hi
    · obtain ⟨c, hc⟩ : ∃ c, c = if kidN hi F r d = true then 2 * r + 2 else 2 * r + 1 := ⟨_, rfl⟩
      cases hl : ltN d[F + r]! d[F + c]! with
      | false => rw [sd_stop d h0 hc hl]
      | true =>
        rw [sd_go d h0 hc hl, sift_sz hi F k c _ (by split at hc <;> omega), swp_sz]
    · rw [sd_end d (by omega)]
theorem arr_self (d : Array Nat) (a : Nat) : d.setIfInBounds a d[a]! = d := by
  apply Array.ext
  · simp
  · intro i h1 h2
    rw [Array.getElem_setIfInBounds]
    split
    · rename_i h; subst h; rw [getElem!_pos d a h2]
    · rfl
theorem RowW.step {w W W' : World} {g n cap : Nat} {d d' : Array Nat} {r : Value} {e : Ending} (h : RowW w g n cap d W) (k : SortTo (.slice (some ⟨g, 0, none⟩) n cap) g r d' W e W') : RowW w g n cap d' W' :=
  ⟨k.2.1, h.only.trans k.2.2 fun _ _ e => e⟩

set_option maxHeartbeats 4000000 in
set_option maxRecDepth 100000 in
theorem heap_any (g n cap : Nat) (d : Array Nat) (a b : Nat) (w : World) (h : RowU w (.slice (some ⟨g, 0, none⟩) n cap) d) (hab : a < b) (hb : b ≤ n) (hn : n ≤ 1073741824) :
    Calls Tryz.prog 193 #[.slice (some ⟨g, 0, none⟩) n cap, .int .i64 a, .int .i64 b] w (SortTo (.slice (some ⟨g, 0, none⟩) n cap) g (.tuple #[]) (Sort.heapSort ltN d a b) w) := by
  obtain ⟨hsz, hnc, hcm⟩ := h.len
  unfold maxLen at hcm
  have HS := Lib.hid (RowW.start h)
  have HSZ := Lib.hid hsz
  have CS := Lib.hid (fun (dk : Array Nat) (lo hi : Nat) (u : World) (h : RowU u (.slice (some ⟨g, 0, none⟩) n cap) dk) (h1 : lo ≤ hi) (h2 : a + hi ≤ n) => sift_any g n cap dk lo hi a u h h1 h2 hn)
  clear h hsz
  obtain ⟨m, hm⟩ : ∃ m, m = b - a := ⟨_, rfl⟩
  have hmi : (b : Int) - (a : Int) = (m : Int) := by omega
  have HM := Lib.hid hm
  have ham : a + m ≤ n := by omega
  have hm0 : 0 < m := by omega
  obtain ⟨q, hq⟩ : ∃ q, q = (m - 1) / 2 := ⟨_, rfl⟩
  have hqi : Int.tdiv ((m : Int) - 1) 2 = (q : Int) := by rw [Int.tdiv_eq_ediv_of_nonneg (by omega)]; omega
  have HQ := Lib.hid hq
  have hqm : q < m := by omega
  clear hm hq
  go_enter Tryz.func193, Tryz.ntmps193
  go_wp2
  go_loopw [9] (fun x wr => ∃ (k : Nat) (dk : Array Nat), x = .int .i64 ((k : Int) - 1) ∧ k ≤ q + 1 ∧ dk.size = n ∧ RowW w g n cap dk wr ∧ Sort.heapPop ltN a m (Sort.heapBuild ltN m a k dk) = Sort.heapSort ltN d a b) (fun x _ => (intOf x + 1).toNat)
  case atStart => exact ⟨q + 1, d, by rw [show ((q + 1 : Nat) : Int) - 1 = (q : Int) by omega], Nat.le_refl _, HSZ.out, HS.out, by unfold Sort.heapSort; rw [← HM.out, HQ.out]⟩
  case round =>
    obtain ⟨k, dk, rfl, hk, hdk, hrw, heq⟩ := hrel
    have HRW := Lib.hid hrw
    have HEQ := Lib.hid heq
    have HDK := Lib.hid hdk
    clear hrw heq hdk HS
    by_cases hk0 : 0 < k
    · obtain ⟨j, hj⟩ : ∃ j, k = j + 1 := ⟨k - 1, by omega⟩
      subst hj
      have hji : ((j + 1 : Nat) : Int) - 1 = (j : Int) := by omega
      have hj0 : ¬ (j : Int) < 0 := by omega
      rw [hji]
      go_wp2_with (go_at_call 206; refine (CS.out dk j m wr HRW.out.row (by omega) ham).mono ?_; rintro e w1 hs; obtain ⟨rfl, hs2⟩ := id hs)
      go_roundw
      case rel => exact ⟨j, _, rfl, by omega, by rw [sift_sz m a m j dk (by omega)]; exact HDK.out, HRW.out.step hs, by rw [← HEQ.out, hb_go]⟩
      case measure => simp only [intOf]; omega
    · have hk1 : k = 0 := by omega
      subst hk1
      have HP := Lib.hid (hb_end m a dk ▸ HEQ.out)
      rw [show ((0 : Nat) : Int) - 1 = -1 by rfl]
      go_wp2
      go_loopw [10] (fun x wr => ∃ (k : Nat) (dk : Array Nat), x = .int .i64 ((k : Int) - 1) ∧ k ≤ m ∧ dk.size = n ∧ RowW w g n cap dk wr ∧ Sort.heapPop ltN a k dk = Sort.heapSort ltN d a b) (fun x _ => (intOf x + 1).toNat)
      case atStart => exact ⟨m, dk, rfl, Nat.le_refl _, HDK.out, HRW.out, HP.out⟩
      case round =>
        clear HRW HEQ HDK HP
        obtain ⟨k, dk, rfl, hk, hdk, hrw, heq⟩ := hrel
        have HRW := Lib.hid hrw
        have HEQ := Lib.hid heq
        have HDK := Lib.hid hdk
        have hcw := hrw.row.cells
        have hfw := hrw.row.frozen
        rw [hdk] at hcw
        clear hrw heq hdk
        by_cases hk0 : 0 < k
        · obtain ⟨j, hj⟩ : ∃ j, k = j + 1 := ⟨k - 1, by omega⟩
          subst hj
          have hji : ((j + 1 : Nat) : Int) - 1 = (j : Int) := by omega
          have hj0 : ¬ (j : Int) < 0 := by omega
          by_cases hj : j = 0
          · subst hj
            have hyi : (a : Int) + ((0 : Nat) : Int) = (a : Int) := by omega
            have han : a < n := by omega
            have hsw : Sort.swp dk a a = dk := by unfold Sort.swp; rw [Array.setIfInBounds_setIfInBounds]; exact arr_self dk a
            have HRS := Lib.hid (show RowW w g n cap dk ((wr.setCell ⟨g, a, none⟩ (.int .u64 (dk[a]! : Nat))).setCell ⟨g, a, none⟩ (.int .u64 (dk[a]! : Nat))).drew by
              have h0 := ((HRW.out).swp a a (by rw [HDK.out]; exact han) (by rw [HDK.out]; exact han)).drew1
              rw [hsw] at h0
              exact h0)
            have HSW := Lib.hid hsw
            clear hsw
            rw [hji]
            go_wp2_with fail
            go_region
            go_wp2_with (go_at_call 206; refine (CS.out dk 0 0 _ HRS.out.row (by omega) (by omega)).mono ?_; rintro e w1 hs; obtain ⟨rfl, hs2⟩ := id hs)
            go_roundw
            case rel => exact ⟨0, _, rfl, by omega, by rw [sift_sz 0 a 0 0 _ (by omega)]; exact HDK.out, HRS.out.step hs, by rw [← HEQ.out, hp_go, Nat.add_zero, HSW.out]⟩
            case measure => simp only [intOf]; omega
          · obtain ⟨y, hy⟩ : ∃ y, y = a + j := ⟨_, rfl⟩
            have hyi : (a : Int) + (j : Int) = (y : Int) := by omega
            have hyn : y < n := by omega
            have han : a < n := by omega
            have HY := Lib.hid hy
            have hay : a < y := by omega
            have HRS := Lib.hid ((HRW.out).swp a y (by rw [HDK.out]; exact han) (by rw [HDK.out]; exact hyn)).drew1
            rw [hji]
            clear hy
            go_wp2_with fail
            go_region
            go_wp2_with (go_at_call 206; refine (CS.out (Sort.swp dk a y) 0 j _ HRS.out.row (by omega) (by omega)).mono ?_; rintro e w1 hs; obtain ⟨rfl, hs2⟩ := id hs)
            go_roundw
            case rel => exact ⟨j, _, rfl, by omega, by rw [sift_sz j a j 0 _ (by omega), swp_sz]; exact HDK.out, HRS.out.step hs, by rw [← HEQ.out, hp_go, HY.out]⟩
            case measure => simp only [intOf]; omega
        · have hk1 : k = 0 := by omega
          subst hk1
          rw [show ((0 : Nat) : Int) - 1 = -1 by rfl]
          go_wp2
          go_end0
          have := HEQ.out
          rw [hp_end] at this
          rw [← this]
          exact HRW.out.done _

end Go.Proofs.YtjcmphjjkeigjaaGreat
