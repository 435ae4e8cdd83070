/-
  The document's own answers for layer 9 (hamperref09): Check, Order.
-/
import Derived.Test.YtklfoafbgniogaaCnMath
import Derived.Test.YtklfoafbgniogaaInts
import Derived.Test.YtklfoafbgniogaaOwn
import Derived.Deep.Cut
namespace Go.Proofs.Ytklfoafbgniogaa
open Go.RowKit
set_option linter.unusedVariables false
set_option linter.unusedSimpArgs false
set_option maxRecDepth 100000

/-! ### a list, taken one by one -/
def okI (x : Int) : Bool := decide (0 ≤ x) && decide (x ≤ 15)
theorem take_one {α : Type} (l : List α) (k : Nat) (d : α) (h : k < l.length) : l.take (k + 1) = l.take k ++ [l.getD k d] := by
  rw [List.take_succ_eq_append_getElem h, List.getD, List.getElem?_eq_getElem h]; rfl
theorem kraft_snoc (ls : List Nat) (x : Nat) : kraft (ls ++ [x]) = kraft ls + if x = 0 then 0 else 2 ^ (15 - x) := by unfold kraft; simp
theorem kraft_small (ls : List Nat) : kraft ls ≤ 16384 * ls.length := by
  unfold kraft
  induction ls with
  | nil => simp
  | cons x l ih =>
    rw [List.map_cons, List.sum_cons, List.length_cons]
    split
    · omega
    · have : 2 ^ (15 - x) ≤ 2 ^ 14 := Nat.pow_le_pow_right (by omega) (by omega)
      have h14 : (2 : Nat) ^ 14 = 16384 := by decide
      omega
theorem half_pow (j : Nat) : 32768 / 2 ^ j / 2 = 32768 / 2 ^ (j + 1) := by rw [Nat.div_div_eq_div_mul, Nat.pow_succ]
theorem part_pow (y : Nat) (h : y ≤ 15) : 32768 / 2 ^ y = 2 ^ (15 - y) := by
  rw [show 32768 = 2 ^ (15 - y) * 2 ^ y by rw [← Nat.pow_add, show 15 - y + y = 15 by omega]]
  exact Nat.mul_div_cancel _ (Nat.pow_pos (by omega))
theorem part_small (j : Nat) : 32768 / 2 ^ j ≤ 32768 := Nat.div_le_self _ _
theorem natsL_take (L : List Int) (k : Nat) (h : k < L.length) : natsL (L.take (k + 1)) = natsL (L.take k) ++ [(L.getD k 0).toNat] := by rw [take_one L k 0 h]; unfold natsL; rw [List.map_append]; rfl
theorem validL_eq (L : List Int) : validL L = (decide (L.length ≤ 320) && L.all okI) := rfl
theorem all_take (L : List Int) (k : Nat) (h : k < L.length) : (L.take (k + 1)).all okI = ((L.take k).all okI && okI (L.getD k 0)) := by rw [take_one L k 0 h, List.all_append]; simp
theorem not_valid (L : List Int) (k : Nat) (h : k < L.length) (hx : okI (L.getD k 0) = false) : validL L = false := by
  rw [validL_eq]
  have : L.all okI = false := by
    rw [List.all_eq_false]
    refine ⟨L.getD k 0, ?_, by rw [hx]; simp⟩
    rw [List.getD, List.getElem?_eq_getElem h]; exact List.getElem_mem h
  rw [this]; simp

set_option maxHeartbeats 2000000 in
theorem cnCheck_any (a : Option Addr) (n cap : Nat) (L : List Int) (w : World) (h : IntsAt w a n cap L) :
    Calls Try.prog 14 #[.slice a n cap] w fun e w' => e = .returned (.int .i64 (checkE L)) ∧ Below w.heap.size w w' := by
  have hl : L.length = n := h.1
  have hn : n ≤ 9223372036854775807 := by have := h.2.1; have := h.2.2.1; unfold maxLen at *; omega
  have HL := Lib.hid h
  have H1 := Lib.hid hl
  by_cases hbig : 320 < n
  · have hE := Lib.hid (show checkE L = 1 by unfold checkE; rw [if_pos]; rw [validL_eq, hl]; simp; omega)
    have hbi : (320 : Int) < n := by omega
    clear h hl
    go_enter Try.func14, Try.ntmps14
    go_wp2
    go_ret
    exact ⟨by rw [hE.out]; rfl, Below.refl _ _⟩
  have HNV := Lib.hid (fun k (hk : k < n) => not_valid L k (by rw [hl]; exact hk))
  have HAL := Lib.hid (fun k (hk : k < n) => all_take L k (by rw [hl]; exact hk))
  have HNT := Lib.hid (fun k (hk : k < n) => natsL_take L k (by rw [hl]; exact hk))
  have HSM := Lib.hid (fun k => kraft_small (natsL (L.take k)))
  have HCH := Lib.hid (show L.all okI = true → checkE L = if 32768 < kraft (natsL L) then 8 else if kraft (natsL L) < 32768 then 2 else 0 from fun h => by
    unfold checkE; rw [if_neg]; rw [validL_eq, hl, h]; simp; omega)
  have HNO := Lib.hid (show validL L = false → checkE L = 1 from fun h => by unfold checkE; rw [if_pos h])
  have hn3 : n ≤ 320 := by omega
  have hbi : ¬ (320 : Int) < n := by omega
  clear h hl
  go_enter Try.func14, Try.ntmps14
  go_wp2
  go_loopw [3, 4, 5, 6] (fun s i p q wr => ∃ k : Nat, k ≤ n ∧ i = .int .i64 k ∧ s = .int .i64 (kraft (natsL (L.take k)) : Nat) ∧ (L.take k).all okI = true ∧ Below w.heap.size w wr) (fun _ i _ _ _ => n - (intOf i).toNat)
  case atStart => exact ⟨0, Nat.zero_le _, rfl, rfl, rfl, Below.refl _ _⟩
  case round =>
    obtain ⟨k, hk, rfl, rfl, hv, hb⟩ := hrel
    have HB := Lib.hid hb
    have HV := Lib.hid hv
    clear hb hv
    by_cases hlt : k < n
    · obtain ⟨b, off, rfl, _, hc⟩ := IntsAt.cell (CameAt.below HL.out (by omega) HB.out) (by omega)
      have x1 := hc k hlt
      have hki : (k : Int) < n := by omega
      have hok := HAL.out k hlt
      have hno := HNV.out k hlt
      have hnt := HNT.out k hlt
      clear hc
      obtain ⟨z, hz⟩ : ∃ z, z = L.getD k 0 := ⟨_, rfl⟩
      rw [← hz] at x1 hok hno hnt
      have HZ := Lib.hid hz
      have HOK := Lib.hid hok
      have HNT2 := Lib.hid hnt
      clear hz hok hnt HAL HNV HNT
      by_cases hneg : z < 0
      · have HR := Lib.hid (HNO.out (hno (by unfold okI; simp; omega)))
        clear hno
        go_wp2
        go_ret
        exact ⟨by rw [HR.out]; rfl, HB.out⟩
      · by_cases h15 : 15 < z
        · have HR := Lib.hid (HNO.out (hno (by unfold okI; simp; omega)))
          clear hno
          go_wp2
          go_ret
          exact ⟨by rw [HR.out]; rfl, HB.out⟩
        · clear hno
          obtain ⟨y, rfl⟩ : ∃ y : Nat, z = y := ⟨z.toNat, by omega⟩
          have hy : y ≤ 15 := by omega
          have hyv := HOK.out
          have hok2 : okI (y : Int) = true := by unfold okI; simp; omega
          rw [HV.out, hok2] at hyv
          have hyn := HNT2.out
          rw [Int.toNat_natCast] at hyn
          have HYV := Lib.hid hyv
          have HYK := Lib.hid (show kraft (natsL (L.take (k + 1))) = kraft (natsL (L.take k)) + if y = 0 then 0 else 2 ^ (15 - y) by rw [hyn, kraft_snoc])
          clear hyv hyn hok2 HOK HNT2
          have HKS := Lib.hid (show kraft (natsL (L.take k)) ≤ 5242880 by
            have h1 := HSM.out k
            have h2 : (natsL (L.take k)).length ≤ 320 := by unfold natsL; rw [List.length_map, List.length_take]; omega
            omega)
          generalize hK : kraft (natsL (L.take k)) = K at *
          go_wp2
          go_loopw [5, 6] (fun p q wr2 => ∃ j : Nat, j ≤ y ∧ q = .int .i64 j ∧ p = .int .i64 ((32768 / 2 ^ j : Nat) : Int) ∧ wr2 = wr) (fun _ q _ => y - (intOf q).toNat)
          case atStart => exact ⟨0, Nat.zero_le _, rfl, rfl, rfl⟩
          case round =>
            obtain ⟨j, hj, rfl, rfl, rfl⟩ := hrel
            have hp := part_small j
            have hq := half_pow j
            obtain ⟨p, hp0⟩ : ∃ p, p = 32768 / 2 ^ j := ⟨_, rfl⟩
            rw [← hp0] at hp hq ⊢
            have HP0 := Lib.hid hp0
            have HQ := Lib.hid hq
            have hpp := Lib.hid (part_pow y hy)
            clear hp0 hq
            by_cases hjy : j < y
            · have hji : (j : Int) < y := by omega
              go_wp2
              go_roundw
              case rel => exact ⟨j + 1, by omega, by go_num, by rw [← HQ.out]; go_num, trivial⟩
              case measure => simp [intOf]; omega
            · obtain rfl : j = y := by omega
              have hji : ¬ (j : Int) < j := by omega
              by_cases h0 : j = 0
              · subst h0
                have HF := Lib.hid (show kraft (natsL (L.take (k + 1))) = K by rw [HYK.out, if_pos rfl]; rfl)
                go_wp2
                go_roundw
                case rel => exact ⟨k + 1, by omega, by go_num, by rw [HF.out], HYV.out, HB.out⟩
                case measure => simp [intOf]; omega
              · have h0i : (0 : Int) < j := by omega
                have HF := Lib.hid (show kraft (natsL (L.take (k + 1))) = K + p by rw [HYK.out, if_neg h0, HP0.out, hpp.out])
                have hKS := HKS.out
                go_wp2
                go_roundw
                case rel => exact ⟨k + 1, by omega, by go_num, by rw [HF.out]; go_num, HYV.out, HB.out⟩
                case measure => simp [intOf]; omega
    · obtain rfl : k = n := by omega
      have HT := Lib.hid (show L.take k = L from List.take_of_length_le (by have := H1.out; omega))
      have hv2 := HV.out
      rw [HT.out] at hv2 ⊢
      have HC := Lib.hid (HCH.out hv2)
      have HKS := Lib.hid (show kraft (natsL L) ≤ 5242880 by
            have h1 := HSM.out k
            rw [HT.out] at h1
            have h2 : (natsL L).length ≤ 320 := by unfold natsL; rw [List.length_map, H1.out]; omega
            omega)
      clear HCH HSM HV hv2 HNV HAL HNT
      generalize kraft (natsL L) = K at *
      have hKS := HKS.out
      by_cases c1 : 32768 < K
      · have c1i : (32768 : Int) < K := by omega
        have HD := Lib.hid (show checkE L = 8 by rw [HC.out, if_pos c1])
        go_wp2
        go_ret
        exact ⟨by rw [HD.out]; rfl, HB.out⟩
      · have c1i : ¬ (32768 : Int) < K := by omega
        by_cases c2 : K < 32768
        · have c2i : (K : Int) < 32768 := by omega
          have HD := Lib.hid (show checkE L = 2 by rw [HC.out, if_neg c1, if_pos c2])
          go_wp2
          go_ret
          exact ⟨by rw [HD.out]; rfl, HB.out⟩
        · have c2i : ¬ (K : Int) < 32768 := by omega
          have HD := Lib.hid (show checkE L = 0 by rw [HC.out, if_neg c1, if_neg c2])
          go_wp2
          go_ret
          exact ⟨by rw [HD.out]; rfl, HB.out⟩

/-! ### the order of the symbols -/
def numI (p : Nat) : List Value := [.int .i64 (p : Int)]
theorem numI_one (p : Nat) : ∀ u ∈ numI p, u.oneCell' = true := by
  intro u hu; simp only [numI, List.mem_singleton] at hu; subst hu; rfl
abbrev NatI := OwnI numI 3 1
abbrev FreshN := FreshI8 numI 3 1
theorem came_ints {wr : World} {a : Option Addr} {n cap : Nat} {P : List Nat} (h : CameAt numI 1 wr a n cap P) : IntsAt wr a n cap (P.map Int.ofNat) := by
  obtain ⟨h1, h2, h3, h4, h5⟩ := h
  refine ⟨by rw [List.length_map]; exact h1, h2, h3, fun x _ => rfl, ?_⟩
  rcases h5 with h5 | ⟨ad, h5, hc⟩
  · exact .inl h5
  · refine .inr ⟨ad, h5, fun i j x hi hj => ?_⟩
    rw [List.getElem?_map] at hi
    cases hp : P[i]? with
    | none => rw [hp] at hi; cases hi
    | some p => rw [hp] at hi; injection hi with hi; subst hi; exact hc i j p hp hj
theorem NatI.ints {w wr : World} {a : Option Addr} {n cap : Nat} {P : List Nat} (h : NatI w wr a n cap P) : IntsAt wr a n cap (P.map Int.ofNat) := came_ints (h.came fun _ => rfl)
theorem one_nat (w : World) (p : Nat) : ∀ j u, ([p].flatMap numI)[j]? = some u → (w.alloc (.cells #[.int .i64 (p : Int)] 3)).cell? ((⟨w.heap.size, 0, none⟩ : Addr).add j) = some u :=
  one_rec (f := numI) (x := p) (w := w.alloc (.cells #[.int .i64 (p : Int)] 3)) (B := w.heap.size) (t := 3) (fr := (0, 0)) (heap_alloc_new w _)
theorem orderTo_le (ls : List Nat) (n : Nat) : (orderTo ls n).length ≤ ls.length := by
  rw [orderTo_sum]
  induction ls with
  | nil => simp
  | cons x l ih =>
    rw [List.map_cons, List.sum_cons, List.length_cons]
    split <;> omega
/-- the symbols of n bits among the first i -/
def symsTo (ls : List Nat) (n i : Nat) : List Nat := (List.range i).filter fun j => ls.getD j 0 == n
theorem symsTo_succ (ls : List Nat) (n i : Nat) : symsTo ls n (i + 1) = symsTo ls n i ++ if ls.getD i 0 = n then [i] else [] := by
  unfold symsTo
  rw [List.range_succ, List.filter_append]
  congr 1
  by_cases h : ls.getD i 0 = n
  · rw [if_pos h, List.filter_cons_of_pos (by simpa using h)]; rfl
  · rw [if_neg h, List.filter_cons_of_neg (by simpa using h)]; rfl
theorem symsTo_le (ls : List Nat) (n i : Nat) : (symsTo ls n i).length ≤ i := by
  unfold symsTo
  have := List.length_filter_le (fun j => ls.getD j 0 == n) (List.range i)
  rwa [List.length_range] at this
theorem natsL_at (L : List Int) (i : Nat) : (natsL L).getD i 0 = (L.getD i 0).toNat := by
  unfold natsL
  simp only [List.getD, List.getElem?_map]
  cases L[i]? <;> rfl


theorem orderN_in (ls : List Nat) (i : Nat) (h : i ∈ orderN ls) : i < ls.length := by
  unfold orderN orderTo at h
  simp only [List.mem_flatMap, List.mem_range, symsN, List.mem_filter] at h
  obtain ⟨_, _, h2, _⟩ := h
  exact h2
theorem map_at0 (P : List Nat) (i : Nat) : (P.map Int.ofNat).getD i 0 = ((P.getD i 0 : Nat) : Int) := by
  simp only [List.getD, List.getElem?_map]
  cases P[i]? <;> rfl
theorem newE_if (L : List Int) (E : Int) (P : List Nat) (ls : List Nat) (hE : checkE L = E) (hP : orderN (natsL L) = P) (hls : natsL L = ls) :
    newE L = if E = 2 ∧ (P.length = 0 ∨ (P.length = 1 ∧ ls.getD (P.getD 0 0) 0 = 1)) then 0 else E := by unfold newE; rw [hE, hP, hls]


end Go.Proofs.Ytklfoafbgniogaa
