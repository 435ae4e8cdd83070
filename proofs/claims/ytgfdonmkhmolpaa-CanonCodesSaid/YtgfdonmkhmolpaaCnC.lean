/-
  Contracts of package canon: Check, inOrder, Codes.
-/
import Derived.Test.YtgfdonmkhmolpaaCnB
import Derived.Deep.MidRow
import Derived.Deep.DeepCutAuto
import Derived.Deep.CutBlock
namespace Go.Proofs.Ytgfdonmkhmolpaa
open Go.RowKit Go.Deep
set_option linter.unusedVariables false
set_option linter.unusedSimpArgs false
set_option maxRecDepth 100000

theorem valid_nats (L : List Int) (h : validL L = true) : (∀ x ∈ natsL L, x ≤ 15) ∧ (natsL L).length ≤ 320 ∧ ∀ x ∈ L, 0 ≤ x := by
  have h2 : L.length ≤ 320 ∧ L.all okI = true := by rw [validL_eq] at h; simpa using h
  have h3 : ∀ x ∈ L, 0 ≤ x ∧ x ≤ 15 := fun x hx => by have := List.all_eq_true.1 h2.2 x hx; unfold okI at this; simpa using this
  refine ⟨fun x hx => ?_, by unfold natsL; rw [List.length_map]; exact h2.1, fun x hx => (h3 x hx).1⟩
  unfold natsL at hx
  obtain ⟨y, hy, rfl⟩ := List.mem_map.1 hx
  have := h3 y hy
  omega
set_option maxHeartbeats 2000000 in
theorem cnChk_any (a : Option Addr) (n cap : Nat) (L : List Int) (w : World) (h : IntsAt w a n cap L) :
    Calls Try.prog 9 #[.slice a n cap] w fun e w' => e = .returned (.int .i64 (checkE L)) ∧ Below w.heap.size w w' := by
  have C1 := Lib.hid (cnValid_any a n cap L w h)
  cases hv : validL L with
  | false =>
    have HE := Lib.hid (show checkE L = 1 by unfold checkE; rw [if_pos hv])
    rw [hv] at C1
    clear hv h
    go_enter Try.func9, Try.ntmps9
    go_wp2_with fail
    refine C1.out.mono ?_
    rintro e w1 ⟨rfl, rfl⟩
    clear C1
    go_wp2
    go_ret
    exact ⟨by rw [HE.out]; rfl, Below.refl _ _⟩
  | true =>
    obtain ⟨h15, hlen, _⟩ := valid_nats L hv
    have HE := Lib.hid (show checkE L = if 32768 < kraft (natsL L) then 8 else if kraft (natsL L) < 32768 then 2 else 0 by unfold checkE; rw [if_neg (by rw [hv]; simp)])
    have C2 := Lib.hid (cnTally_any a n cap L w h hv)
    have C3 := Lib.hid (fun u => cnRoom_any (natsL L) u h15 hlen)
    have hks : kraft (natsL L) ≤ 5242880 := by have := kraft_small (natsL L); omega
    rw [hv] at C1
    clear hv h h15 hlen
    generalize tallyV (natsL L) = V at *
    generalize kraft (natsL L) = K at *
    obtain ⟨D, hD⟩ : ∃ D : Int, D = 32768 - (K : Int) := ⟨_, rfl⟩
    rw [← hD] at C3
    have HDD := Lib.hid hD
    clear hD
    go_enter Try.func9, Try.ntmps9
    go_wp2_with fail
    refine C1.out.mono ?_
    rintro e w1 ⟨rfl, rfl⟩
    clear C1
    go_wp2_with fail
    refine C2.out.mono ?_
    rintro e w1 ⟨rfl, hb1⟩
    have B1 := Lib.hid hb1
    clear C2 hb1
    go_wp2_with fail
    refine (C3.out _).mono ?_
    rintro e w2 ⟨rfl, hb2⟩
    have B2 := Lib.hid (B1.out.trans (hb2.mono B1.out.size))
    clear C3 hb2 B1
    by_cases c1 : 32768 < K
    · have c1i : D < 0 := by have := HDD.out; omega
      have HD := Lib.hid (show checkE L = 8 by rw [HE.out, if_pos c1])
      go_wp2
      go_ret
      exact ⟨by rw [HD.out]; rfl, B2.out⟩
    · have c1i : ¬ D < 0 := by have := HDD.out; omega
      by_cases c2 : K < 32768
      · have c2i : 0 < D := by have := HDD.out; omega
        have HD := Lib.hid (show checkE L = 2 by rw [HE.out, if_neg c1, if_pos c2])
        go_wp2
        go_ret
        exact ⟨by rw [HD.out]; rfl, B2.out⟩
      · have c2i : ¬ 0 < D := by have := HDD.out; omega
        have HD := Lib.hid (show checkE L = 0 by rw [HE.out, if_neg c1, if_neg c2])
        go_wp2
        go_ret
        exact ⟨by rw [HD.out]; rfl, B2.out⟩

/-! ### inOrder -/
set_option maxHeartbeats 4000000 in
theorem cnIn_any (a : Option Addr) (n cap : Nat) (L : List Int) (w : World) (h : IntsAt w a n cap L) (hn : n ≤ 1000000) :
    Calls Try.prog 34 #[.slice a n cap] w (FreshN (orderN (natsL L)) w) := by
  obtain ⟨i0, hi0, hz0, hz1, hz2⟩ := info_parts infoIntS
  have hl : L.length = n := h.1
  have HL := Lib.hid h
  have HN := Lib.hid (show (natsL L).length = n by unfold natsL; rw [List.length_map, hl])
  have HAT := Lib.hid (natsL_at L)
  obtain ⟨ls, hls⟩ : ∃ ls, ls = natsL L := ⟨_, rfl⟩
  rw [← hls] at HN HAT ⊢
  clear h hl hls
  go_enter Try.func34, Try.ntmps34
  go_wp2
  go_loopw [3, 4] (fun s i wr => ∃ (M m : Nat) (ra : Option Addr) (rn rc : Nat), M = m + 1 ∧ m ≤ 15 ∧ i = .int .i64 (M : Int) ∧ s = .slice ra rn rc ∧ NatI w wr ra rn rc (orderTo ls m)) (fun _ i _ => 16 - (intOf i).toNat)
  case atStart => exact ⟨1, 0, none, 0, 0, rfl, Nat.zero_le _, rfl, rfl, OwnI.nil w⟩
  case round =>
    obtain ⟨M, m, ra, rn, rc, hM, hm, rfl, rfl, hI⟩ := hrel
    have HI := Lib.hid hI
    have HO := Lib.hid (orderTo_le ls m)
    have HS := Lib.hid (orderTo_succ ls m)
    rw [← hM] at HS
    clear hI
    by_cases hlt : m < 15
    · have hmi : (M : Int) ≤ 15 := by omega
      have hM1 : 1 ≤ M := by omega
      have hM2 : M ≤ 15 := by omega
      have HM := Lib.hid hM
      clear hM hm hlt
      generalize hO : orderTo ls m = O at *
      go_wp2
      go_loopw [3, 13] (fun s q wr2 => ∃ (i : Nat) (qa : Option Addr) (qn qc : Nat), i ≤ n ∧ q = .int .i64 i ∧ s = .slice qa qn qc ∧ NatI w wr2 qa qn qc (O ++ symsTo ls M i)) (fun _ q _ => n - (intOf q).toNat)
      case atStart => exact ⟨0, ra, rn, rc, Nat.zero_le _, rfl, rfl, by simpa [symsTo] using HI.out⟩
      case round =>
        obtain ⟨i, qa, qn, qc, hi, rfl, rfl, hJ⟩ := hrel
        have HJ := Lib.hid hJ
        clear hJ
        by_cases hin : i < n
        · have hii : (i : Int) < n := by omega
          obtain ⟨b, off, rfl, _, hc⟩ := IntsAt.cell (CameAt.below HL.out (by omega) HJ.out.2.2.2) (by omega)
          have x1 := hc i hin
          have hat := HAT.out i
          have HX := Lib.hid (symsTo_succ ls M i)
          have HY := Lib.hid (symsTo_le ls M i)
          clear hc
          generalize L.getD i 0 = z at *
          by_cases hz : z = (M : Int)
          · subst hz
            have HZ := Lib.hid (show symsTo ls M (i + 1) = symsTo ls M i ++ [i] by rw [HX.out, if_pos (by rw [hat]; omega)])
            have HW := Lib.hid (one_nat wr i)
            have HL2 := Lib.hid (show (O ++ symsTo ls M i).length ≤ 2000000 by have h1 := HO.out; have h2 := HY.out; have h3 := HN.out; rw [List.length_append]; omega)
            clear hat HX
            generalize hG : O ++ symsTo ls M i = G at *
            have HG := Lib.hid hG
            clear hG
            go_wp2_with (at_builtin; refine wpList_append_recs (f := numI) rfl _ _ 22 rfl 3 i0 (.int .i64 0) 1 8 Try.underlying22 hi0 hz0 hz1 hz2 rfl (by omega) _ G rfl (HJ.out.1.below ((Below.refl _ _).alloc (Nat.le_refl _) _)) ⟨wr.heap.size, 0, none⟩ 1 1 [i] rfl rfl (fun _ _ => rfl) (fun y _ => numI_one y) HW.out (by have := HL2.out; unfold maxLen; omega) (by have := HL2.out; omega) ?_; intro v' w' hr hg hbk; obtain ⟨a', cap', rfl, hI2⟩ := OwnI.more HJ.out hr hg hbk; have HI2 := Lib.hid hI2; clear hr hg hbk hI2)
            go_roundw
            case rel => exact ⟨i + 1, _, _, _, by omega, by go_num, rfl, by rw [HZ.out, ← List.append_assoc, HG.out]; exact HI2.out⟩
            case measure => simp [intOf]; omega
          · have HZ := Lib.hid (show symsTo ls M (i + 1) = symsTo ls M i by rw [HX.out, if_neg (by rw [hat]; omega), List.append_nil])
            have hzb : (z == (M : Int)) = false := by simpa using hz
            clear hat HX hz
            go_wp2
            go_roundw
            case rel => exact ⟨i + 1, _, _, _, by omega, by go_num, rfl, by rw [HZ.out]; exact HJ.out⟩
            case measure => simp [intOf]; omega
        · obtain rfl : i = n := by omega
          have HF := Lib.hid (show O ++ symsTo ls M i = orderTo ls M by rw [HS.out]; unfold symsN symsTo; rw [HN.out])
          go_wp2
          go_roundw
          case rel => exact ⟨M + 1, M, _, _, _, rfl, by omega, by go_num, rfl, by rw [← HF.out]; exact HJ.out⟩
          case measure => simp [intOf]; omega
    · obtain rfl : m = 15 := by omega
      subst hM
      go_wp2
      go_ret
      exact ⟨_, _, _, rfl, HI.out⟩


/-! ### Codes -/
def codesTo (ls : List Nat) (k : Nat) : List (Nat × Nat) := (List.range ls.length).map fun i => if i < k then (codeN ls i, ls.getD i 0) else (0, 0)
theorem codesTo_len (ls : List Nat) (k : Nat) : (codesTo ls k).length = ls.length := by simp [codesTo]
theorem codesTo_zero (ls : List Nat) : codesTo ls 0 = List.replicate ls.length (0, 0) := by
  apply List.ext_getElem (by simp [codesTo])
  intro i h1 h2
  simp [codesTo]
theorem codesTo_all (ls : List Nat) : codesTo ls ls.length = codesN ls := by
  unfold codesTo codesN
  apply List.map_congr_left
  intro i hi
  rw [if_pos (List.mem_range.1 hi)]
theorem codesTo_set (ls : List Nat) (k : Nat) (hk : k < ls.length) : codesTo ls (k + 1) = (codesTo ls k).set k (codeN ls k, ls.getD k 0) := by
  apply List.ext_getElem (by simp [codesTo])
  intro i h1 h2
  rw [List.getElem_set]
  simp only [codesTo, List.getElem_map, List.getElem_range]
  by_cases h : k = i
  · subst h; rw [if_pos rfl, if_pos (by omega)]
  · rw [if_neg h]
    by_cases h3 : i < k
    · rw [if_pos h3, if_pos (by omega)]
    · rw [if_neg h3, if_neg (by omega)]
theorem codesTo_none (ls : List Nat) (k : Nat) (hk : k < ls.length) (h0 : ls.getD k 0 = 0) : codesTo ls (k + 1) = codesTo ls k := by
  apply List.ext_getElem (by simp [codesTo])
  intro i h1 h2
  simp only [codesTo, List.getElem_map, List.getElem_range]
  by_cases h3 : i < k
  · rw [if_pos h3, if_pos (by omega)]
  · rw [if_neg h3]
    by_cases h : i = k
    · subst h; rw [if_pos (by omega), h0]; unfold codeN; rw [if_pos h0]
    · rw [if_neg (by omega)]
/-- the next code of each length, behind k symbols -/
def nextTo (ls : List Nat) (k n : Nat) : Nat := if n = 0 then 0 else firstN ls n + ((List.range k).filter fun j => ls.getD j 0 == n).length
theorem nextTo_zero (ls : List Nat) (n : Nat) : nextTo ls 0 n = firstN ls n := by
  unfold nextTo
  split
  · rename_i h; subst h; rfl
  · simp
theorem nextTo_at (ls : List Nat) (k : Nat) (h0 : ls.getD k 0 ≠ 0) : nextTo ls k (ls.getD k 0) = codeN ls k := by unfold nextTo; rw [if_neg h0, codeN_at ls k h0]; rfl
theorem nextTo_succ (ls : List Nat) (k n : Nat) : nextTo ls (k + 1) n = if n = ls.getD k 0 ∧ n ≠ 0 then nextTo ls k n + 1 else nextTo ls k n := by
  unfold nextTo
  by_cases h0 : n = 0
  · rw [if_pos h0, if_pos h0, if_neg (fun h => h.2 h0)]
  · rw [if_neg h0, if_neg h0, List.range_succ, List.filter_append, List.length_append]
    by_cases h : n = ls.getD k 0
    · rw [if_pos ⟨h, h0⟩, List.filter_cons_of_pos (by simpa using h.symm)]; simp; omega
    · rw [if_neg (fun hh => h hh.1), List.filter_cons_of_neg (by simpa using fun hh => h hh.symm)]; simp
theorem codeN_small (ls : List Nat) (hk : kraft ls ≤ 32768) (i : Nat) (hi : i < ls.length) (h15 : ls.getD i 0 ≤ 15) (h0 : ls.getD i 0 ≠ 0) : codeN ls i < 32768 :=
  Nat.lt_of_lt_of_le (codeN_lt ls hk i hi h15 h0) (pow15 _ h15)

def codesE (L : List Int) : Int := if checkE L = 2 then 0 else checkE L
def codesL (L : List Int) : List (Nat × Nat) := if checkE L = 1 ∨ checkE L = 8 then [] else codesN (natsL L)
/-- codes that are handed out, with an error -/
def CodesTo (L : List Int) (w : World) (e : Ending) (w' : World) : Prop :=
  ∃ a m cap, e = .returned (.tuple #[.slice a m cap, .int .i64 (codesE L)]) ∧ OwnI codeC 34 2 w w' a m cap (codesL L)
theorem checkE_cases (L : List Int) : (checkE L = 1 ∧ validL L = false) ∨ (validL L = true ∧ ((checkE L = 8 ∧ 32768 < kraft (natsL L)) ∨ ((checkE L = 0 ∨ checkE L = 2) ∧ kraft (natsL L) ≤ 32768))) := by
  unfold checkE
  cases hv : validL L with
  | false => exact .inl ⟨by simp, rfl⟩
  | true =>
    refine .inr ⟨rfl, ?_⟩
    by_cases h : 32768 < kraft (natsL L)
    · exact .inl ⟨by simp [h], h⟩
    · refine .inr ⟨?_, by omega⟩
      by_cases h2 : kraft (natsL L) < 32768
      · exact .inr (by simp [h, h2])
      · exact .inl (by simp [h, h2])

set_option maxHeartbeats 8000000 in
theorem cnCodesP_any (a : Option Addr) (n cap : Nat) (L : List Int) (w : World) (h : IntsAt w a n cap L) :
    Calls Try.prog 8 #[.slice a n cap] w (CodesTo L w) := by
  have C1 := Lib.hid (cnChk_any a n cap L w h)
  have HCS := Lib.hid (checkE_cases L)
  obtain ⟨E, hE⟩ : ∃ E, E = checkE L := ⟨_, rfl⟩
  rw [← hE] at C1 HCS
  have HE := Lib.hid hE
  clear hE
  by_cases hbad : E = 1 ∨ E = 8
  · have HL := Lib.hid (show codesL L = [] by unfold codesL; rw [← HE.out, if_pos hbad])
    have HR := Lib.hid (show codesE L = E by unfold codesE; rw [← HE.out, if_neg (by omega)])
    have e0 : (E != 0) = true := by rw [bne_iff_ne]; omega
    have e2 : (E != 2) = true := by rw [bne_iff_ne]; omega
    clear hbad h
    go_enter Try.func8, Try.ntmps8
    go_wp2_with fail
    refine C1.out.mono ?_
    rintro e w1 ⟨rfl, hb1⟩
    have B1 := Lib.hid hb1
    clear C1 hb1
    go_wp2
    go_ret2
    exact ⟨_, _, _, by rw [HR.out]; rfl, by rw [HL.out]; exact (OwnI.nil w).below B1.out⟩
  obtain ⟨hv, hEE, hkr⟩ : validL L = true ∧ (E = 0 ∨ E = 2) ∧ kraft (natsL L) ≤ 32768 := by
    rcases HCS.out with ⟨h1, _⟩ | ⟨h1, ⟨h2, _⟩ | ⟨h2, h3⟩⟩
    · exact absurd (.inl h1) hbad
    · exact absurd (.inr h2) hbad
    · exact ⟨h1, h2, h3⟩
  have hl : L.length = n := h.1
  have HLL := Lib.hid (show codesL L = codesN (natsL L) by unfold codesL; rw [← HE.out, if_neg hbad])
  have HR := Lib.hid (show codesE L = 0 by unfold codesE; rw [← HE.out]; rcases hEE with h | h <;> subst h <;> rfl)
  obtain ⟨h15, hlen, hneg⟩ := valid_nats L hv
  have HL := Lib.hid h
  have hn3 : n ≤ 320 := by unfold natsL at hlen; rw [List.length_map, hl] at hlen; exact hlen
  have HNL := Lib.hid (show (natsL L).length = n by unfold natsL; rw [List.length_map, hl])
  have C2 := Lib.hid (fun u (hb : Below w.heap.size w u) => cnTally_any a n cap L u (CameAt.below h (Nat.le_refl _) hb) hv)
  have C3 := Lib.hid (fun u => cnFirsts_any (natsL L) u hkr)
  have HAT := Lib.hid (fun i (hi : i < n) => show L.getD i 0 = (((natsL L).getD i 0 : Nat) : Int) by
    rw [natsL_at]
    have := hneg (L.getD i 0) (by rw [List.getD, List.getElem?_eq_getElem (by omega)]; exact List.getElem_mem _)
    omega)
  have H15 := Lib.hid (fun i (hi : i < n) => show (natsL L).getD i 0 ≤ 15 by
    rw [List.getD, List.getElem?_eq_getElem (by unfold natsL; rw [List.length_map]; omega)]; exact h15 _ (List.getElem_mem _))
  obtain ⟨ls, hls⟩ : ∃ ls, ls = natsL L := ⟨_, rfl⟩
  rw [← hls] at HNL C2 C3 HAT H15 hkr HLL
  have HSML := Lib.hid (codeN_small ls hkr)
  have HMK := Lib.hid (codes_mk n (by omega))
  have HMD := Lib.hid (fun u => codes_made u n (by omega))
  have HZ := Lib.hid (show List.replicate n (0, 0) = codesTo ls 0 by rw [codesTo_zero, HNL.out])
  have hz := (zero_of_info infoFirst).1
  clear h hl hv hkr h15 hlen hneg hls HCS hbad
  go_enter Try.func8, Try.ntmps8
  go_wp2_with fail
  refine C1.out.mono ?_
  rintro e w1 ⟨rfl, hb1⟩
  have B1 := Lib.hid hb1
  clear C1 hb1
  go_upto_region 2 with (fail)
  go_cut [16] (fun s16 wx => wx = w1 ∧ s16 = .bool false)
  case first =>
    rcases hEE with hE | hE
    · subst hE
      go_wp2
      go_meet
      exact ⟨rfl, rfl⟩
    · subst hE
      go_wp2
      go_meet
      exact ⟨rfl, rfl⟩
  case rest =>
  obtain ⟨hwc, rfl⟩ := hcut
  subst hwc
  clear hEE
  have C2' := Lib.hid (C2.out _ B1.out)
  go_wp2_with fail
  refine C2'.out.mono ?_
  rintro e w2 ⟨rfl, hb2⟩
  have B2 := Lib.hid (B1.out.trans (hb2.mono B1.out.size))
  clear C2 C2' hb2 B1
  generalize tallyV ls = TV at *
  go_wp2_with fail
  refine (C3.out _).mono ?_
  rintro e w3 ⟨rfl, hb3⟩
  have B3 := Lib.hid (B2.out.trans (hb3.mono B2.out.size))
  clear C3 hb3 B2
  have HW4 := Lib.hid (show (w3.alloc (.cells (Array.replicate 16 (.int .u64 0)) 61)).heap[w3.heap.size]? = some (.cells (Array.replicate 16 (.int .u64 0)) 61 (0, 0)) from heap_alloc_new w3 _)
  have B4 := Lib.hid (B3.out.alloc B3.out.size (.cells (Array.replicate 16 (.int .u64 0)) 61))
  have HS4 := Lib.hid (show (w3.alloc (.cells (Array.replicate 16 (.int .u64 0)) 61)).heap.size = w3.heap.size + 1 by simp)
  have HG1 := Lib.hid B3.out.size
  have hfs : firstsV ls = row16 .u64 (nextTo ls 0) := row16_congr _ _ _ fun i _ => (nextTo_zero ls i).symm
  rw [hfs]
  clear hfs
  go_upto_region 5 with (refine wpList_store_row rfl _ _ _ rfl w3.heap.size (row16 .u64 (nextTo ls 0)) rfl rfl 61 (Array.replicate 16 (.int .u64 0)) HW4.out (by rw [row16_size]; exact sizeFirst) (by simp only [row16_size]; rfl) (row16_one _ _) ?_)
  generalize w3.alloc (.cells (Array.replicate 16 (.int .u64 0)) 61) = w4 at *
  have HW5 := Lib.hid (heap_setRow_same w4 w3.heap.size (row16 .u64 (nextTo ls 0)) _ _ HW4.out)
  have B5 := Lib.hid (below_setRow B4.out HG1.out (row16 .u64 (nextTo ls 0)))
  have HS5 := Lib.hid (show (w4.setRow w3.heap.size (row16 .u64 (nextTo ls 0))).heap.size = w3.heap.size + 1 by rw [← HS4.out]; simp)
  obtain ⟨g1, hg1⟩ : ∃ g1, g1 = w3.heap.size := ⟨_, rfl⟩
  rw [← hg1] at HW5 B5 HS5 HG1 ⊢
  generalize w4.setRow g1 (row16 .u64 (nextTo ls 0)) = w5 at *
  clear HW4 B4 HS4 hg1 B3
  have hmk := HMK.out w5
  have HMD5 := Lib.hid (HMD.out w5)
  have HB5 := Lib.hid (B5.out.alloc B5.out.size (.cells (madeCells #[.int .u64 0, .int .i64 0] (n * 2)) 34))
  have HN6 := Lib.hid (show (w5.alloc (.cells (madeCells #[.int .u64 0, .int .i64 0] (n * 2)) 34)).heap[g1]? = some (.cells (row16 .u64 (nextTo ls 0)) 61 (0, 0)) by
    exact (((Below.refl w5.heap.size w5).alloc (Nat.le_refl _) _).block g1 (by rw [HS5.out]; omega)).trans HW5.out)
  have HS6 := Lib.hid (show (w5.alloc (.cells (madeCells #[.int .u64 0, .int .i64 0] (n * 2)) 34)).heap.size = g1 + 2 by have := HS5.out; simp; omega)
  rw [HS5.out] at hmk HMD5
  go_upto_region 6 with (fail)
  clear hmk HMK HMD
  generalize w5.alloc (.cells (madeCells #[.int .u64 0, .int .i64 0] (n * 2)) 34) = w6 at *
  rw [HZ.out] at HMD5
  go_wp2
  go_loopw [26] (fun i wr => ∃ k : Nat, k ≤ n ∧ i = .int .i64 k ∧ wr.heap[g1]? = some (.cells (row16 .u64 (nextTo ls k)) 61 (0, 0)) ∧ Recs codeC wr 34 2 (.slice (some ⟨g1 + 1, 0, none⟩) n n) (codesTo ls k) ∧ Only (fun q => q = g1 ∨ q = g1 + 1) w6 wr) (fun i _ => n - (intOf i).toNat)
  case atStart => exact ⟨0, Nat.zero_le _, rfl, HN6.out, HMD5.out, Only.refl _ _⟩
  case round =>
    obtain ⟨k, hk, rfl, hnx, hr, ho⟩ := hrel
    have HNX := Lib.hid hnx
    have HRR := Lib.hid hr
    have HO := Lib.hid ho
    have HBR := Lib.hid (HB5.out.trans (ho.below (B := w.heap.size) (by have := HG1.out; have := HS6.out; omega) (fun i hi he => by have := HG1.out; omega)))
    clear hnx hr ho
    by_cases hlt : k < n
    · obtain ⟨b, off, rfl, _, hc⟩ := IntsAt.cell (CameAt.below HL.out (by omega) HBR.out) (by omega)
      have x1 := hc k hlt
      rw [HAT.out k hlt] at x1
      have hki : (k : Int) < n := by omega
      have hN := H15.out k hlt
      have HNS := Lib.hid (nextTo_succ ls k)
      have hkl : k < ls.length := by rw [HNL.out]; exact hlt
      clear hc
      by_cases h0 : ls.getD k 0 = 0
      · have HCN := Lib.hid (codesTo_none ls k hkl h0)
        have HNE := Lib.hid (row16_congr .u64 (nextTo ls (k + 1)) (nextTo ls k) fun i _ => by rw [HNS.out, if_neg (by omega)])
        rw [h0] at x1
        clear hkl hN h0
        go_wp2
        go_roundw
        case rel => exact ⟨k + 1, by omega, by go_num, by rw [HNE.out]; exact HNX.out, by rw [HCN.out]; exact HRR.out, HO.out⟩
        case measure => simp [intOf]; omega
      · have HNA := Lib.hid (nextTo_at ls k h0)
        have hsm := HSML.out k hkl hN h0
        have HCSET := Lib.hid (codesTo_set ls k hkl)
        have hthere := HRR.out.there k (by rw [codesTo_len]; exact hkl)
        have hput := HRR.out.put k (by rw [codesTo_len]; exact hkl) (codeN ls k, ls.getD k 0) rfl (codeC_one _)
        rw [← HCSET.out] at hput
        have HTH := Lib.hid hthere
        have HPUT := Lib.hid hput
        have HC1 := Lib.hid (cell_of_row wr g1 (ls.getD k 0) _ _ _ HNX.out)
        rw [row16_at _ _ _ (by omega), HNA.out] at HC1
        generalize ls.getD k 0 = N at *
        generalize codeN ls k = V at *
        have hNi : (0 : Int) < N := by omega
        have c1 := HC1.out
        clear hthere hput hkl
        go_upto_region 11 with (refine wpList_store_mid rfl 34 _ _ rfl (g1 + 1) (k * 2) #[.int .u64 (V : Int), .int .i64 (N : Int)] rfl rfl (by simpa using HTH.out) sizeCode (by simp [Value.oneCell']) ?_)
        have hput := HPUT.out
        simp only [codeC] at hput
        obtain ⟨hrec, hgr⟩ := hput
        clear HPUT c1 HC1
        have honly := Only.of_grown (S := fun q => q = g1 + 1) hgr fun q e => by injection e with e; exact e.symm
        have HN8 := Lib.hid ((honly.block g1 (Array.getElem?_eq_some_iff.1 HNX.out).1 (by omega)).trans HNX.out)
        have HO8 := Lib.hid (HO.out.trans honly fun i hi e => .inr e)
        have HR8 := Lib.hid hrec
        generalize wr.setCells (g1 + 1) (k * 2) [Value.int .u64 (V : Int), Value.int .i64 (N : Int)] = w8 at *
        have c1 := cell_of_row w8 g1 N _ _ _ HN8.out
        rw [row16_at _ _ _ (by omega), HNA.out] at c1
        have f1 := frozen_of_row w8 g1 N _ _ HN8.out
        have HFIN := Lib.hid (show (w8.setCell ⟨g1, N, none⟩ (.int .u64 ((V : Int) + 1))).heap[g1]? = some (.cells (row16 .u64 (nextTo ls (k + 1))) 61 (0, 0)) by
          rw [heap_setCell_same _ _ _ _ _ _ HN8.out, show ((V : Int) + 1) = ((V + 1 : Nat) : Int) by omega, row16_set]
          rw [row16_congr .u64 _ (nextTo ls (k + 1)) fun i _ => ?_]
          rw [HNS.out]
          by_cases hi : i = N
          · subst hi; rw [if_pos rfl, if_pos ⟨rfl, h0⟩, HNA.out]
          · rw [if_neg hi, if_neg (fun h => hi h.1)])
        have HRF := Lib.hid (hrec.only (S := fun q => q = g1) (Only.setCell w8 ⟨g1, N, none⟩ (.int .u64 ((V : Int) + 1)) rfl) fun q hq e => by
          have hq2 : q = g1 + 1 := by simpa [Value.ownBlock] using hq.symm
          omega)
        have HOF := Lib.hid (HO8.out.trans (Only.setCell (S := fun q => q = g1) w8 ⟨g1, N, none⟩ (.int .u64 ((V : Int) + 1)) rfl) fun i hi e => .inl e)
        clear hrec hgr honly HTH HNA HCSET x1
        go_wp2
        go_roundw
        case rel => exact ⟨k + 1, by omega, by go_num, HFIN.out, HRF.out, HOF.out⟩
        case measure => simp [intOf]; omega
    · obtain rfl : k = n := by omega
      have hki : ¬ (k : Int) < k := by omega
      go_wp2
      go_ret2
      refine ⟨_, _, _, by rw [HR.out]; rfl, ?_, ?_, fun q hq => ?_, HBR.out⟩
      · rw [HLL.out, ← codesTo_all, HNL.out]; exact HRR.out
      · rw [HLL.out, ← codesTo_all, codesTo_len, HNL.out]
      · have hq2 : q = g1 + 1 := by simpa [Value.ownBlock] using hq.symm
        have := HG1.out; omega
end Go.Proofs.Ytgfdonmkhmolpaa
