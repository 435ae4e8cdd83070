/-
  The document's own answers for layer 9 (hamperref09): Codes.
-/
import Derived.Test.YtgfdonmkhmolpaaCnR
import Derived.Deep.MidRow
namespace Go.Proofs.Ytgfdonmkhmolpaa
open Go.RowKit
set_option linter.unusedVariables false
set_option linter.unusedSimpArgs false
set_option maxRecDepth 100000

/-! ### the codes so far -/
def outTo (ls : List Nat) (k : Nat) : List (Nat × Nat) := (List.range ls.length).map fun i => if i ∈ (orderN ls).take k then (codeN ls i, ls.getD i 0) else (0, 0)
theorem outTo_len (ls : List Nat) (k : Nat) : (outTo ls k).length = ls.length := by simp [outTo]
theorem outTo_set (ls : List Nat) (k p : Nat) (h : (orderN ls)[k]? = some p) (hp : p < ls.length) : outTo ls (k + 1) = (outTo ls k).set p (codeN ls p, ls.getD p 0) := by
  apply List.ext_getElem (by simp [outTo])
  intro i h1 h2
  have hi : i < ls.length := by rw [outTo_len] at h1; exact h1
  have ht : (orderN ls).take (k + 1) = (orderN ls).take k ++ [p] := by rw [List.take_add_one, h]; rfl
  rw [List.getElem_set]
  simp only [outTo, List.getElem_map, List.getElem_range]
  rw [ht]
  by_cases hip : p = i
  · subst hip; rw [if_pos rfl, if_pos (by simp)]
  · rw [if_neg hip]
    by_cases hm : i ∈ (orderN ls).take k
    · rw [if_pos (List.mem_append_left _ hm), if_pos hm]
    · rw [if_neg hm, if_neg]
      intro hh
      rcases List.mem_append.1 hh with hh | hh
      · exact hm hh
      · simp at hh; exact hip hh.symm
theorem outTo_all (ls : List Nat) (h15 : ∀ x ∈ ls, x ≤ 15) : outTo ls (orderN ls).length = codesN ls := by
  unfold outTo codesN
  rw [List.take_length]
  apply List.map_congr_left
  intro i hi
  have hi := List.mem_range.1 hi
  by_cases hm : i ∈ orderN ls
  · rw [if_pos hm]
  · rw [if_neg hm]
    have h0 : ls.getD i 0 = 0 := by
      rcases Nat.eq_zero_or_pos (ls.getD i 0) with h | h
      · exact h
      · exact absurd ((orderN_mem ls h15 i).2 ⟨hi, by omega⟩) hm
    unfold codeN
    rw [if_pos h0, h0]
theorem outTo_zero (ls : List Nat) : outTo ls 0 = List.replicate ls.length (0, 0) := by
  apply List.ext_getElem (by simp [outTo])
  intro i h1 h2
  simp [outTo]
/-- lengths do not fall -/
theorem foldC_le (ls : List Nat) (k p : Nat) (h : (orderN ls)[k]? = some p) : (foldC ls k).2 ≤ ls.getD p 0 := by
  have key : ∀ n, n ≤ 15 → k < (orderTo ls n).length → ∃ m j, m < n ∧ k = (orderTo ls m).length + j ∧ j < (symsN ls (m + 1)).length := by
    intro n
    induction n with
    | zero => intro _ hk; simp [orderTo] at hk
    | succ n ih =>
      intro hn hk
      by_cases hlt : k < (orderTo ls n).length
      · obtain ⟨m, j, h1, h2, h3⟩ := ih (by omega) hlt
        exact ⟨m, j, by omega, h2, h3⟩
      · rw [orderTo_succ, List.length_append] at hk
        exact ⟨n, k - (orderTo ls n).length, by omega, by omega, by omega⟩
  obtain ⟨m, j, hm, hkj, hj⟩ := key 15 (Nat.le_refl _) (List.getElem?_eq_some_iff.1 h).1
  obtain ⟨h1, h2⟩ := foldC_to ls m (by omega)
  obtain ⟨i', hi1, hi2, hi3, hi4⟩ := symsN_at ls (m + 1) j hj
  have hii : i' = p := by
    have := order_row ls m j (by omega) hj
    rw [← hkj, h, hi1] at this
    exact (Option.some.inj this).symm
  subst hii
  rw [hi3]
  by_cases hj0 : j = 0
  · subst hj0; rw [Nat.add_zero] at hkj; rw [hkj]; omega
  · have := (foldC_row ls m (by omega) _ rfl h1 h2 j (by omega)).1 (by omega)
    rw [hkj, this]; exact Nat.le_refl _
/-- the code behind, in one -/
theorem foldC_step (ls : List Nat) (k p : Nat) (h : (orderN ls)[k]? = some p) : (if k = 0 then 0 else (foldC ls k).1 + 1) * 2 ^ (ls.getD p 0 - (foldC ls k).2) = codeN ls p := by
  have h1 := (foldC_code ls k p h).1
  have h2 : (orderN ls).getD k 0 = p := by rw [List.getD, h]; rfl
  rw [foldC, h2] at h1
  exact (Prod.mk.inj h1).1
theorem foldC_next (ls : List Nat) (k p : Nat) (h : (orderN ls)[k]? = some p) : foldC ls (k + 1) = (codeN ls p, ls.getD p 0) := (foldC_code ls k p h).1

theorem pow15 (N : Nat) (h : N ≤ 15) : 2 ^ N ≤ 32768 := Nat.pow_le_pow_right (n := 2) (by omega) h

/-! ### rows of codes -/
def codeC (c : Nat × Nat) : List Value := [.int .u64 (c.1 : Int), .int .i64 (c.2 : Int)]
theorem codeC_one (c : Nat × Nat) : ∀ u ∈ codeC c, u.oneCell' = true := by
  intro u hu; simp only [codeC, List.mem_cons, List.not_mem_nil, or_false] at hu; rcases hu with rfl | rfl <;> rfl
theorem infoCode : (Try.prog.info? 34).map (fun i => (i.zero, i.size, i.bytes)) = some (some (.agg #[.int .u64 0, .int .i64 0]), 2, 16) := by kernel_rfl
theorem sizeCode : (Try.prog.info? 34).map (·.size) = some 2 := by kernel_rfl
abbrev FreshC := FreshI8 codeC 34 2
theorem recsInts8 {w : World} {a : Option Addr} {n cap : Nat} {P : List Nat} (h : Recs numI w 3 1 (.slice a n cap) P) : IntsAt w a n cap (P.map Int.ofNat) := came_ints (h.came8 fun _ => rfl)
theorem made_codes (n : Nat) : (madeCells #[.int .u64 0, .int .i64 0] (n * 2)).toList = (List.replicate n ((0 : Nat), (0 : Nat))).flatMap codeC := by
  apply List.ext_getElem?
  intro j
  have hl : ∀ x ∈ List.replicate n ((0 : Nat), (0 : Nat)), (codeC x).length = 2 := fun _ _ => rfl
  by_cases hj : j < n * 2
  · obtain ⟨q, r, hq, hr, rfl⟩ : ∃ q r, q < n ∧ r < 2 ∧ j = q * 2 + r := ⟨j / 2, j % 2, by omega, by omega, by omega⟩
    rw [flatMap_at (size := 2) _ hl q r (0, 0) (by rw [List.getElem?_replicate, if_pos hq]) hr]
    have hm : (q * 2 + r) % 2 = r := by omega
    simp only [madeCells]
    rcases (show r = 0 ∨ r = 1 by omega) with rfl | rfl
    · simp [codeC, hj, hm]
      exact ⟨q * 2, by rw [List.getElem?_range (by omega)], by rw [show q * 2 % 2 = 0 by omega]; rfl⟩
    · simp [codeC, hj, hm]
  · rw [List.getElem?_eq_none (by simp [size_madeCells]; omega), List.getElem?_eq_none (by rw [flatMap_len _ hl]; simp; omega)]
theorem codes_mk (n : Nat) (hn : n ≤ 100000) (u : World) : (Instr.makeSlice 25 (.int .i64 n) (.int .i64 n)).run Try.prog u = .ok (.slice (some ⟨u.heap.size, 0, none⟩) n n) (u.alloc (.cells (madeCells #[.int .u64 0, .int .i64 0] (n * 2)) 34)) := by
  obtain ⟨i0, hi, hz0, hz1, hz2⟩ := info_parts infoCode
  have := run_make u 25 34 i0 _ Try.underlying25 hi hz0 .i64 .i64 (n : Int) (n : Int) (by omega) (by omega) (by rw [hz2]; omega) (by omega)
  rw [hz1] at this
  simpa [Value.cells] using this
theorem codes_made (w : World) (n : Nat) (hn : n ≤ 100000) : Recs codeC (w.alloc (.cells (madeCells #[.int .u64 0, .int .i64 0] (n * 2)) 34)) 34 2 (.slice (some ⟨w.heap.size, 0, none⟩) n n) (List.replicate n (0, 0)) := by
  have hs := size_madeCells #[.int .u64 0, .int .i64 0] (n * 2)
  have hm := made_codes n
  refine ⟨fun _ _ => rfl, fun x _ => codeC_one x, ?_, .inr ⟨w.heap.size, n, _, ?_, Nat.zero_le _, heap_alloc_new w _, ?_, ?_, hs, ?_⟩⟩
  · rw [← hm]; simp [hs]
  · simp
  · simp
  · unfold maxLen; omega
  · rw [← hm, List.take_of_length_le]; simp [hs]

set_option maxHeartbeats 4000000 in
theorem cnCodes_any (a : Option Addr) (n cap : Nat) (L : List Int) (w : World) (h : IntsAt w a n cap L) (hn : n ≤ 100000) (hv : ∀ x ∈ natsL L, x ≤ 15) (hneg : ∀ x ∈ L, 0 ≤ x) (hk : kraft (natsL L) ≤ 32768) :
    Calls Try.prog 11 #[.slice a n cap] w (FreshC (codesN (natsL L)) w) := by
  have hl : L.length = n := h.1
  have HN := Lib.hid (show (natsL L).length = n by unfold natsL; rw [List.length_map, hl])
  have HL := Lib.hid h
  have HAT := Lib.hid (fun i (hi : i < n) => show L.getD i 0 = (((natsL L).getD i 0 : Nat) : Int) by
    rw [natsL_at]
    have := hneg (L.getD i 0) (by rw [List.getD, List.getElem?_eq_getElem (by omega)]; exact List.getElem_mem _)
    omega)
  have C2 := Lib.hid (fun u (hb : Below w.heap.size w u) => cnOrder_any a n cap L u (CameAt.below h (Nat.le_refl _) hb) (by omega))
  obtain ⟨ls, hls⟩ : ∃ ls, ls = natsL L := ⟨_, rfl⟩
  rw [← hls] at HN HAT C2 hv hk ⊢
  have HALL := Lib.hid (outTo_all ls hv)
  have HZ := Lib.hid (show List.replicate n (0, 0) = outTo ls 0 by rw [outTo_zero, HN.out])
  have HPC := Lib.hid (fun k p (hh : (orderN ls)[k]? = some p) => And.intro (foldC_code ls k p hh) (And.intro (foldC_le ls k p hh) (And.intro (foldC_step ls k p hh) (codeN_lt ls hk p (foldC_code ls k p hh).2.1 (foldC_code ls k p hh).2.2.2 (by have := (foldC_code ls k p hh).2.2.1; omega)))))
  have HST := Lib.hid (fun k p (hh : (orderN ls)[k]? = some p) => outTo_set ls k p hh (foldC_code ls k p hh).2.1)
  have HOL := Lib.hid (fun k => (outTo_len ls k).trans HN.out)
  have HMK := Lib.hid (codes_mk n hn)
  have HMD := Lib.hid (codes_made w n hn)
  generalize hP : orderN ls = P at *
  clear h hl hls hv hk hneg
  go_enter Try.func11, Try.ntmps11
  have hmk := HMK.out w
  have HM := Lib.hid HMD.out
  generalize madeCells #[.int .u64 0, .int .i64 0] (n * 2) = C at *
  have HB0 := Lib.hid ((Below.refl w.heap.size w).alloc (Nat.le_refl _) (.cells C 34))
  go_wp2_with fail
  refine (C2.out _ HB0.out).mono ?_
  rintro e w2 ⟨ra, rn, rc, rfl, hI⟩
  have HI := Lib.hid hI
  have HRN := Lib.hid hI.2.1
  have HB2 := Lib.hid (HB0.out.trans (hI.2.2.2.mono (by simp)))
  have HGI := Lib.hid (fun k (hk : (Value.slice ra rn rc).ownBlock = some k) => show ¬ k = w.heap.size by have := hI.2.2.1 k hk; simp at this; omega)
  have HG2 := Lib.hid (show w.heap.size < w2.heap.size by have := hI.2.2.2.size; simp at this; omega)
  have hr0 := HM.out.below hI.2.2.2
  rw [HZ.out] at hr0
  have HR0 := Lib.hid hr0
  clear hI hr0 C2 HMK HMD hmk HM HZ
  have hrnb : rn ≤ 100000 := by rw [← HRN.out, ← hP]; have := orderN_len ls; rw [HN.out] at this; omega
  obtain ⟨g, hg⟩ : ∃ g, g = w.heap.size := ⟨_, rfl⟩
  rw [← hg] at HGI HG2 HR0 ⊢
  have HG := Lib.hid hg
  clear hg
  go_wp2
  go_loopw [5, 6, 7, 8] (fun c t i m wr => ∃ k : Nat, k ≤ rn ∧ i = .int .i64 k ∧ c = .int .u64 ((foldC ls k).1 : Nat) ∧ t = .int .i64 ((foldC ls k).2 : Nat) ∧ Recs codeC wr 34 2 (.slice (some ⟨g, 0, none⟩) n n) (outTo ls k) ∧ Only (fun q => q = g) w2 wr) (fun _ _ i _ _ => rn - (intOf i).toNat)
  case atStart => exact ⟨0, Nat.zero_le _, rfl, rfl, rfl, HR0.out, Only.refl _ _⟩
  case round =>
    obtain ⟨k, hk, rfl, rfl, rfl, hr, ho⟩ := hrel
    have HR := Lib.hid hr
    have HO := Lib.hid ho
    have HBR := Lib.hid (HB2.out.trans (ho.below (B := w.heap.size) (by rw [← HG.out]; exact Nat.le_of_lt HG2.out) (fun i hi he => by have := HG.out; omega)))
    clear hr ho HR0
    by_cases hlt : k < rn
    · have hkp : P[k]? = some (P.getD k 0) := by rw [List.getD, List.getElem?_eq_getElem (by rw [HRN.out]; exact hlt)]; rfl
      obtain ⟨⟨hf1, hf2, hf3, hf4⟩, hle, hstep, hV⟩ := HPC.out k _ hkp
      have hset := HST.out k _ hkp
      have hat := HAT.out (P.getD k 0) (by rw [← HN.out]; exact hf2)
      rw [HN.out] at hf2
      have hrec := HI.out.1.only HO.out HGI.out
      obtain ⟨b, off, rfl, _, hc⟩ := IntsAt.cell (recsInts8 hrec) (by omega)
      have x1 := hc k hlt
      rw [map_at0] at x1
      obtain ⟨b2, off2, rfl, _, hc2⟩ := IntsAt.cell (CameAt.below HL.out (by omega) HBR.out) (by omega)
      have x2 := hc2 _ hf2
      rw [hat] at x2
      have hthere := HR.out.there (P.getD k 0) (by rw [HOL.out]; exact hf2)
      have hput := HR.out.put (P.getD k 0) (by rw [HOL.out]; exact hf2) (codeN ls (P.getD k 0), ls.getD (P.getD k 0) 0) rfl (codeC_one _)
      rw [← hset] at hput
      have hput2 := And.intro hput.1 (HO.out.trans (Only.of_grown hput.2 fun q e => by injection e with e; exact e.symm) fun _ _ e => e)
      clear hc hc2 hat hset hput hrec hkp HST HPC
      generalize P.getD k 0 = p at *
      generalize ls.getD p 0 = N at *
      have hV2 : codeN ls p < 32768 := Nat.lt_of_lt_of_le hV (pow15 N hf4)
      generalize codeN ls p = V at *
      clear hV
      have HFN := Lib.hid hf1
      have HPUT := Lib.hid hput2
      have HTH := Lib.hid hthere
      clear hf1 hput2 hthere
      obtain ⟨c, hcc⟩ : ∃ c, c = (foldC ls k).1 := ⟨_, rfl⟩
      obtain ⟨t, htt⟩ : ∃ t, t = (foldC ls k).2 := ⟨_, rfl⟩
      rw [← htt] at hle
      rw [← hcc, ← htt] at hstep ⊢
      by_cases hk0 : k = 0
      · subst hk0
        rw [Nat.add_zero] at x1
        have hc0 : c = 0 := by rw [hcc]; rfl
        rw [if_pos rfl, ← hc0] at hstep
        have HSTEP := Lib.hid hstep
        have HBD := Lib.hid (show ∀ j, j ≤ N - t → c * 2 ^ j ≤ V from fun j hj => by
          rw [← hstep]; exact Nat.mul_le_mul_left _ (Nat.pow_le_pow_right (by omega) hj))
        have hc1 := HBD.out 0 (Nat.zero_le _)
        rw [Nat.pow_zero, Nat.mul_one] at hc1
        clear hstep hcc htt hc0
        go_wp2
        go_loopw [5, 6] (fun cc tt wr2 => ∃ j q tj : Nat, j ≤ N - t ∧ tj = t + j ∧ tt = .int .i64 tj ∧ cc = .int .u64 q ∧ q = c * 2 ^ j ∧ wr2 = wr) (fun _ tt _ => N - (intOf tt).toNat)
        case atStart => exact ⟨0, c, t, Nat.zero_le _, rfl, rfl, rfl, by simp, rfl⟩
        case round =>
          obtain ⟨j, q, tj, hj, htj, rfl, rfl, hq, rfl⟩ := hrel
          have hqV := HBD.out j hj
          rw [← hq] at hqV
          by_cases hjn : tj < N
          · have hq2 := HBD.out (j + 1) (by omega)
            have HQ := Lib.hid (show q * 2 = c * 2 ^ (j + 1) by rw [hq, Nat.pow_succ, Nat.mul_assoc])
            rw [← HQ.out] at hq2
            have hji : (tj : Int) < N := by omega
            have HTJ := Lib.hid htj
            clear hq
            go_wp2
            go_roundw
            case rel => exact ⟨j + 1, q * 2, tj + 1, by have := HTJ.out; omega, by have := HTJ.out; omega, by go_num, by go_num, HQ.out, trivial⟩
            case measure => simp [intOf]; omega
          · obtain rfl : tj = N := by omega
            have hjN : j = tj - t := by omega
            have hqv : q = V := by rw [hq, hjN]; exact HSTEP.out
            subst hqv
            have hji : ¬ (tj : Int) < tj := by omega
            clear hq htj hj
            go_wp2_with (refine wpList_store_mid rfl 34 _ _ rfl g (p * 2) #[.int .u64 (q : Int), .int .i64 (tj : Int)] rfl rfl (by simpa using HTH.out) sizeCode (by simp [Value.oneCell']) ?_)
            go_roundw
            case rel => exact ⟨0 + 1, by omega, by go_num, by rw [HFN.out], by rw [HFN.out], HPUT.out.1, HPUT.out.2⟩
            case measure => simp [intOf]; omega
      · have hk0i : (0 : Int) < k := by omega
        rw [if_neg hk0] at hstep
        have HSTEP := Lib.hid hstep
        have HBD := Lib.hid (show ∀ j, j ≤ N - t → (c + 1) * 2 ^ j ≤ V from fun j hj => by
          rw [← hstep]; exact Nat.mul_le_mul_left _ (Nat.pow_le_pow_right (by omega) hj))
        have hc1 := HBD.out 0 (Nat.zero_le _)
        rw [Nat.pow_zero, Nat.mul_one] at hc1
        clear hstep hcc htt
        go_wp2
        go_loopw [5, 6] (fun cc tt wr2 => ∃ j q tj : Nat, j ≤ N - t ∧ tj = t + j ∧ tt = .int .i64 tj ∧ cc = .int .u64 q ∧ q = (c + 1) * 2 ^ j ∧ wr2 = wr) (fun _ tt _ => N - (intOf tt).toNat)
        case atStart => exact ⟨0, (c + 1), t, Nat.zero_le _, rfl, rfl, by go_num, by simp, rfl⟩
        case round =>
          obtain ⟨j, q, tj, hj, htj, rfl, rfl, hq, rfl⟩ := hrel
          have hqV := HBD.out j hj
          rw [← hq] at hqV
          by_cases hjn : tj < N
          · have hq2 := HBD.out (j + 1) (by omega)
            have HQ := Lib.hid (show q * 2 = (c + 1) * 2 ^ (j + 1) by rw [hq, Nat.pow_succ, Nat.mul_assoc])
            rw [← HQ.out] at hq2
            have hji : (tj : Int) < N := by omega
            have HTJ := Lib.hid htj
            clear hq
            go_wp2
            go_roundw
            case rel => exact ⟨j + 1, q * 2, tj + 1, by have := HTJ.out; omega, by have := HTJ.out; omega, by go_num, by go_num, HQ.out, trivial⟩
            case measure => simp [intOf]; omega
          · obtain rfl : tj = N := by omega
            have hjN : j = tj - t := by omega
            have hqv : q = V := by rw [hq, hjN]; exact HSTEP.out
            subst hqv
            have hji : ¬ (tj : Int) < tj := by omega
            clear hq htj hj
            go_wp2_with (refine wpList_store_mid rfl 34 _ _ rfl g (p * 2) #[.int .u64 (q : Int), .int .i64 (tj : Int)] rfl rfl (by simpa using HTH.out) sizeCode (by simp [Value.oneCell']) ?_)
            go_roundw
            case rel => exact ⟨k + 1, by omega, by go_num, by rw [HFN.out], by rw [HFN.out], HPUT.out.1, HPUT.out.2⟩
            case measure => simp [intOf]; omega
    · obtain rfl : k = rn := by omega
      go_wp2
      go_ret
      refine ⟨_, _, _, rfl, ?_, by rw [← HALL.out, HOL.out], fun q hq => ?_, HBR.out⟩
      · rw [← HALL.out, HRN.out]; exact HR.out
      · injection hq with hq; rw [← hq, ← HG.out]; exact Nat.le_refl _
end Go.Proofs.Ytgfdonmkhmolpaa
