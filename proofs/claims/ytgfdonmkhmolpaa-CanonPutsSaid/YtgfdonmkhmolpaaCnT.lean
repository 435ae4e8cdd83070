/-
  The document's own answers for layer 9 (hamperref09): Take.
-/
import Derived.Test.YtgfdonmkhmolpaaCnS
import Derived.Deep.DeepCutAuto
import Derived.Deep.CutBlock
import Derived.OwnWalk
namespace Go.Proofs.Ytgfdonmkhmolpaa
open Go.RowKit Go.Deep
set_option linter.unusedVariables false
set_option linter.unusedSimpArgs false
set_option maxRecDepth 100000

/-- what is taken, from n bits on -/
def restC (ls : List Nat) (F : List Bool) (at_ most n : Nat) : Nat × Nat × Int := if n = most then (0, at_ + n, 11) else takeCn ls F at_ n (most - n)
theorem restC_zero (ls : List Nat) (F : List Bool) (at_ : Nat) : restC ls F at_ (mostN ls) 0 = takesN ls F at_ := by
  unfold restC takesN
  split
  · rename_i h; rw [← h]; rfl
  · rfl
theorem restC_end (ls : List Nat) (F : List Bool) (at_ most n : Nat) (h : n < most) (hF : F.length ≤ at_ + n) : restC ls F at_ most n = (0, at_ + n, 2) := by
  unfold restC
  rw [if_neg (by omega)]
  obtain ⟨d, hd⟩ : ∃ d, most - n = d + 1 := ⟨most - n - 1, by omega⟩
  rw [hd, takeCn, if_pos hF]
theorem restC_some (ls : List Nat) (F : List Bool) (at_ most n i : Nat) (h : n < most) (hF : ¬ F.length ≤ at_ + n) (hs : symOf ls (n + 1) (topN F at_ (n + 1)) = some i) : restC ls F at_ most n = (i, at_ + n + 1, 0) := by
  unfold restC
  rw [if_neg (by omega)]
  obtain ⟨d, hd⟩ : ∃ d, most - n = d + 1 := ⟨most - n - 1, by omega⟩
  rw [hd, takeCn, if_neg hF, hs]
theorem restC_none (ls : List Nat) (F : List Bool) (at_ most n : Nat) (h : n < most) (hF : ¬ F.length ≤ at_ + n) (hs : symOf ls (n + 1) (topN F at_ (n + 1)) = none) : restC ls F at_ most n = restC ls F at_ most (n + 1) := by
  conv => lhs; unfold restC
  rw [if_neg (by omega)]
  obtain ⟨d, hd⟩ : ∃ d, most - n = d + 1 := ⟨most - n - 1, by omega⟩
  rw [hd, takeCn, if_neg hF, hs]
  unfold restC
  dsimp only
  by_cases h0 : d = 0
  · rw [if_pos h0, if_pos (by omega)]; rfl
  · rw [if_neg h0, if_neg (by omega), show most - (n + 1) = d by omega]
theorem restC_last (ls : List Nat) (F : List Bool) (at_ most : Nat) : restC ls F at_ most most = (0, at_ + most, 11) := by unfold restC; rw [if_pos rfl]
theorem symOf_here (ls : List Nat) (n v i : Nat) (hn : n ≠ 0) (hi : i < ls.length) (h1 : ls.getD i 0 = n) (h2 : codeN ls i = v) : symOf ls n v = some i := (symOf_iff ls n v i hn).2 ⟨hi, h1, h2⟩
theorem symOf_nowhere (ls : List Nat) (n v : Nat) (hn : n ≠ 0) (h : ∀ i, i < ls.length → ¬ (ls.getD i 0 = n ∧ codeN ls i = v)) : symOf ls n v = none := by
  cases hs : symOf ls n v with
  | none => rfl
  | some i =>
    obtain ⟨h1, h2, h3⟩ := (symOf_iff ls n v i hn).1 hs
    exact absurd ⟨h2, h3⟩ (h i h1)
theorem codesN_at (ls : List Nat) (i : Nat) (h : i < ls.length) : (codesN ls)[i]? = some (codeN ls i, ls.getD i 0) := by unfold codesN; rw [List.getElem?_map, List.getElem?_range h]; rfl
theorem codesN_len (ls : List Nat) : (codesN ls).length = ls.length := by simp [codesN]
theorem top_next (F : List Bool) (at_ n : Nat) : topN F at_ (n + 1) = 2 * topN F at_ n + (F.getD (at_ + n) false).toNat := rfl

set_option maxHeartbeats 4000000 in
/-- Take -/
theorem cnTake_any (a : Option Addr) (n cap : Nat) (L : List Int) (ba : Option Addr) (bn bc : Nat) (F : List Bool) (at_ : Nat) (w : World) (h : IntsAt w a n cap L) (hn : n ≤ 100000) (hv : ∀ x ∈ natsL L, x ≤ 15) (hneg : ∀ x ∈ L, 0 ≤ x) (hk : kraft (natsL L) ≤ 32768)
    (hb : BoolsAt w ba bn bc F) (hat : at_ ≤ 1000000) :
    Calls Try.prog 18 #[.slice a n cap, .slice ba bn bc, .int .i64 at_] w fun e w' => ∃ x nx er, (x, nx, er) = takesN (natsL L) F at_ ∧ e = .returned (.tuple #[.int .i64 (x : Nat), .int .i64 (nx : Nat), .int .i64 er]) ∧ Below w.heap.size w w' := by
  have C1 := Lib.hid (cnCodes_any a n cap L w h hn hv hneg hk)
  have C2 := Lib.hid (fun u (hb : Below w.heap.size w u) => cnOrder_any a n cap L u (CameAt.below h (Nat.le_refl _) hb) (by omega))
  have HN := Lib.hid (show (natsL L).length = n by unfold natsL; rw [List.length_map]; exact h.1)
  obtain ⟨ls, hls⟩ : ∃ ls, ls = natsL L := ⟨_, rfl⟩
  rw [← hls] at C1 C2 HN ⊢
  have HB := Lib.hid hb
  have HF := Lib.hid hb.1
  have HZ := Lib.hid (restC_zero ls F at_)
  have HMO := Lib.hid (show mostN ls = if (orderN ls).length < 2 then (orderN ls).length else 15 from rfl)
  have HM15 := Lib.hid (show mostN ls ≤ 15 by unfold mostN; split <;> omega)
  have HCL := Lib.hid ((codesN_len ls).trans HN.out)
  have HOL := Lib.hid (orderN_len ls)
  generalize hP : orderN ls = P at *
  generalize hM : mostN ls = M at *
  clear h hb hls hv hneg hk
  go_enter Try.func18, Try.ntmps18
  go_wp2_with fail
  refine C1.out.mono ?_
  rintro e w1 ⟨ca, cn, cc, rfl, hI⟩
  have HI := Lib.hid hI
  have HCN := Lib.hid (show cn = n by rw [← hI.2.1, HCL.out])
  have HB1 := Lib.hid hI.2.2.2
  clear hI C1
  go_wp2_with fail
  refine (C2.out _ HB1.out).mono ?_
  rintro e w2 ⟨ra, rn, rc, rfl, hJ⟩
  have HRN := Lib.hid hJ.2.1
  have HB2 := Lib.hid (HB1.out.trans (hJ.2.2.2.mono HB1.out.size))
  have HC := Lib.hid ((HI.out.below hJ.2.2.2).came fun _ => rfl)
  clear hJ C2 HI
  have hcn := HCN.out
  subst hcn
  have hrn := HOL.out
  rw [HRN.out, HN.out] at hrn
  have hmo := HMO.out
  rw [HRN.out] at hmo
  have HMO2 := Lib.hid hmo
  clear hmo HMO HOL hP hM HRN
  go_upto_if 21 with (fail)
  go_cut [10] (fun s10 wx => wx = w2 ∧ s10 = .int .i64 (M : Int))
  case first =>
    by_cases h2 : rn < 2
    · have h2i : (rn : Int) < 2 := by omega
      have HM := Lib.hid (show rn = M by rw [HMO2.out, if_pos h2])
      go_wp2
      go_meet
      exact ⟨rfl, by rw [HM.out]⟩
    · have h2i : ¬ (rn : Int) < 2 := by omega
      have HM := Lib.hid (show 15 = M by rw [HMO2.out, if_neg h2])
      go_wp2
      go_meet
      exact ⟨rfl, by rw [← HM.out]; rfl⟩
  case rest =>
  obtain ⟨hwc, rfl⟩ := hcut
  subst hwc
  go_wp2
  go_loopw [2, 12, 13, 14] (fun sa sv sn si wr => ∃ k q ak K : Nat, k ≤ M ∧ ak = at_ + k ∧ K = k + 1 ∧ sa = .int .i64 (ak : Int) ∧ sv = .int .u64 (q : Int) ∧ q = topN F at_ k ∧ sn = .int .i64 (K : Int) ∧ wr = wc ∧ restC ls F at_ M k = takesN ls F at_) (fun _ _ sn _ _ => M + 2 - (intOf sn).toNat)
  case atStart => exact ⟨0, 0, at_, 1, Nat.zero_le _, rfl, rfl, rfl, rfl, rfl, rfl, rfl, HZ.out⟩
  case round =>
    obtain ⟨k, q, ak, K, hk, hak, hK, rfl, rfl, hq, rfl, rfl, hrest⟩ := hrel
    have HREST := Lib.hid hrest
    clear hrest
    by_cases hlt : k < M
    · have hKi : (K : Int) ≤ M := by omega
      by_cases hend : F.length ≤ at_ + k
      · have hei : (bn : Int) ≤ ak := by have := HF.out; omega
        have HA := Lib.hid (show (0, ak, (2 : Int)) = takesN ls F at_ by rw [← HREST.out, restC_end ls F at_ M k hlt hend, hak])
        clear hq hak hK
        go_wp2
        go_ret3
        exact ⟨0, ak, 2, HA.out, rfl, HB2.out⟩
      · have hei : ¬ (bn : Int) ≤ ak := by have := HF.out; omega
        obtain ⟨bb, boff, rfl, _, hbc⟩ := BoolsAt.cell (CameAt.below HB.out (by omega) HB2.out) (by have := HF.out; omega)
        have xb := hbc ak (by have := HF.out; omega)
        have hnext := top_next F at_ k
        rw [← hq, ← hak] at hnext
        have hqlt := topN_lt F at_ k
        rw [← hq] at hqlt
        have hq15 : q < 32768 := Nat.lt_of_lt_of_le hqlt (pow15 k (by have := HM15.out; omega))
        generalize F.getD ak false = b at *
        obtain ⟨q2, hq2⟩ : ∃ q2, q2 = 2 * q + b.toNat := ⟨_, rfl⟩
        rw [← hq2] at hnext
        have HNX := Lib.hid hnext
        have hakb : ak ≤ 2000000 := by have := HM15.out; omega
        have hKb : K ≤ 20 := by have := HM15.out; omega
        have HAK := Lib.hid hak
        have HKK := Lib.hid hK
        have HQ2 := Lib.hid hq2
        have hq2b : q2 < 65536 := by cases b <;> simp at hq2 <;> omega
        clear hbc hnext hqlt hq hak hK hq2
        go_upto_if 39 with (fail)
        go_cut [12] (fun s12 wx => wx = wr ∧ s12 = .int .u64 (q2 : Int))
        case first =>
          cases b with
          | true =>
            have HE := Lib.hid (show q * 2 + 1 = q2 by rw [HQ2.out]; simp; omega)
            go_wp2
            go_meet
            exact ⟨rfl, by rw [← HE.out]; go_num⟩
          | false =>
            have HE := Lib.hid (show q * 2 = q2 by rw [HQ2.out]; simp; omega)
            go_wp2
            go_meet
            exact ⟨rfl, by rw [← HE.out]; go_num⟩
        case rest =>
        obtain ⟨hwc, rfl⟩ := hcut
        subst hwc
        go_wp2
        go_loopw [14] (fun si wr2 => ∃ j : Nat, j ≤ cn ∧ si = .int .i64 j ∧ (∀ i, i < j → ¬ (ls.getD i 0 = K ∧ codeN ls i = q2)) ∧ wr2 = wc) (fun si _ => cn - (intOf si).toNat)
        case atStart => exact ⟨0, Nat.zero_le _, rfl, fun i hi => by omega, rfl⟩
        case round =>
          obtain ⟨j, hj, rfl, hno, rfl⟩ := hrel
          have HNO := Lib.hid hno
          clear hno
          by_cases hjn : j < cn
          · have hji : (j : Int) < cn := by omega
            obtain ⟨cb, coff, rfl, _, hcc⟩ := CameAt.at HC.out (by omega) (by omega)
            have hx := codesN_at ls j (by rw [HN.out]; exact hjn)
            have x0 := hcc j 0 _ hx (by omega)
            have x1 := hcc j 1 _ hx (by omega)
            change World.cell? _ ⟨cb, coff + j * 2, none⟩ = some (.int .u64 (codeN ls j : Int)) at x0
            change World.cell? _ ⟨cb, coff + j * 2 + 1, none⟩ = some (.int .i64 ((ls.getD j 0 : Nat) : Int)) at x1
            have HHERE := Lib.hid (fun h1 h2 => symOf_here ls K q2 j (by have := HKK.out; omega) (by rw [HN.out]; exact hjn) h1 h2)
            have HMORE := Lib.hid (show ¬ (ls.getD j 0 = K ∧ codeN ls j = q2) → ∀ i, i < j + 1 → ¬ (ls.getD i 0 = K ∧ codeN ls i = q2) from fun h i hi => by
              by_cases e : i = j
              · subst e; exact h
              · exact HNO.out i (by omega))
            clear hcc hx
            generalize ls.getD j 0 = X at *
            generalize codeN ls j = Y at *
            by_cases h1 : X = K
            · subst h1
              by_cases h2 : Y = q2
              · subst h2
                have HA := Lib.hid (show (j, ak + 1, (0 : Int)) = takesN ls F at_ by
                  rw [← HREST.out, restC_some ls F at_ M k j hlt hend (by rw [HNX.out, ← HKK.out]; exact HHERE.out rfl rfl), HAK.out])
                go_wp2
                go_ret3
                exact ⟨j, ak + 1, 0, HA.out, by go_num, HB2.out⟩
              · have HMO := Lib.hid (HMORE.out fun h => h2 h.2)
                have h2b : ((Y : Int) == q2) = false := by rw [beq_eq_false_iff_ne]; omega
                clear h2
                go_wp2
                go_roundw
                case rel => exact ⟨j + 1, by omega, by go_num, HMO.out, trivial⟩
                case measure => simp [intOf]; omega
            · have HMO := Lib.hid (HMORE.out fun h => h1 h.1)
              have h1b : ((X : Int) == K) = false := by rw [beq_eq_false_iff_ne]; omega
              clear h1
              go_wp2
              go_roundw
              case rel => exact ⟨j + 1, by omega, by go_num, HMO.out, trivial⟩
              case measure => simp [intOf]; omega
          · obtain rfl : j = cn := by omega
            have hji : ¬ (j : Int) < j := by omega
            have HS := Lib.hid (symOf_nowhere ls K q2 (by have := HKK.out; omega) (fun i hi => HNO.out i (by rw [HN.out] at hi; exact hi)))
            have HR2 := Lib.hid (show restC ls F at_ M (k + 1) = takesN ls F at_ by
              rw [← restC_none ls F at_ M k hlt hend (by rw [HNX.out, ← HKK.out]; exact HS.out)]; exact HREST.out)
            go_wp2
            go_roundw
            case rel => exact ⟨k + 1, q2, ak + 1, K + 1, by omega, by have := HAK.out; omega, by have := HKK.out; omega, by go_num, rfl, HNX.out.symm, by go_num, trivial, HR2.out⟩
            case measure => simp [intOf]; omega
    · obtain rfl : k = M := by omega
      have hKi : ¬ (K : Int) ≤ k := by omega
      have HA := Lib.hid (show (0, ak, (11 : Int)) = takesN ls F at_ by rw [← HREST.out, restC_last, hak])
      clear hq hak hK
      go_wp2
      go_ret3
      exact ⟨0, ak, 11, HA.out, rfl, HB2.out⟩
end Go.Proofs.Ytgfdonmkhmolpaa
