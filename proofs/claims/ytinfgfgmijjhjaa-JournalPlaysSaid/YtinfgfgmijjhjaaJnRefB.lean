/-
  The document's answer for layer 4: Head.
-/
import Derived.Test.YtinfgfgmijjhjaaJnRefA
import Derived.Test.YtinfgfgmijjhjaaOctMem
namespace Go.Proofs.Ytinfgfgmijjhjaa
open Go.RowKit
set_option linter.unusedVariables false
set_option linter.unusedSimpArgs false

/-- the octets of a string, laid down: what is known of the world behind -/
structure StrRow (w : World) (l : List UInt8) (G : Nat) (w' : World) : Prop where
  at_ : BytesAt w' (some ⟨w.heap.size, 0, none⟩) l.length G l
  below : Below w.heap.size w w'
  lt : w.heap.size < w'.heap.size

theorem str_bytes (w : World) (l : List UInt8) (hl : l.length ≤ 1073741824) :
    ∃ G w', (convert 9 24 (.string ⟨l.toArray⟩)).run Try.prog w = .ok (.slice (some ⟨w.heap.size, 0, none⟩) l.length G) w' ∧ StrRow w l G w' := by
  have h := run_bytes_of_string w 9 24 5 ⟨l.toArray⟩ Try.underlying9 Try.underlying24 Try.underlying5
  have hs : (⟨l.toArray⟩ : ByteArray).size = l.length := rfl
  rw [hs] at h
  refine ⟨_, _, h, ?_, ((Below.refl _ _).drew).alloc (by simp) _, by simp⟩
  have hge : l.length ≤ grownCap w l.length 0 5 := grownCap_ge w _ _ _
  have hle := grownCap_le_maxLen w l.length 0 5 (by unfold maxLen; omega)
  refine BytesAt.of_cells rfl hge hle fun i hi => ?_
  rw [Nat.zero_add, cell_of_row _ w.heap.size _ _ _ _ (heap_alloc_new w.drew _), bytesRow_at _ _ _ (by simpa using hi)]
  simp [List.getD, List.getElem?_eq_getElem hi]

theorem bytesL_len128 (L : List Pt) (h : ∀ p ∈ L, p.2.length = 128) : ∀ k, k ≤ L.length → (bytesL (L.take k)).length = 128 * k := by
  intro k
  induction k with
  | zero => intro _; simp [bytesL]
  | succ k ih =>
    intro hk
    rw [bytesL_take L k (by omega), List.length_append, ih (by omega)]
    have : L.getD k (0, []) ∈ L := by
      rw [List.getD, List.getElem?_eq_getElem (by omega)]
      exact List.getElem_mem (by omega)
    rw [h _ this]; omega

def strLen : Value → Nat
  | .string b => b.size
  | _ => 0
theorem one_zero : (⟨#[0]⟩ : ByteArray) = ⟨([0] : List UInt8).toArray⟩ := rfl
theorem mark_str : (⟨#[116, 110, 108, 106]⟩ : ByteArray) = ⟨markL.toArray⟩ := rfl

set_option maxHeartbeats 4000000 in
set_option maxRecDepth 100000 in
theorem rhead_any (U : Nat → Prop) (a : Option Addr) (n cap : Nat) (M : List PutM) (size : Int) (w : World) (h : PutsIn w U a n cap M) (hm : mayB (M.map PutM.pt) size = true) (hs : size ≤ 65536) :
    Calls Try.prog 11 #[.slice a n cap] w fun e w' => e = .returned (.string ⟨(hdL (M.map PutM.pt)).toArray⟩) ∧ Below w.heap.size w w' := by
  obtain ⟨hfew, hat⟩ := may_at hm hs
  have hb128 := bytesL_len128 (M.map PutM.pt) (fun p hp => ((may_iff _ _).1 hm).at p hp |>.2.2)
  have hn : n ≤ 40 := by rw [← h.mlen]; exact hfew
  have HP := Lib.hid h
  have HML := Lib.hid h.mlen
  have HAT := Lib.hid hat
  have HBL := Lib.hid (show ∀ k, k ≤ n → (bytesL ((M.map PutM.pt).take k)).length = 128 * k from fun k hk => hb128 k (by rw [List.length_map, HML.out]; exact hk))
  have hraw := hdRaw_length (M.map PutM.pt)
  rw [List.length_map, h.mlen] at hraw
  have HRAW := Lib.hid hraw
  clear h hm hs hfew hat hb128 hraw
  go_enter Try.func11, Try.ntmps11
  go_wp2
  go_loopw [3, 4, 5] (fun v s i wr => ∃ (k : Nat) (a' : Option Addr) (cap' : Nat), k ≤ n ∧ i = .int .i64 k ∧ v = .slice a' (128 * k) cap' ∧ s = .string ⟨(placesL ((M.map PutM.pt).take k)).toArray⟩ ∧ wr.ownsRow w.heap.size 5 1 (.slice a' (128 * k) cap') (128 * k) (vals (bytesL ((M.map PutM.pt).take k))) ∧ Below w.heap.size w wr) (fun _ _ i _ => n - (intOf i).toNat)
  case atStart => exact ⟨0, none, 0, Nat.zero_le _, rfl, rfl, rfl, World.ownsRow_nil _ _ _ _, Below.refl _ _⟩
  case round =>
    obtain ⟨k, a', cap', hk, rfl, rfl, rfl, hown, hbel⟩ := hrel
    have HOW := Lib.hid hown
    have HBE := Lib.hid hbel
    clear hown hbel
    by_cases hlt : k < n
    · obtain ⟨b, off, rfl, hUb, hcell⟩ := (HP.out.below HBE.out).at (by omega)
      obtain ⟨c0, c1, _⟩ := hcell k hlt
      have HC0 := Lib.hid c0
      have HBLT := Lib.hid (HP.out.lt b hUb)
      have HBY := Lib.hid ((HP.out.below HBE.out).bytes _ (HP.out.mem k hlt))
      have HX := Lib.hid (HAT.out _ (HP.out.mem k hlt))
      have hlk : k < (M.map PutM.pt).length := by rw [List.length_map, HML.out]; exact hlt
      have hby := bytesL_take (M.map PutM.pt) k hlk
      have hpl := placesL_take (M.map PutM.pt) k hlk
      have hpll := placesL_length ((M.map PutM.pt).take k)
      rw [pts_getD M k (by rw [HML.out]; exact hlt)] at hby hpl
      have hlen1 := HBL.out k (by omega)
      have hlen2 := HBL.out (k + 1) (by omega)
      rw [hby, List.length_append, hlen1] at hlen2
      rw [List.length_take] at hpll
      have hki : (k : Int) < (n : Int) := by omega
      clear hcell c0
      generalize M.getD k default = x at *
      obtain ⟨xi, xa, xn, xc, xb⟩ := x
      dsimp only [PutM.pt] at HBY HX hby hpl HC0 c1 hlen2
      obtain rfl : xn = 128 := by have := HBY.out.1; omega
      obtain ⟨m, rfl⟩ := Int.eq_ofNat_of_zero_le HX.out.1
      have hm : m < 65536 := by have := HX.out.2; omega
      rw [Int.toNat_natCast] at hpl
      have hslen : (placesL ((M.map PutM.pt).take k)).length + (leB 2 m).length ≤ 9223372036854775807 := by rw [leB_length]; omega
      have CO := Lib.hid (fun u => rof_any m 2 u (by omega) (by omega) (by omega) (by omega))
      have HPL := Lib.hid hpl
      have HBYT := Lib.hid hby
      clear HX hby hpl hlk hlen1 hlen2 hpll
      go_upto_region 7 with (refine wpList_append_bytes rfl _ _ rfl w.heap.size _ (128 * k) (vals (bytesL ((M.map PutM.pt).take k))) rfl HOW.out xa 128 xc xb rfl HBY.out (128 * (k + 1)) (by omega) (by omega) HBE.out.size ?_; intro a3 cap3 w3 ho3 hg3)
      have HB3 := Lib.hid (HBE.out.grown hg3 HBE.out.size (fun q hq => (HOW.out.lt q hq).1))
      have c3 : w3.cell? ⟨b, off + k * 2, none⟩ = some (.int .i64 (m : Int)) := by
        rw [HB3.out.cell (p := ⟨b, off + k * 2, none⟩) HBLT.out, ← HBE.out.cell (p := ⟨b, off + k * 2, none⟩) HBLT.out]; exact HC0.out
      have HO3 := Lib.hid ho3
      clear ho3 hg3 c1
      go_wp2_with fail
      refine (CO.out _).mono ?_
      rintro e w4 ⟨rfl, hb4⟩
      have HO4 := Lib.hid (owned_below HO3.out hb4)
      have HB4 := Lib.hid (HB3.out.trans (hb4.mono HB3.out.size))
      clear hb4
      go_wp2
      go_roundw
      case rel =>
        refine ⟨k + 1, a3, cap3, by omega, by go_num, rfl, ?_, ?_, HB4.out⟩
        · rw [HPL.out, ba_app]
        · rw [HBYT.out]
          simpa [vals] using HO4.out
      case measure => simp [intOf]; omega
    · obtain rfl : k = n := by omega
      have htk : (M.map PutM.pt).take k = M.map PutM.pt := List.take_of_length_le (by rw [List.length_map, HML.out]; omega)
      rw [htk] at HOW
      rw [htk]
      have hs := sumL_lt (bytesL (M.map PutM.pt))
      have hpll := placesL_length (M.map PutM.pt)
      rw [List.length_map, HML.out] at hpll
      have hraweq : hdRaw (M.map PutM.pt) = markL ++ (leB 2 k ++ (leB 4 (sumL (bytesL (M.map PutM.pt))) ++ placesL (M.map PutM.pt))) := by
        simp [hdRaw, HML.out]
      have hpad : hdL (M.map PutM.pt) = sealL (hdRaw (M.map PutM.pt)) ++ List.replicate (128 - (10 + 2 * k + 4)) 0 := by
        unfold hdL; rw [HRAW.out, Nat.sub_sub]
      have CS := Lib.hid (fun u (hb : Below wr.heap.size wr u) => rsum_any a' (128 * k) cap' (bytesL (M.map PutM.pt)) u ((BytesAt.owned HOW.out).below hb))
      have CO1 := Lib.hid (fun u => rof_any k 2 u (by omega) (by omega) (by omega) (by omega))
      have CO2 := Lib.hid (fun u => rof_any (sumL (bytesL (M.map PutM.pt))) 4 u (by omega) (by omega) (by omega) (by simpa using hs))
      have HRE := Lib.hid hraweq
      have HPD := Lib.hid hpad
      clear htk hraweq hpad HAT HOW
      generalize sumL (bytesL (M.map PutM.pt)) = sm at *
      generalize placesL (M.map PutM.pt) = pl at *
      generalize hdRaw (M.map PutM.pt) = raw at *
      have el0 : markL.length = 4 := rfl
      have el1 : markL.length + (leB 2 k).length ≤ 9223372036854775807 := by rw [leB_length, el0]; omega
      have el2 : markL.length + (leB 2 k).length + (leB 4 sm).length ≤ 9223372036854775807 := by rw [leB_length, leB_length, el0]; omega
      have el3 : markL.length + ((leB 2 k).length + (leB 4 sm).length) + pl.length ≤ 9223372036854775807 := by rw [leB_length, leB_length, el0]; omega
      clear el0
      have ba := ba_app
      have mk := mark_str
      go_wp2_with fail
      refine (CO1.out _).mono ?_
      rintro e w1 ⟨rfl, hb1⟩
      have HB1 := Lib.hid hb1
      clear hb1
      go_wp2_with fail
      refine (CS.out _ HB1.out).mono ?_
      rintro e w2 ⟨rfl, rfl⟩
      go_wp2_with fail
      refine (CO2.out _).mono ?_
      rintro e w2 ⟨rfl, hb2⟩
      have HB2 := Lib.hid (HB1.out.trans (hb2.mono HB1.out.size))
      clear hb2
      obtain ⟨G, w3, hcv, hsr⟩ := str_bytes w2 raw (by rw [HRAW.out]; omega)
      rw [HRAW.out] at hcv
      have hby3 := hsr.at_
      rw [HRAW.out] at hby3
      have CSL := Lib.hid (rseal_any _ (10 + 2 * k) G raw w3 hby3 (by omega))
      have HB3 := Lib.hid (HB2.out.trans (hsr.below.mono HB2.out.size))
      rw [HRE.out] at hcv
      clear hsr hby3
      go_wp2_with fail
      refine (CSL.out).mono ?_
      rintro e w4 ⟨rfl, hb4⟩
      have HB4 := Lib.hid (HBE.out.trans ((HB3.out.trans (hb4.mono HB3.out.size)).mono HBE.out.size))
      have HSLL := Lib.hid (show (sealL raw).length = 14 + 2 * k by rw [sealL_length, HRAW.out]; omega)
      clear hb4 hcv CS CO1 CO2 CSL el1 el2 el3 mk
      generalize sealL raw = sl at *
      go_wp2
      go_loop [6] (fun s => ∃ (j : Nat) (q : List UInt8), j ≤ 128 - (14 + 2 * k) ∧ s = .string ⟨q.toArray⟩ ∧ q = sl ++ List.replicate j 0) (fun s => 128 - strLen s)
      case atStart => exact ⟨0, sl, Nat.zero_le _, rfl, by simp⟩
      case round =>
        obtain ⟨j, q, hj, rfl, hq⟩ := hrel
        have hl : q.length = 14 + 2 * k + j := by rw [hq]; simp [HSLL.out]
        have HQ := Lib.hid hq
        have HQL := Lib.hid hl
        by_cases hlt : j < 128 - (14 + 2 * k)
        · have e1 : q.length < 128 := by omega
          have e2 : q.length + 1 ≤ 9223372036854775807 := by omega
          have oz := one_zero
          clear hq hl
          go_wp2
          go_round
          case rel => exact ⟨j + 1, q ++ [0], by omega, by rw [← ba_app], by rw [HQ.out, List.replicate_succ', List.append_assoc]⟩
          case measure =>
            show 128 - ((⟨q.toArray⟩ : ByteArray) ++ ⟨#[0]⟩).size < 128 - (⟨q.toArray⟩ : ByteArray).size
            rw [one_zero, ba_app]
            show 128 - (q ++ [0]).length < 128 - q.length
            rw [List.length_append, List.length_singleton]; omega
        · have e1 : decide ((q.length : Int) < 128) = false := by simp; omega
          have hj2 : j = 128 - (10 + 2 * k + 4) := by omega
          subst hj2
          have hfin := HPD.out
          rw [← HQ.out] at hfin
          have HFIN := Lib.hid hfin
          clear hq hl hfin
          go_wp2
          go_ret
          rw [HFIN.out]
          exact ⟨rfl, HB4.out⟩

open Go.RowKit
end Go.Proofs.Ytinfgfgmijjhjaa
