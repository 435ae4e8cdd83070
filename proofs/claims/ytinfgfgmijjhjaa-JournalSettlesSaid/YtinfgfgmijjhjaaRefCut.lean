/-
  The document's answer for layer 3: Flush, Cut.
-/
import Derived.Test.YtinfgfgmijjhjaaRefDisk
namespace Go.Proofs.Ytinfgfgmijjhjaa
open Go.RowKit
set_option linter.unusedVariables false
set_option linter.unusedSimpArgs false

theorem rflush_no (g : Nat) (D : Dk) (S : Nat → Prop) (w : World) (h : RefAt w S g D) (hc : D.can = false) :
    Calls Try.prog 29 #[.pointer (some ⟨g, 0, none⟩)] w (RefTo (.int .i64 10) S g D.off w) := by
  have CF := Lib.hid (fails_yes g D S w h hc)
  clear h hc
  go_enter Try.func29, Try.ntmps29
  go_wp2_with (go_at_call 60; refine (CF.out).mono ?_; rintro e w1 ⟨rfl, hd⟩)
  go_ret
  exact ⟨rfl, hd⟩

set_option maxHeartbeats 1000000 in
set_option maxRecDepth 100000 in
theorem rflush_yes (g : Nat) (D0 : Dk) (S : Nat → Prop) (w : World) (h : RefAt w S g D0) (hc : D0.can = true) :
    Calls Try.prog 29 #[.pointer (some ⟨g, 0, none⟩)] w (RefTo (.int .i64 0) S g D0.flushed w) := by
  have CF := Lib.hid (fails_no g D0 S w h hc)
  clear h hc
  go_enter Try.func29, Try.ntmps29
  go_upto_region 3 with (go_at_call 60; refine (CF.out).mono ?_; rintro e w1 ⟨rfl, hd, ho, hsz⟩)
  obtain ⟨vs, vw, hd⟩ := hd
  obtain ⟨D, hD⟩ : ∃ D, D0.paid = D := ⟨_, rfl⟩
  rw [hD] at hd
  have HDE := Lib.hid hD
  have HD := Lib.hid hd
  have HOK := Lib.hid hd.ok
  have HO1 := Lib.hid ho
  have HSZ := Lib.hid hsz
  have hmax : D.waits.length ≤ 1073741824 := hd.ok.few
  obtain ⟨av, capv, rfl, _, _⟩ := hd.waits.form
  clear hd ho hsz hD CF
  go_wp2
  go_loopw [3] (fun s3 wr => ∃ k : Nat, k ≤ D.waits.length ∧ s3 = .int .i64 k ∧ RefIs wr S g { D with secs := Dk.laid (fun _ => true) (D.waits.take k) D.secs } vs (.slice av D.waits.length capv) ∧ Only S w1 wr) (fun s3 _ => D.waits.length - (intOf s3).toNat)
  case atStart => exact ⟨0, Nat.zero_le _, rfl, HD.out, Only.refl _ _⟩
  case round =>
    obtain ⟨k, hk, rfl, hd, ho⟩ := hrel
    have HK := Lib.hid hd
    have HO := Lib.hid ho
    clear hd ho
    by_cases hlt : k < D.waits.length
    · have hlti : (k : Int) < (D.waits.length : Int) := by omega
      obtain ⟨gw, capw', hv, _, _, _⟩ := HK.out.waits.form' (by exact Nat.lt_of_le_of_lt (Nat.zero_le _) hlt)
      simp only [Value.slice.injEq, true_and] at hv
      obtain ⟨rfl, rfl⟩ := hv
      have hx : D.waits[k]? = some D.waits[k] := List.getElem?_eq_getElem hlt
      have w0 : wr.cell? ⟨gw, k * 2, none⟩ = some (.int .i64 (D.waits[k].1 : Int)) := HK.out.waits.cellAt k 0 _ hx (by omega)
      have w1 : wr.cell? ⟨gw, k * 2 + 1, none⟩ = some (.string ⟨D.waits[k].2.toArray⟩) := HK.out.waits.cellAt k 1 _ hx (by omega)
      have hwt := HOK.out.wait _ (List.getElem_mem hlt)
      have hat : D.waits[k].1 < (Dk.laid (fun _ => true) (D.waits.take k) D.secs).length := by rw [Dk.laid_length]; exact hwt.1
      obtain ⟨gs, caps, hvs, _, _, _⟩ := HK.out.secs.form' (by exact Nat.lt_of_le_of_lt (Nat.zero_le _) hat)
      subst hvs
      have HAT := Lib.hid hat
      have HWT := Lib.hid hwt.2
      have hlt2 := Dk.laid_take (fun _ => true) D.waits D.secs k hlt

      rw [if_pos rfl] at hlt2
      have HLT := Lib.hid hlt2
      have hth := HK.out.secs.there _ hat 0 (by omega)
      rw [show D.waits[k].1 * 1 + 0 = D.waits[k].1 by omega] at hth
      obtain ⟨cx, hcx⟩ := Option.isSome_iff_exists.1 hth.1
      have hcf := hth.2
      have hati : (D.waits[k].1 : Int) < ((Dk.laid (fun _ => true) (D.waits.take k) D.secs).length : Int) := by omega
      obtain ⟨d0, d1, _, _, _⟩ := ref_cells HK.out.blk
      have HCX := Lib.hid hcx
      have HCF := Lib.hid hcf
      clear hwt hat hlt2 hth hx hcx hcf
      generalize D.waits[k] = x at *
      obtain ⟨xa, xs⟩ := x
      dsimp only at w0 w1 hati HCX HCF

      go_wp2
      refine region_head 21 [0, 1, 2, 3, 4, 5, 6, 7, 8, 9, 10, 11, 12, 13, 14, 15, 16, 17, 18, 19, 20] [] (fun u => u.cell? ⟨g, 0, none⟩ = some (.slice (some ⟨gs, 0, none⟩) (Dk.laid (fun _ => true) (D.waits.take k) D.secs).length caps) ∧ u.cell? ⟨g, 1, none⟩ = some (.slice (some ⟨gw, 0, none⟩) D.waits.length capv) ∧ u.cell? ⟨gw, k * 2, none⟩ = some (.int .i64 (xa : Int)) ∧ u.cell? ⟨gw, k * 2 + 1, none⟩ = some (.string ⟨xs.toArray⟩)) (by kernel_rfl) (by kernel_rfl) ⟨d0, d1, w0, w1⟩ ?_
      clear d0 d1 w0 w1
      simp only [pickO, List.append_eq, List.cons_append, List.nil_append, List.filterMap_cons, List.filterMap_nil, List.getElem?_cons_zero, List.getElem?_cons_succ, Option.map_some, List.drop_succ_cons, List.drop_zero]
      iterate 21
        refine seqH_readG _ rfl (by rfl) (by rintro u ⟨hu1, hu2, hu3, hu4⟩; go_simp; with_reducible rfl) ?_
        try simp only [Act.put, List.setIfInBounds_toArray, List.set_cons_zero, List.set_cons_succ]
      refine seqH_nil ?_
      have hcx := HCX.out
      have hcf := HCF.out
      go_wp2
      go_roundw
      case rel =>
        have hput := (HK.out.below ((Below.refl _ _).drew)).putSec xa xs HAT.out HWT.out
        refine ⟨k + 1, by omega, by go_num, ?_, ?_⟩
        · rw [HLT.out]; exact hput.1
        · exact HO.out.trans ((Only.drew (S := S) _).trans hput.2 (fun _ _ h => h)) (fun _ _ h => h)
      case measure => simp [intOf]; omega

    · obtain rfl : k = D.waits.length := by omega
      obtain ⟨d0, d1, _, _, df⟩ := ref_cells HK.out.blk
      have df1 := df 1
      have HTK := Lib.hid (List.take_length (l := D.waits))
      clear df
      go_wp2
      go_ret
      have hd := HK.out
      rw [HTK.out] at hd
      have he : D0.flushed = { D with secs := Dk.laid (fun _ => true) D.waits D.secs, waits := [] } := by rw [← HDE.out]; rfl
      rw [he]
      refine ⟨rfl, S, ⟨_, _, hd.noWaits (HOK.out.settle (fun _ => true))⟩, ?_, fun i hi => .inl hi⟩
      exact HO1.out.trans (HO.out.trans (Only.setCell (S := S) _ _ _ hd.self) (fun _ _ h => h)) (fun _ _ h => h)

/-- behind the flags' end nothing is kept -/
theorem laid_stop (K : Nat → Bool) (m : Nat) (hK : ∀ k, m ≤ k → K k = false) (ws : List (Nat × List UInt8)) (s : List (List UInt8)) : Dk.laid K ws s = Dk.laid K (ws.take m) s := by
  induction ws using Dk.snoc_ind with
  | h0 => simp
  | h1 l x ih =>
    by_cases h : l.length < m
    · rw [List.take_of_length_le (by simp; omega)]
    · rw [Dk.laid_snoc, hK _ (by omega), if_neg (by simp), ih, List.take_append_of_le_length (by omega)]

set_option maxHeartbeats 1000000 in
set_option maxRecDepth 100000 in
theorem rcut_any (g : Nat) (D : Dk) (S : Nat → Prop) (a : Option Addr) (n cap : Nat) (L : List Bool) (w : World) (h : RefAt w S g D) (hL : BoolsAt w a n cap L) (hS : ∀ p, a = some p → 0 < n → ¬ S p.block) :
    Calls Try.prog 20 #[.pointer (some ⟨g, 0, none⟩), .slice a n cap] w (RefTo (.tuple #[]) S g (D.cut L) w) := by
  obtain ⟨vs, vw, h⟩ := h
  have HD := Lib.hid h
  have HOK := Lib.hid h.ok
  have HBO := Lib.hid hL
  have HS := Lib.hid hS
  have HLN := Lib.hid hL.1
  have hmax : D.waits.length ≤ 1073741824 := h.ok.few
  have hmn : n ≤ 9223372036854775807 := by have := hL.2.1; have := hL.2.2.1; unfold maxLen at *; omega
  obtain ⟨av, capv, rfl, _, _⟩ := h.waits.form
  clear h hL hS
  go_enter Try.func20, Try.ntmps20
  go_wp2
  go_loopw [4] (fun s4 wr => ∃ k : Nat, k ≤ D.waits.length ∧ k ≤ n ∧ s4 = .int .i64 k ∧ RefIs wr S g { D with secs := Dk.laid (Dk.keeps L) (D.waits.take k) D.secs } vs (.slice av D.waits.length capv) ∧ Only S w wr) (fun s4 _ => D.waits.length - (intOf s4).toNat)
  case atStart => exact ⟨0, Nat.zero_le _, Nat.zero_le _, rfl, HD.out, Only.refl _ _⟩
  case round =>
    obtain ⟨k, hk, hkn, rfl, hd, ho⟩ := hrel
    have HK := Lib.hid hd
    have HO := Lib.hid ho
    clear hd ho
    obtain ⟨d0, d1, _, d3, df⟩ := ref_cells HK.out.blk
    by_cases hgo : k < D.waits.length ∧ k < n
    · obtain ⟨hlt, hltn⟩ := hgo
      have hlti : (k : Int) < (D.waits.length : Int) := by omega
      have hltni : (k : Int) < (n : Int) := by omega
      have hbo := CameAt.only HBO.out (by omega) HO.out HS.out
      obtain ⟨bb, boff, rfl, hbl, hbc⟩ := BoolsAt.cell hbo (by omega)
      have cb := hbc k hltn
      have HKE := Lib.hid (show L.getD k false = Dk.keeps L k from rfl)
      clear hbo hbc d3 df
      obtain ⟨gw, capw', hv, _, _, _⟩ := HK.out.waits.form' (by exact Nat.lt_of_le_of_lt (Nat.zero_le _) hlt)
      simp only [Value.slice.injEq, true_and] at hv
      obtain ⟨rfl, rfl⟩ := hv
      have hx : D.waits[k]? = some D.waits[k] := List.getElem?_eq_getElem hlt
      have w0 : wr.cell? ⟨gw, k * 2, none⟩ = some (.int .i64 (D.waits[k].1 : Int)) := HK.out.waits.cellAt k 0 _ hx (by omega)
      have w1 : wr.cell? ⟨gw, k * 2 + 1, none⟩ = some (.string ⟨D.waits[k].2.toArray⟩) := HK.out.waits.cellAt k 1 _ hx (by omega)
      have hwt := HOK.out.wait _ (List.getElem_mem hlt)
      have hat : D.waits[k].1 < (Dk.laid (Dk.keeps L) (D.waits.take k) D.secs).length := by rw [Dk.laid_length]; exact hwt.1
      obtain ⟨gs, caps, hvs, _, _, _⟩ := HK.out.secs.form' (by exact Nat.lt_of_le_of_lt (Nat.zero_le _) hat)
      subst hvs
      have HAT := Lib.hid hat
      have HWT := Lib.hid hwt.2
      have hlt2 := Dk.laid_take (Dk.keeps L) D.waits D.secs k hlt

      cases hkk : Dk.keeps L k with
      | false =>
        rw [hkk, if_neg (by simp)] at hlt2
        have HLT := Lib.hid hlt2
        rw [HKE.out, hkk] at cb
        clear hkk hlt2 hwt hat hx w0 w1
        go_wp2
        go_roundw
        case rel => exact ⟨k + 1, by omega, by omega, by go_num, by rw [HLT.out]; exact HK.out, HO.out⟩
        case measure => simp [intOf]; omega
      | true =>
        have HKT := Lib.hid hkk
        rw [HKE.out, hkk] at cb
        clear hkk d0 d1
        rw [if_pos HKT.out] at hlt2
        have HLT := Lib.hid hlt2
        have hth := HK.out.secs.there _ hat 0 (by omega)
        rw [show D.waits[k].1 * 1 + 0 = D.waits[k].1 by omega] at hth
        obtain ⟨cx, hcx⟩ := Option.isSome_iff_exists.1 hth.1
        have hcf := hth.2
        have hati : (D.waits[k].1 : Int) < ((Dk.laid (Dk.keeps L) (D.waits.take k) D.secs).length : Int) := by omega
        obtain ⟨d0, d1, _, _, _⟩ := ref_cells HK.out.blk
        have HCX := Lib.hid hcx
        have HCF := Lib.hid hcf
        clear hwt hat hlt2 hth hx hcx hcf
        generalize D.waits[k] = x at *
        obtain ⟨xa, xs⟩ := x
        dsimp only at w0 w1 hati HCX HCF

        go_wp2
        refine region_head 21 [0, 1, 2, 3, 4, 5, 6, 7, 8, 9, 10, 11, 12, 13, 14, 15, 16, 17, 18, 19, 20] [] (fun u => u.cell? ⟨g, 0, none⟩ = some (.slice (some ⟨gs, 0, none⟩) (Dk.laid (Dk.keeps L) (D.waits.take k) D.secs).length caps) ∧ u.cell? ⟨g, 1, none⟩ = some (.slice (some ⟨gw, 0, none⟩) D.waits.length capv) ∧ u.cell? ⟨gw, k * 2, none⟩ = some (.int .i64 (xa : Int)) ∧ u.cell? ⟨gw, k * 2 + 1, none⟩ = some (.string ⟨xs.toArray⟩)) (by kernel_rfl) (by kernel_rfl) ⟨d0, d1, w0, w1⟩ ?_
        clear d0 d1 w0 w1
        simp only [pickO, List.append_eq, List.cons_append, List.nil_append, List.filterMap_cons, List.filterMap_nil, List.getElem?_cons_zero, List.getElem?_cons_succ, Option.map_some, List.drop_succ_cons, List.drop_zero]
        iterate 21
          refine seqH_readG _ rfl (by rfl) (by rintro u ⟨hu1, hu2, hu3, hu4⟩; go_simp; with_reducible rfl) ?_
          try simp only [Act.put, List.setIfInBounds_toArray, List.set_cons_zero, List.set_cons_succ]
        refine seqH_nil ?_
        have hcx := HCX.out
        have hcf := HCF.out
        go_wp2
        go_roundw
        case rel =>
          have hput := (HK.out.below ((Below.refl _ _).drew)).putSec xa xs HAT.out HWT.out
          refine ⟨k + 1, by omega, by omega, by go_num, ?_, ?_⟩
          · rw [HLT.out]; exact hput.1
          · exact HO.out.trans ((Only.drew (S := S) _).trans hput.2 (fun _ _ h => h)) (fun _ _ h => h)
        case measure => simp [intOf]; omega

    · have df1 := df 1
      have df3 := df 3
      have hfin : Dk.laid (Dk.keeps L) (D.waits.take k) D.secs = Dk.laid (Dk.keeps L) D.waits D.secs := by
        by_cases hw : k < D.waits.length
        · obtain rfl : k = n := by omega
          exact (laid_stop (Dk.keeps L) k (fun j hj => by unfold Dk.keeps; rw [List.getD, List.getElem?_eq_none (by rw [HLN.out]; exact hj)]; rfl) _ _).symm
        · rw [List.take_of_length_le (by omega)]
      have HF := Lib.hid hfin
      clear hfin df
      by_cases hw : k < D.waits.length
      · obtain rfl : k = n := by omega
        have hwi : (k : Int) < (D.waits.length : Int) := by omega
        clear hgo
        go_wp2
        go_end0
        have hd := HK.out
        rw [HF.out] at hd
        refine ⟨rfl, S, ⟨_, _, (hd.noWaits (HOK.out.settle (Dk.keeps L))).setOff false⟩, ?_, fun i hi => .inl hi⟩
        exact HO.out.trans ((Only.setCell (S := S) _ _ _ hd.self).trans (Only.setCell (S := S) _ _ _ hd.self) (fun _ _ h => h)) (fun _ _ h => h)
      · obtain rfl : k = D.waits.length := by omega
        clear hgo hw
        go_wp2
        go_end0
        have hd := HK.out
        rw [HF.out] at hd
        refine ⟨rfl, S, ⟨_, _, (hd.noWaits (HOK.out.settle (Dk.keeps L))).setOff false⟩, ?_, fun i hi => .inl hi⟩
        exact HO.out.trans ((Only.setCell (S := S) _ _ _ hd.self).trans (Only.setCell (S := S) _ _ _ hd.self) (fun _ _ h => h)) (fun _ _ h => h)

end Go.Proofs.Ytinfgfgmijjhjaa
