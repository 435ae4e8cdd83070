/-
  Package limit: lists.
-/
import Derived.Test.YtklfoafbgniogaaLkC
namespace Go.Proofs.Ytklfoafbgniogaa
open Go.RowKit Go.Deep
set_option linter.unusedVariables false
set_option linter.unusedSimpArgs false
set_option maxRecDepth 100000

/-- a list, and where it lies -/
structure LvR where
  X : List Itm
  a : Option Addr
  n : Nat
  cap : Nat
deriving Inhabited
def lvC (r : LvR) : List Value := [.slice r.a r.n r.cap]
theorem lvC_one (r : LvR) : ∀ u ∈ lvC r, u.oneCell' = true := by
  intro u hu; simp only [lvC, List.mem_singleton] at hu; subst hu; rfl
theorem infoLv : (Try.prog.info? 55).map (fun i => (i.zero, i.size, i.bytes)) = some (some (.slice none 0 0), 1, 24) := by kernel_rfl
def LvAt (w0 w : World) (r : LvR) : Prop := Recs elmC w 68 2 (.slice r.a r.n r.cap) r.X ∧ ∀ k, (Value.slice r.a r.n r.cap).ownBlock = some k → w0.heap.size ≤ k
theorem LvAt.below {w0 w w' : World} {r : LvR} (h : LvAt w0 w r) (hb : Below w.heap.size w w') : LvAt w0 w' r := ⟨h.1.below hb, h.2⟩
theorem LvAt.came {w0 w : World} {r : LvR} (h : LvAt w0 w r) : ElmAt w r.a r.n r.cap r.X := h.1.came8 fun _ => rfl
/-- an append to the list of lists -/
theorem LvAt.appended {w0 w w' : World} {r : LvR} {v : Value} {Z : List LvR} (h : LvAt w0 w r) (ho : Recs lvC w 55 1 v Z) (hg : w.grownBy w' v.ownBlock) : LvAt w0 w' r :=
  ⟨h.1.keep fun k hk => hg.block k (h.1.lt k hk) fun e => by
    obtain ⟨cur, hc⟩ := ho.blk k e.symm
    exact h.1.ne_of hc (by decide) k hk rfl, h.2⟩
/-- lists that are handed out -/
def FreshLv (Ls : List (List Itm)) (w : World) (e : Ending) (w' : World) : Prop :=
  ∃ a n cap Z, e = .returned (.slice a n cap) ∧ OwnI lvC 55 1 w w' a n cap Z ∧ (∀ r ∈ Z, LvAt w w' r) ∧ Z.map (·.X) = Ls

theorem mrgI_mem : ∀ (C P : List Itm) (x : Itm), x ∈ mrgI C P → x ∈ C ∨ x ∈ P
  | [], P, x, h => by rw [mrgI_nil_left] at h; exact .inr h
  | y :: C, [], x, h => by rw [mrgI_nil_right] at h; exact .inl h
  | y :: C, p :: P, x, h => by
    rw [mrgI_cons] at h
    split at h
    · rcases List.mem_cons.1 h with rfl | h
      · exact .inl (by simp)
      · rcases mrgI_mem C (p :: P) x h with h | h
        · exact .inl (List.mem_cons_of_mem _ h)
        · exact .inr h
    · rcases List.mem_cons.1 h with rfl | h
      · exact .inr (by simp)
      · rcases mrgI_mem (y :: C) P x h with h | h
        · exact .inl h
        · exact .inr (List.mem_cons_of_mem _ h)
termination_by C P => C.length + P.length
theorem pairsI_mem : ∀ (L : List Itm) (x : Itm), x ∈ pairsI L → ∃ a ∈ L, ∃ b ∈ L, x = twoI a b
  | [], x, h => by simp [pairsI] at h
  | [_], x, h => by simp [pairsI] at h
  | a :: b :: r, x, h => by
    simp only [pairsI, List.mem_cons] at h
    rcases h with rfl | h
    · exact ⟨a, by simp, b, by simp, rfl⟩
    · obtain ⟨c, hc, d, hd, hx⟩ := pairsI_mem r x h
      exact ⟨c, by simp [hc], d, by simp [hd], hx⟩
theorem lvI_ms (C : List Itm) (hC : SortI C) (h1 : ∀ x ∈ C, x.ms.length = 1) : ∀ k, ∀ x ∈ lvI C k, 1 ≤ x.ms.length
  | 0, x, h => by have := h1 x h; omega
  | k + 1, x, h => by
    rw [lvI_mrg C hC] at h
    rcases mrgI_mem _ _ x h with h | h
    · have := h1 x h; omega
    · obtain ⟨a, ha, b, hb, rfl⟩ := pairsI_mem _ x h
      have := lvI_ms C hC h1 k a ha
      simp only [twoI, List.length_append]; omega
theorem lvI_len2 (C : List Itm) : ∀ k, (lvI C k).length ≤ 2 * C.length
  | 0 => by show C.length ≤ _; omega
  | k + 1 => by rw [lvI_len]; have := lvI_len2 C k; omega

set_option maxHeartbeats 8000000 in
theorem lkLists_any (ca : Option Addr) (cn cc : Nat) (C : List Itm) (m : Nat) (w : World) (hC : CnAt w ca cn cc C) (hn : cn ≤ 1000) (hm1 : 1 ≤ m) (hm : m ≤ 15) (h1 : ∀ x ∈ C, x.ms.length = 1) (hs : SortI C)
    (hb : ∀ k, k < m → ∀ x ∈ lvI C k, x.w ≤ 1125899906842624) :
    Calls Try.prog 18 #[.slice ca cn cc, .int .i64 (m : Int)] w (FreshLv ((List.range m).map (lvI C)) w) := by
  obtain ⟨i0, hi0, hz0, hz1, hz2⟩ := info_parts infoLv
  have hl : C.length = cn := hC.1
  have h1b : ∀ x ∈ C, pkdI x = false := fun x hx => by unfold pkdI; rw [h1 x hx]; rfl
  have HC := Lib.hid hC
  have CM := Lib.hid (fun u (hb : Below w.heap.size w u) pa pn pc P (hP : ElmAt u pa pn pc P) (hp : pn ≤ 1000000) => lkMerge_any ca cn cc C pa pn pc P u (CameAt.below hC (by omega) hb) hP (by omega) hp h1b)
  have HMS := Lib.hid (lvI_ms C hs h1)
  have HMG := Lib.hid (lvI_mrg C hs)
  have HBB := Lib.hid hb
  have HLN := Lib.hid (fun k => show (lvI C k).length ≤ 2000 by have := lvI_len2 C k; omega)
  clear hC h1 h1b hs hb hl
  go_enter Try.func18, Try.ntmps18
  go_wp2_with fail
  refine (CM.out w (Below.refl _ _) none 0 0 [] (CameAt.nil _ _ _) (by omega)).mono ?_
  rintro e w1 ⟨a1, n1, c1, rfl, hI1⟩
  rw [mrgI_nil_right] at hI1
  have HI1 := Lib.hid hI1
  have HB1 := Lib.hid hI1.2.2.2
  clear hI1
  have HR1 := Lib.hid (show OwnI lvC 55 1 w (w1.alloc (.cells #[.slice a1 n1 c1] 55)) (some ⟨w1.heap.size, 0, none⟩) 1 1 [⟨lvI C 0, a1, n1, c1⟩] from
    ⟨⟨fun _ _ => rfl, fun x _ => lvC_one x, rfl, .inr ⟨w1.heap.size, 1, #[.slice a1 n1 c1], rfl, Nat.zero_le _, heap_alloc_new w1 _, Nat.le_refl _, by unfold maxLen; omega, rfl, by simp [lvC]⟩⟩, rfl, fun k hk => by simp [Value.ownBlock] at hk; have := HB1.out.size; omega, HB1.out.alloc HB1.out.size _⟩)
  have HL1 := Lib.hid (show ∀ r ∈ [(⟨lvI C 0, a1, n1, c1⟩ : LvR)], LvAt w (w1.alloc (.cells #[.slice a1 n1 c1] 55)) r from fun r hr => by
    have : r = ⟨lvI C 0, a1, n1, c1⟩ := by simpa using hr
    subst this
    exact ⟨HI1.out.1.below ((Below.refl _ _).alloc (Nat.le_refl _) _), HI1.out.2.2.1⟩)
  have e1 : IntKind.i64.wrap ((m : Int) - 1) = (m : Int) - 1 := IntWalk.i64_in _ (by omega)
  go_wp2
  generalize w1.alloc (.cells #[.slice a1 n1 c1] 55) = w2 at *
  clear e1
  go_loopw [5, 11] (fun so sj wx => ∃ (j : Nat) (oa : Option Addr) (on oc : Nat) (Z : List LvR), on = j + 1 ∧ j + 1 ≤ m ∧ sj = .int .i64 (j : Int) ∧ so = .slice oa on oc ∧ OwnI lvC 55 1 w wx oa on oc Z ∧ (∀ r ∈ Z, LvAt w wx r) ∧ Z.map (·.X) = (List.range (j + 1)).map (lvI C)) (fun _ sj _ => m - (intOf sj).toNat)
  case atStart => exact ⟨0, _, 1, 1, _, rfl, hm1, rfl, rfl, HR1.out, HL1.out, rfl⟩
  case round =>
    obtain ⟨j, oa, on, oc, Z, hon, hj, rfl, rfl, ho, hz, hx⟩ := hrel
    rename World => wx
    have HO := Lib.hid ho
    have HZ := Lib.hid hz
    have HX := Lib.hid hx
    have HB := Lib.hid ho.2.2.2
    have HZL := Lib.hid ho.2.1
    have HON := Lib.hid hon
    have hon2 : on ≤ 15 := by omega
    clear ho hz hx HR1 HL1 HI1 HB1
    by_cases hlt : j + 1 < m
    · have hji : (j : Int) < (m : Int) - 1 := by omega
      obtain ⟨og, ocap, hv, _, _, hoglt⟩ := HO.out.1.form' (by rw [HZL.out]; omega)
      simp only [Value.slice.injEq] at hv
      obtain ⟨rfl, hv2, rfl⟩ := hv
      clear hv2
      have hzj : Z[j]? = some (Z.getD j default) := by rw [List.getD, List.getElem?_eq_getElem (by rw [HZL.out]; omega)]; rfl
      have x1 := HO.out.1.cellAt j 0 _ hzj (by omega)
      rw [Nat.mul_one, Nat.add_zero] at x1
      change World.cell? _ _ = some (.slice _ _ _) at x1
      have hr := HZ.out _ (List.mem_of_getElem? hzj)
      have hrx : (Z.getD j default).X = lvI C j := by
        have := congrArg (fun l => l[j]?) HX.out
        simp only [List.getElem?_map, hzj, List.getElem?_range (show j < j + 1 by omega), Option.map_some, Option.some.injEq] at this
        exact this
      generalize Z.getD j default = r at *
      obtain ⟨rX, ra, rn, rc⟩ := r
      simp only at hrx x1
      subst hrx
      have hrn : rn ≤ 2000 := by have := HLN.out j; rw [hr.came.1] at this; exact this
      have CP := Lib.hid (lkPackages_any ra rn rc (lvI C j) wx hr.came (by omega) (fun x hx => HBB.out j (by omega) x hx) (fun x hx => HMS.out j x hx))
      have e1 : IntKind.i64.wrap ((on : Int) - 1) = (j : Int) := by rw [IntWalk.i64_in _ (by omega)]; omega
      have hjon : (j : Int) < on := by omega
      have hj0 : (0 : Int) ≤ (j : Int) := by omega
      clear hzj hr hoglt hon
      go_wp2_with fail
      refine CP.out.mono ?_
      rintro e w3 ⟨pa, pn, pc, rfl, hP⟩
      clear e1 x1 CP
      have hpl : pn ≤ 1000 := by have h1 := hP.2.1; rw [pairsI_len] at h1; have := HLN.out j; omega
      have HO3 := Lib.hid (HO.out.below hP.2.2.2)
      have HB3 := Lib.hid HO3.out.2.2.2
      have HZ3 := Lib.hid (show ∀ r ∈ Z, LvAt w w3 r from fun r hr => (HZ.out r hr).below hP.2.2.2)
      have CMG := Lib.hid (CM.out w3 HB3.out pa pn pc (pairsI (lvI C j)) (hP.came fun _ => rfl) (by omega))
      clear hP
      go_wp2_with fail
      refine CMG.out.mono ?_
      rintro e w4 ⟨a4, n4, c4, rfl, hI4⟩
      rw [← HMG.out j] at hI4
      have HI4 := Lib.hid hI4
      have HO4 := Lib.hid (HO3.out.below hI4.2.2.2)
      have HB4 := Lib.hid HO4.out.2.2.2
      have HZ4 := Lib.hid (show ∀ r ∈ Z, LvAt w w4 r from fun r hr => (HZ3.out r hr).below hI4.2.2.2)
      have HN4 := Lib.hid (show LvAt w w4 ⟨lvI C (j + 1), a4, n4, c4⟩ from ⟨hI4.1, fun k hk => Nat.le_trans HB3.out.size (hI4.2.2.1 k hk)⟩)
      clear hI4 CMG
      have HONE := Lib.hid (one_rec (f := lvC) (x := ⟨lvI C (j + 1), a4, n4, c4⟩) (w := w4.alloc (.cells #[.slice a4 n4 c4] 55)) (B := w4.heap.size) (t := 55) (fr := (0, 0)) (heap_alloc_new w4 _))
      have HBA := Lib.hid ((Below.refl w4.heap.size w4).alloc (Nat.le_refl _) (.cells #[.slice a4 n4 c4] 55))
      have HRA := Lib.hid (HO4.out.1.below HBA.out)
      go_wp2_with (at_builtin; refine wpList_append_recs (f := lvC) rfl _ _ 42 rfl 55 i0 _ 1 24 Try.underlying42 hi0 hz0 hz1 hz2 rfl (by omega) _ Z rfl HRA.out ⟨w4.heap.size, 0, none⟩ 1 1 [⟨lvI C (j + 1), a4, n4, c4⟩] rfl rfl (fun _ _ => rfl) (fun z _ => lvC_one z) HONE.out (by rw [HZL.out]; unfold maxLen; omega) (by rw [HZL.out]; omega) ?_; intro v' w5 hr hg hbk; obtain ⟨a5, c5, hv, hI⟩ := OwnI.more HO4.out hr hg hbk; rw [show ([(⟨lvI C (j + 1), a4, n4, c4⟩ : LvR)] : List LvR).length = 1 from rfl] at hv hI; subst hv; have hkeep : ∀ r, LvAt w w4 r → LvAt w w5 r := (fun r hr => (hr.below HBA.out).appended HRA.out hg); have HI := Lib.hid hI; have HK := Lib.hid hkeep; clear hr hg hbk hI hkeep)
      go_roundw
      case rel => exact ⟨j + 1, _, on + 1, _, Z ++ [⟨lvI C (j + 1), a4, n4, c4⟩], by have := HON.out; omega, by omega, by go_num, rfl, HI.out, fun r hr => by
        rcases List.mem_append.1 hr with hr | hr
        · exact HK.out r (HZ4.out r hr)
        · have : r = ⟨lvI C (j + 1), a4, n4, c4⟩ := by simpa using hr
          rw [this]; exact HK.out _ HN4.out, by rw [List.map_append, HX.out, List.range_succ (n := j + 1), List.map_append]; rfl⟩
      case measure => simp [intOf]; omega
    · have hji : ¬ (j : Int) < (m : Int) - 1 := by omega
      have HJM := Lib.hid (show j + 1 = m by omega)
      clear hon
      go_wp2
      go_ret
      exact ⟨oa, on, oc, Z, rfl, HO.out, HZ.out, by rw [HX.out, HJM.out]⟩
end Go.Proofs.Ytklfoafbgniogaa
