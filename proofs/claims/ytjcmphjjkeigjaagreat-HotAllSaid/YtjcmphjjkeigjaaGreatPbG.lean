/-
  A piece of the proof, laid together by program: SpC HtRep SpD Inv SpT SpR Awake05 Open.
-/
import Derived.Test.YtjcmphjjkeigjaaGreatPbA
import Derived.Test.YtjcmphjjkeigjaaGreatPbB
import Derived.Test.YtjcmphjjkeigjaaGreatPbC
import Derived.Test.YtjcmphjjkeigjaaGreatPbE
import Derived.Test.YtjcmphjjkeigjaaGreatPbF
import Derived.Deep.LoopGhost
import Derived.RangeFuncNested
import Derived.RangeFuncBound
import Derived.RangeFuncCalls
import Derived.RangeFuncLeaves
import Derived.RangeFuncBox
import Derived.Maps.AppendAt
import Derived.Shelf.Abstract
import Derived.Shelf.RegionOpen
import Derived.OwnWalkIn
import Derived.TacticsInMore
import Derived.LoopNIn
import Derived.LoopIn
import Derived.OpenShut
import Derived.ChangeOld
import Derived.Deep.Slices
import Derived.Deep.Fields

namespace Go.Proofs.YtjcmphjjkeigjaaGreat
open Go.RowKit
set_option linter.unusedVariables false
set_option linter.unusedSimpArgs false
set_option maxRecDepth 100000

def intCS (z : Int) : List Value := [.int .i64 z]
/-- a slice of ints that came in -/
def IntsAt := CameAt intCS 1
theorem IntsAt.cell {w : World} {a : Option Addr} {n cap : Nat} {L : List Int} (h : IntsAt w a n cap L) (hn : 0 < n) :
    ∃ b off, a = some ⟨b, off, none⟩ ∧ b < w.heap.size ∧ ∀ i, i < n → w.cell? ⟨b, off + i, none⟩ = some (.int .i64 (L.getD i 0)) := by
  obtain ⟨b, off, h1, h2, h3⟩ := CameAt.at h hn (by omega)
  refine ⟨b, off, h1, h2, fun i hi => ?_⟩
  have hx : L[i]? = some (L.getD i 0) := by rw [List.getD, List.getElem?_eq_getElem (by have := h.1; omega)]; rfl
  have := h3 i 0 _ hx (by omega)
  simpa [intCS] using this

theorem turnF_len (st : Bool) (e : Int) : ∀ (L : List Int) (F F' : List Bool), (turnF st e F L).1 = some F' → F'.length = F.length
  | [], F, F', h => by simp [turnF] at h; rw [← h]
  | p :: L, F, F', h => by
    unfold turnF at h
    split at h
    · cases h
    · split at h
      · cases h
      · have := turnF_len st e L _ F' h
        simpa using this

theorem isused_out (N : Int) (p : Nat) (a : Option Addr) (n cap : Nat) (F : List Bool) (w : World) (hp : p < F.length) (hF : F.length ≤ 2048) (h : BytesAt w a n cap (packB F)) :
    Calls Tryz.prog 130 #[.agg (spV N a n cap), .int .i64 p] w fun e w' => e = .returned (.bool (F.getD p false)) ∧ Below w.heap.size w w' := by
  have := isused_any N p a n cap _ w (by omega) h (by have := h.1; rw [packB_length] at this; omega)
  rwa [packB_bit] at this

theorem turn_ok (N : Int) (a : Option Addr) (n cap : Nat) (F : List Bool) (la : Option Addr) (ln lcap : Nat) (L : List Int) (u : Bool) (e0 : Int) (w : World) (h : SpAt w N a n cap F) (hl : IntsAt w la ln lcap L) :
    Calls Tryz.prog 138 #[.agg (spV N a n cap), .slice la ln lcap, .bool u, .int .i64 e0] w
      (FreshSp (fun v => .tuple #[v, .int .i64 (turnF (!u) e0 F L).2]) ((turnF (!u) e0 F L).1.getD []) w) := by
  have hb0 : Below w.heap.size w ((w.alloc (.cells (spV N a n cap) 101)).alloc (.cells (spV 0 none 0 0) 101)) := ((Below.refl _ w).alloc (Nat.le_refl _) _).alloc (by simp) _
  have CM := Lib.hid ((h.below hb0).may)
  have HS := Lib.hid h
  have HL := Lib.hid hl
  have hln : L.length = ln := hl.1
  have hlm : ln ≤ 9223372036854775807 := by have := hl.2.1; have := hl.2.2.1; unfold maxLen at *; omega
  have HF := Lib.hid h.len
  have HN := Lib.hid h.num
  have HB := Lib.hid hb0
  have HLN := Lib.hid hln
  clear h hl hb0 hln
  unfold spV at CM HB
  unfold spV
  go_enter Tryz.func138, Tryz.ntmps138
  go_wp2_with fail
  refine (CM.out).mono ?_
  rintro e w1 ⟨rfl, hb1⟩
  have hx0 := (hb1.block w.heap.size (by simp; omega)).trans (heap_alloc2_old _ _ _)
  have hx := (hb1.block (w.heap.size + 1) (by simp)).trans (heap_alloc2_new _ _ _)
  have hs1 : w.heap.size + 2 ≤ w1.heap.size := Nat.le_trans (by simp) hb1.size
  have HB1 := Lib.hid (HB.out.trans (hb1.mono (by simp; omega)))
  obtain ⟨d0, d1⟩ := sp_cells hx0
  have CC := Lib.hid (clone_sp N a n cap F w1 (HS.out.below HB1.out))
  have HX0 := Lib.hid hx0
  have HX := Lib.hid hx
  clear hb1 hx0 hx CM
  go_wp2_with fail
  refine (CC.out).mono ?_
  rintro e w2 ⟨a2, n2, cap2, rfl, ho2, hb2⟩
  have hy0 := (hb2.block w.heap.size (by omega)).trans HX0.out
  have hy1 := (hb2.block (w.heap.size + 1) (by omega)).trans HX.out
  have HB2 := Lib.hid (HB1.out.trans (hb2.mono (by omega)))
  have hs2 : w.heap.size + 2 ≤ w2.heap.size := Nat.le_trans hs1 hb2.size
  have HO2 := Lib.hid (owned_low ho2 (show w.heap.size ≤ w1.heap.size by omega))
  have HY0 := Lib.hid hy0
  have HY1 := Lib.hid hy1
  clear ho2 hb2 hy0 hy1 CC HX0 HX d0 d1
  unfold spV
  go_wp2
  have hz0 := (Below.heap_alloc w2 (.cells (spV F.length a2 n2 cap2) 101) w.heap.size (by omega)).trans HY0.out
  have hz1 := (Below.heap_alloc w2 (.cells (spV F.length a2 n2 cap2) 101) (w.heap.size + 1) (by omega)).trans HY1.out
  obtain ⟨o, ho⟩ : ∃ o, o = w2.heap.size := ⟨_, rfl⟩
  have hz2 : (w2.alloc (.cells (spV F.length a2 n2 cap2) 101)).heap[o]? = some (.cells (spV F.length a2 n2 cap2) 101 (0, 0)) := by rw [ho]; exact heap_alloc_new w2 (.cells (spV F.length a2 n2 cap2) 101)
  have ho2 : w.heap.size + 2 ≤ o := by omega
  have HB3 := Lib.hid (HB2.out.alloc HB2.out.size (.cells (spV F.length a2 n2 cap2) 101))
  have HO3 := Lib.hid (owned_below HO2.out ((Below.refl w2.heap.size w2).alloc (Nat.le_refl _) (.cells (spV F.length a2 n2 cap2) 101)))
  have hs3 : o < (w2.alloc (.cells (spV F.length a2 n2 cap2) 101)).heap.size := by rw [ho]; simp
  have HZ0 := Lib.hid hz0
  have HZ1 := Lib.hid hz1
  have HZ2 := Lib.hid hz2
  clear hz0 hz1 hz2 HY0 HY1 HO2
  unfold spV at HB3 HO3 HZ0 HZ1 HZ2 hs3
  generalize hw3 : w2.alloc (.cells #[.int .i64 (F.length : Int), .slice a2 n2 cap2] 101) = w3 at *
  rw [← ho]
  clear hw3 ho hs2 HB2
  go_loopw [21] (fun i wr => ∃ (k : Nat) (G : List Bool), k ≤ ln ∧ i = .int .i64 k ∧ G.length = F.length ∧ turnF (!u) e0 F L = turnF (!u) e0 G (L.drop k) ∧
      wr.heap[w.heap.size]? = some (.cells (spV N a n cap) 101 (0, 0)) ∧ wr.heap[w.heap.size + 1]? = some (.cells (spV 0 none 0 0) 101 (0, 0)) ∧ wr.heap[o]? = some (.cells (spV F.length a2 n2 cap2) 101 (0, 0)) ∧
      wr.ownsRow w.heap.size 5 1 (.slice a2 n2 cap2) n2 (vals (packB G)) ∧ Below w.heap.size w wr) (fun i _ => ln - (intOf i).toNat)
  case atStart => exact ⟨0, F, Nat.zero_le _, rfl, rfl, rfl, HZ0.out, HZ1.out, HZ2.out, HO3.out, HB3.out⟩
  case round =>
    obtain ⟨k, G, hk, rfl, hG, hT, hb0, hb1, hb2, hrow, hbw⟩ := hrel
    obtain ⟨d0, d1⟩ := sp_cells hb0
    obtain ⟨e0_, e1_⟩ := sp_cells hb2
    have HG := Lib.hid hG
    have HT := Lib.hid hT
    have H0 := Lib.hid hb0
    have H1 := Lib.hid hb1
    have H2 := Lib.hid hb2
    have HR := Lib.hid hrow
    have HW := Lib.hid hbw
    clear hG hT hb0 hb1 hb2 hrow hbw
    by_cases hlt : k < ln
    · have hki : (k : Int) < ln := by omega
      obtain ⟨lb, loff, rfl, hlb, hlc⟩ := IntsAt.cell (CameAt.below HL.out (by omega) HW.out) (by omega)
      have hlk := hlc k hlt
      have hdrop : L.drop k = L.getD k 0 :: L.drop (k + 1) := by
        rw [List.drop_eq_getElem_cons (by rw [HLN.out]; exact hlt), List.getD, List.getElem?_eq_getElem (by rw [HLN.out]; exact hlt)]; rfl
      have ht := HT.out
      rw [hdrop] at ht
      clear hlc hdrop
      generalize L.getD k 0 = p at *
      have CH := Lib.hid (fun u => has_any N p a n cap u)
      by_cases hp : p < 0 ∨ (G.length : Int) ≤ p
      · have e1 : (decide (0 ≤ p) && decide (p < N)) = false := by
          rw [Bool.and_eq_false_iff, decide_eq_false_iff_not, decide_eq_false_iff_not]; have := HG.out; have := HN.out; omega
        rw [e1] at CH
        rw [turnF, if_pos hp] at ht
        have HTT := Lib.hid ht
        clear ht e1 hp
        unfold spV at CH
        go_wp2_with fail
        refine (CH.out _).mono ?_
        rintro e w4 ⟨rfl, hb4⟩
        have h1 := (hb4.block (w.heap.size + 1) (Array.getElem?_eq_some_iff.1 H1.out).1).trans H1.out
        go_wp2_with (refine wpList_store_row rfl _ _ _ rfl (w.heap.size + 1) (spV 0 none 0 0) rfl rfl 101 _ h1 sizeSp rfl (spV_one _ _ _ _) ?_)
        rw [HTT.out]
        exact bodyPost_ret (v := .tuple #[.agg (spV 0 none 0 0), .int .i64 4]) (results_cell_slot rfl _ _ (w.heap.size + 1) 101 (spV 0 none 0 0) (0, 0) _ _ rfl (heap_setRow_same _ _ _ _ _ h1) rfl Tryz.underlying101 rfl sizeSp) rfl ⟨none, 0, 0, rfl, World.ownsRow_nil _ _ _ _, below_setRow (HW.out.trans (hb4.mono HW.out.size)) (by omega) _⟩
      · obtain ⟨q, rfl⟩ : ∃ q : Nat, p = q := ⟨p.toNat, by omega⟩
        have hq : q < G.length := by omega
        have e1 : (decide (0 ≤ (q : Int)) && decide ((q : Int) < N)) = true := by simp; have := HG.out; have := HN.out; omega
        rw [e1] at CH
        rw [turnF, if_neg hp] at ht
        have hGl : G.length ≤ 2048 := by rw [HG.out]; exact HF.out
        clear e1 hp
        unfold spV at CH
        go_wp2_with fail
        refine (CH.out _).mono ?_
        rintro e w4 ⟨rfl, hb4⟩
        have h0 := (hb4.block w.heap.size (Array.getElem?_eq_some_iff.1 H0.out).1).trans H0.out
        have h1 := (hb4.block (w.heap.size + 1) (Array.getElem?_eq_some_iff.1 H1.out).1).trans H1.out
        have h2 := (hb4.block o (Array.getElem?_eq_some_iff.1 H2.out).1).trans H2.out
        obtain ⟨f0_, f1_⟩ := sp_cells h2
        have hr4 := owned_below HR.out hb4
        have hw4 := HW.out.trans (hb4.mono HW.out.size)
        have CU := Lib.hid (isused_out F.length q a2 n2 cap2 G w4 hq hGl (BytesAt.owned hr4))
        unfold spV at CU
        simp only [Int.toNat_natCast] at ht
        obtain ⟨r, hr⟩ : ∃ r, r = G.getD q false := ⟨_, rfl⟩
        rw [← hr] at CU ht
        have HRR := Lib.hid hr
        have HH0 := Lib.hid h0
        have HH1 := Lib.hid h1
        have HH2 := Lib.hid h2
        have HR4 := Lib.hid hr4
        have HW4 := Lib.hid hw4
        clear h0 h1 h2 hr4 hw4 d0 d1 hlk e0_ e1_ hlb hr
        by_cases hu : r = u
        · subst hu
          rw [if_pos (by cases r <;> simp)] at ht
          have HTT := Lib.hid ht
          have hrr : (r == r) = true := by simp
          clear ht
          go_wp2_with fail
          refine (CU.out).mono ?_
          rintro e w5 ⟨rfl, hb5⟩
          have h1 := (hb5.block (w.heap.size + 1) (Array.getElem?_eq_some_iff.1 HH1.out).1).trans HH1.out
          have hw5 := HW4.out.trans (hb5.mono HW4.out.size)
          go_wp2_with (refine wpList_store_row rfl _ _ _ rfl (w.heap.size + 1) (spV 0 none 0 0) rfl rfl 101 _ h1 sizeSp rfl (spV_one _ _ _ _) ?_)
          rw [HTT.out]
          exact bodyPost_ret (v := .tuple #[.agg (spV 0 none 0 0), .int .i64 e0]) (results_cell_slot rfl _ _ (w.heap.size + 1) 101 (spV 0 none 0 0) (0, 0) _ _ rfl (heap_setRow_same _ _ _ _ _ h1) rfl Tryz.underlying101 rfl sizeSp) rfl ⟨none, 0, 0, rfl, by rw [show vals (packB (((none : Option (List Bool)), e0).fst.getD [])) = [] from by simp [packB, vals]]; exact World.ownsRow_nil _ _ _ _, below_setRow hw5 (by omega) _⟩
        · obtain rfl : r = !u := by cases r <;> cases u <;> simp_all
          rw [if_neg (by simp)] at ht
          have HTT := Lib.hid ht
          have hrr : ((!u) == u) = false := by cases u <;> rfl
          clear ht hu
          obtain ⟨g2, rfl⟩ : ∃ g2, a2 = some ⟨g2, 0, none⟩ := by
            rcases HR4.out.2 with ⟨h', h0⟩ | ⟨g', cap', cur, h', _⟩
            · have := HR4.out.1; rw [vals_length, packB_length] at this; omega
            · simp only [Value.slice.injEq] at h'; exact ⟨g', h'.1⟩
          go_wp2_with fail
          refine (CU.out).mono ?_
          rintro e w5 ⟨rfl, hb5⟩
          have h0 := (hb5.block w.heap.size (Array.getElem?_eq_some_iff.1 HH0.out).1).trans HH0.out
          have h1 := (hb5.block (w.heap.size + 1) (Array.getElem?_eq_some_iff.1 HH1.out).1).trans HH1.out
          have h2 := (hb5.block o (Array.getElem?_eq_some_iff.1 HH2.out).1).trans HH2.out
          have hr5 := owned_below HR4.out hb5
          have hw5 := HW4.out.trans (hb5.mono HW4.out.size)
          have CF := Lib.hid (flip_any F.length q w.heap.size g2 n2 cap2 G w5 hq hGl hr5)
          rw [← HRR.out, Bool.not_not] at CF
          unfold spV at CF
          obtain ⟨f0, f1⟩ := sp_cells h2
          have hg0 := owned_ne hr5 h0 (by decide) g2 rfl
          have hg1 := owned_ne hr5 h1 (by decide) g2 rfl
          have hg2 := owned_ne hr5 h2 (by decide) g2 rfl
          have hg3 : w.heap.size ≤ g2 := (hr5.lt g2 rfl).1
          have HX0 := Lib.hid h0
          have HX1 := Lib.hid h1
          have HX2 := Lib.hid h2
          have HW5 := Lib.hid hw5
          clear h0 h1 h2 hr5 hw5
          go_wp2_with fail
          refine (CF.out).mono ?_
          rintro e w6 ⟨rfl, hr6, ho6⟩
          have h0 := (ho6.block w.heap.size (Array.getElem?_eq_some_iff.1 HX0.out).1 (fun e => hg0 e.symm)).trans HX0.out
          have h1 := (ho6.block (w.heap.size + 1) (Array.getElem?_eq_some_iff.1 HX1.out).1 (fun e => hg1 e.symm)).trans HX1.out
          have h2 := (ho6.block o (Array.getElem?_eq_some_iff.1 HX2.out).1 (fun e => hg2 e.symm)).trans HX2.out
          have hw6 := HW5.out.trans (ho6.below (B := w.heap.size) HW5.out.size (fun i hi e => by omega))
          have HX0' := Lib.hid h0
          have HX1' := Lib.hid h1
          have HX2' := Lib.hid h2
          have HW6 := Lib.hid hw6
          have HR6 := Lib.hid hr6
          clear h0 h1 h2 hr6 hw6 ho6
          go_wp2
          go_roundw
          case rel => exact ⟨k + 1, G.set q u, by omega, by go_num, by rw [List.length_set]; exact HG.out, by rw [HTT.out, Bool.not_not], HX0'.out, HX1'.out, HX2'.out, HR6.out, HW6.out⟩
          case measure => simp [intOf]; omega
    · obtain rfl : k = ln := by omega
      go_wp2_with (refine wpList_store_row rfl _ _ _ rfl (w.heap.size + 1) (spV F.length a2 n2 cap2) rfl rfl 101 _ H1.out sizeSp rfl (spV_one _ _ _ _) ?_)
      have ht := HT.out
      rw [List.drop_of_length_le (by rw [HLN.out]; omega)] at ht
      rw [ht]
      exact bodyPost_ret (v := .tuple #[.agg (spV F.length a2 n2 cap2), .int .i64 0]) (results_cell_slot rfl _ _ (w.heap.size + 1) 101 (spV F.length a2 n2 cap2) (0, 0) _ _ rfl (heap_setRow_same _ _ _ _ _ H1.out) rfl Tryz.underlying101 rfl sizeSp) rfl ⟨a2, n2, cap2, by rw [← HG.out]; rfl, owned_setRow HR.out H1.out (by decide), below_setRow HW.out (by omega) _⟩

theorem give_ok (N : Int) (a : Option Addr) (n cap : Nat) (F : List Bool) (la : Option Addr) (ln lcap : Nat) (L : List Int) (w : World) (h : SpAt w N a n cap F) (hl : IntsAt w la ln lcap L) :
    Calls Tryz.prog 96 #[.agg (spV N a n cap), .slice la ln lcap] w
      (FreshSp (fun v => .tuple #[v, .int .i64 (turnF true 6 F L).2]) ((turnF true 6 F L).1.getD []) w) := by
  have hb0 : Below w.heap.size w ((w.alloc (.cells (spV N a n cap) 101)).alloc (.cells (spV 0 none 0 0) 101)) := ((Below.refl _ w).alloc (Nat.le_refl _) _).alloc (by simp) _
  have CT := Lib.hid (turn_ok N a n cap F la ln lcap L false 6 _ (h.below hb0) (CameAt.below hl (by omega) hb0))
  have HB := Lib.hid hb0
  clear h hl hb0
  rw [Bool.not_false] at CT
  generalize turnF true 6 F L = T at *
  unfold spV at CT HB
  unfold spV
  go_enter Tryz.func96, Tryz.ntmps96
  go_wp2_with fail
  refine (CT.out).mono ?_
  rintro e w1 ⟨a1, n1, cap1, rfl, ho1, hb1⟩
  have hx := (hb1.block (w.heap.size + 1) (by simp)).trans (heap_alloc2_new _ _ _)
  have ho2 := owned_low ho1 (show w.heap.size ≤ _ by simp; omega)
  have hw1 := HB.out.trans (hb1.mono (by simp; omega))
  clear hb1 ho1
  unfold spV
  go_wp2_with (refine wpList_store_row rfl _ _ _ rfl (w.heap.size + 1) (spV (T.1.getD []).length a1 n1 cap1) rfl rfl 101 _ hx sizeSp rfl (spV_one _ _ _ _) ?_)
  exact bodyPost_ret (v := .tuple #[.agg (spV (T.1.getD []).length a1 n1 cap1), .int .i64 T.2]) (results_cell_slot rfl _ _ (w.heap.size + 1) 101 (spV (T.1.getD []).length a1 n1 cap1) (0, 0) _ _ rfl (heap_setRow_same _ _ _ _ _ hx) rfl Tryz.underlying101 rfl sizeSp) rfl ⟨a1, n1, cap1, rfl, owned_setRow ho2 hx (by decide), below_setRow hw1 (by omega) _⟩

theorem mark_ok (N : Int) (a : Option Addr) (n cap : Nat) (F : List Bool) (la : Option Addr) (ln lcap : Nat) (L : List Int) (w : World) (h : SpAt w N a n cap F) (hl : IntsAt w la ln lcap L) :
    Calls Tryz.prog 162 #[.agg (spV N a n cap), .slice la ln lcap] w
      (FreshSp (fun v => .tuple #[v, .int .i64 (turnF false 15 F L).2]) ((turnF false 15 F L).1.getD []) w) := by
  have hb0 : Below w.heap.size w ((w.alloc (.cells (spV N a n cap) 101)).alloc (.cells (spV 0 none 0 0) 101)) := ((Below.refl _ w).alloc (Nat.le_refl _) _).alloc (by simp) _
  have CT := Lib.hid (turn_ok N a n cap F la ln lcap L true 15 _ (h.below hb0) (CameAt.below hl (by omega) hb0))
  have HB := Lib.hid hb0
  clear h hl hb0
  rw [Bool.not_true] at CT
  generalize turnF false 15 F L = T at *
  unfold spV at CT HB
  unfold spV
  go_enter Tryz.func162, Tryz.ntmps162
  go_wp2_with fail
  refine (CT.out).mono ?_
  rintro e w1 ⟨a1, n1, cap1, rfl, ho1, hb1⟩
  have hx := (hb1.block (w.heap.size + 1) (by simp)).trans (heap_alloc2_new _ _ _)
  have ho2 := owned_low ho1 (show w.heap.size ≤ _ by simp; omega)
  have hw1 := HB.out.trans (hb1.mono (by simp; omega))
  clear hb1 ho1
  unfold spV
  go_wp2_with (refine wpList_store_row rfl _ _ _ rfl (w.heap.size + 1) (spV (T.1.getD []).length a1 n1 cap1) rfl rfl 101 _ hx sizeSp rfl (spV_one _ _ _ _) ?_)
  exact bodyPost_ret (v := .tuple #[.agg (spV (T.1.getD []).length a1 n1 cap1), .int .i64 T.2]) (results_cell_slot rfl _ _ (w.heap.size + 1) 101 (spV (T.1.getD []).length a1 n1 cap1) (0, 0) _ _ rfl (heap_setRow_same _ _ _ _ _ hx) rfl Tryz.underlying101 rfl sizeSp) rfl ⟨a1, n1, cap1, rfl, owned_setRow ho2 hx (by decide), below_setRow hw1 (by omega) _⟩

end Go.Proofs.YtjcmphjjkeigjaaGreat

namespace Go.Proofs.YtjcmphjjkeigjaaGreat
open Go.RowKit
set_option linter.unusedVariables false
set_option linter.unusedSimpArgs false

/-- a blob in memory: the slice of its pages -/
structure SpM where
  s : Spt
  a : Option Addr
  n : Nat
  cap : Nat
deriving Inhabited
def spotV (x : SpM) : Value := .agg #[.slice x.a x.n x.cap, .int .i64 (x.s.data.length : Nat), .int .u32 (x.s.sum : Nat)]
def mapL (M : List SpM) : List (Nat × Value) := M.map fun x => (x.s.key, spotV x)
def pagesI (l : List Nat) : List Int := l.map Int.ofNat

/-- the values that a store has, beside its disk; all that they have lies in U -/
structure HotV (w : World) (U : Nat → Prop) (mb : Nat) (da : Option Addr) (dn dc : Nat) (ba : Option Addr) (bn bc : Nat) (M : List SpM) (h : Ht) : Prop where
  at_ : MapAt w mb (mapL M)
  eq : M.map (·.s) = h.at_
  pages : ∀ x ∈ M, IntsAt w x.a x.n x.cap (pagesI x.s.pages)
  dir : IntsAt w da dn dc (pagesI h.dir)
  used : SpAt w h.used.length ba bn bc h.used
  lt : ∀ k, U k → k < w.heap.size
  inM : U mb
  inP : ∀ x ∈ M, ∀ p, x.a = some p → U p.block
  inD : ∀ p, da = some p → U p.block
  inB : ∀ p, ba = some p → U p.block

def hotC (gd mb : Nat) (da : Option Addr) (dn dc : Nat) (N : Nat) (ba : Option Addr) (bn bc : Nat) : Array Value :=
  #[.pointer (some ⟨gd, 0, none⟩), .map (some mb), .slice da dn dc, .int .i64 (N : Nat), .slice ba bn bc]

section
variable {w w' : World} {U V : Nat → Prop} {mb : Nat} {da : Option Addr} {dn dc : Nat} {ba : Option Addr} {bn bc : Nat} {M : List SpM} {h : Ht}
theorem HotV.keep (k : HotV w U mb da dn dc ba bn bc M h) (hs : w.heap.size ≤ w'.heap.size) (hk : ∀ q, U q → w'.heap[q]? = w.heap[q]?) : HotV w' U mb da dn dc ba bn bc M h :=
  ⟨k.at_.keep (hk mb k.inM), k.eq, fun x hx => (k.pages x hx).keep (by omega) fun p hp _ _ => hk _ (k.inP x hx p hp), k.dir.keep (by omega) fun p hp _ _ => hk _ (k.inD p hp),
    ⟨k.used.len, k.used.num, k.used.oct.keepB fun p hp => hk _ (k.inB p hp)⟩, fun q hq => Nat.lt_of_lt_of_le (k.lt q hq) hs, k.inM, k.inP, k.inD, k.inB⟩
theorem HotV.below (k : HotV w U mb da dn dc ba bn bc M h) (hb : Below w.heap.size w w') : HotV w' U mb da dn dc ba bn bc M h := k.keep hb.size fun q hq => hb.block q (k.lt q hq)
theorem HotV.only {S : Nat → Prop} (k : HotV w U mb da dn dc ba bn bc M h) (ho : Only S w w') (hS : ∀ q, U q → ¬ S q) : HotV w' U mb da dn dc ba bn bc M h := k.keep ho.size fun q hq => ho.block q (k.lt q hq) (hS q hq)
theorem HotV.more (k : HotV w U mb da dn dc ba bn bc M h) (hV : ∀ q, U q → V q) (hlt : ∀ q, V q → q < w.heap.size) : HotV w V mb da dn dc ba bn bc M h :=
  ⟨k.at_, k.eq, k.pages, k.dir, k.used, hlt, hV _ k.inM, fun x hx p hp => hV _ (k.inP x hx p hp), fun p hp => hV _ (k.inD p hp), fun p hp => hV _ (k.inB p hp)⟩
end

/-- the store at block g is h: its disk, at gd, is D and lies in S, all else that it has in U -/
structure HotAt (w : World) (S U : Nat → Prop) (g gd : Nat) (D : Dk) (h : Ht) : Prop where
  disk : DiskAt w S gd D
  ex : ∃ mb da dn dc ba bn bc M, w.heap[g]? = some (.cells (hotC gd mb da dn dc h.used.length ba bn bc) 103 (0, 0)) ∧ HotV w U mb da dn dc ba bn bc M h
  apart : ∀ k, U k → ¬ S k
  offS : ¬ S g
  offU : ¬ U g
  size : h.used.length + 42 = D.secs.length

section
variable {w w' : World} {S U : Nat → Prop} {g gd : Nat} {D : Dk} {h : Ht}
theorem HotAt.lt (k : HotAt w S U g gd D h) : g < w.heap.size := by
  obtain ⟨_, _, _, _, _, _, _, _, hg, _⟩ := k.ex
  exact (Array.getElem?_eq_some_iff.1 hg).1
theorem HotAt.below (k : HotAt w S U g gd D h) (hb : Below w.heap.size w w') : HotAt w' S U g gd D h := by
  obtain ⟨mb, da, dn, dc, ba, bn, bc, M, hg, hv⟩ := k.ex
  exact ⟨k.disk.below hb, ⟨mb, da, dn, dc, ba, bn, bc, M, (hb.block g k.lt).trans hg, hv.below hb⟩, k.apart, k.offS, k.offU, k.size⟩
/-- the cells of a store, as a walk wants them -/
theorem hot_cells {mb : Nat} {da : Option Addr} {dn dc N : Nat} {ba : Option Addr} {bn bc : Nat} (h : w.heap[g]? = some (.cells (hotC gd mb da dn dc N ba bn bc) 103 (0, 0))) :
    w.cell? ⟨g, 0, none⟩ = some (.pointer (some ⟨gd, 0, none⟩)) ∧ w.cell? ⟨g, 1, none⟩ = some (.map (some mb)) ∧ w.cell? ⟨g, 2, none⟩ = some (.slice da dn dc) ∧ w.cell? ⟨g, 3, none⟩ = some (.int .i64 (N : Nat)) ∧ w.cell? ⟨g, 4, none⟩ = some (.slice ba bn bc) ∧ ∀ i, w.frozen? ⟨g, i, none⟩ = false :=
  ⟨by rw [cell_of_row w g 0 _ _ _ h]; rfl, by rw [cell_of_row w g 1 _ _ _ h]; rfl, by rw [cell_of_row w g 2 _ _ _ h]; rfl, by rw [cell_of_row w g 3 _ _ _ h]; rfl, by rw [cell_of_row w g 4 _ _ _ h]; rfl, fun i => frozen_of_row w g i _ _ h⟩
end

theorem zeroSpot (w : World) : (zeroValue 126).run Tryz.prog w = .ok (.agg #[.slice none 0 0, .int .i64 0, .int .u32 0]) w := by kernel_rfl

/-! ### a blob by its key -/
theorem findV_map (M : List SpM) (k : Nat) : mfindV (mapL M) k = (M.find? fun x => x.s.key == k).map fun x => (x.s.key, spotV x) := by
  unfold mfindV mapL
  rw [List.find?_map]
  rfl
theorem hasV_map (M : List SpM) (k : Nat) : mhasV (mapL M) k = hasL (M.map (·.s)) k := by
  unfold mhasV mapL hasL
  rw [List.any_map, List.any_map]; rfl
theorem atL_map (M : List SpM) (k : Nat) : atL (M.map (·.s)) k = (M.find? fun x => x.s.key == k).map (·.s) := by
  unfold atL
  rw [List.find?_map]; rfl

def lenAt (l : List Spt) (k : Nat) : Nat := ((atL l k).map (·.data.length)).getD 0
def sumAt (l : List Spt) (k : Nat) : Nat := ((atL l k).map (·.sum)).getD 0
/-- what is found at a key, whether there is one or not -/
theorem HotV.found {w : World} {U : Nat → Prop} {mb : Nat} {da : Option Addr} {dn dc : Nat} {ba : Option Addr} {bn bc : Nat} {M : List SpM} {h : Ht} (k : HotV w U mb da dn dc ba bn bc M h) (q : Nat) (hq : q < 18446744073709551616) :
    ∃ fa fn fc, (Instr.lookup 99 (.map (some mb)) (.int .u64 q) true).run Tryz.prog w = .ok (.tuple #[.agg #[.slice fa fn fc, .int .i64 (lenAt h.at_ q : Nat), .int .u32 (sumAt h.at_ q : Nat)], .bool (hasL h.at_ q)]) w ∧
      (Instr.lookup 99 (.map (some mb)) (.int .u64 q) false).run Tryz.prog w = .ok (.agg #[.slice fa fn fc, .int .i64 (lenAt h.at_ q : Nat), .int .u32 (sumAt h.at_ q : Nat)]) w ∧
      IntsAt w fa fn fc (pagesI (pagesAt h.at_ q)) ∧ ∀ p, fa = some p → U p.block := by
  have h1 := k.at_.look_ok Tryz.underlying99 (zeroSpot w) q hq
  have h2 := k.at_.look Tryz.underlying99 (zeroSpot w) q hq
  rw [hasV_map, k.eq] at h1
  rw [findV_map] at h1 h2
  have ha : atL h.at_ q = (M.find? fun x => x.s.key == q).map (·.s) := by rw [← k.eq]; exact atL_map M q
  cases hf : M.find? (fun x => x.s.key == q) with
  | none =>
    rw [hf] at h1 h2 ha
    exact ⟨none, 0, 0, by simpa [lenAt, sumAt, ha] using h1, by simpa [lenAt, sumAt, ha] using h2, by simp only [pagesAt, ha]; exact CameAt.nil _ _ _, by simp⟩
  | some x =>
    rw [hf] at h1 h2 ha
    have hx := List.mem_of_find?_eq_some hf
    exact ⟨x.a, x.n, x.cap, by simpa [lenAt, sumAt, ha, spotV] using h1, by simpa [lenAt, sumAt, ha, spotV] using h2, by simp only [pagesAt, ha]; exact k.pages x hx, k.inP x hx⟩

end Go.Proofs.YtjcmphjjkeigjaaGreat

namespace Go.Proofs.YtjcmphjjkeigjaaGreat
open Go.RowKit Go.Shelf
set_option linter.unusedVariables false
set_option linter.unusedSimpArgs false
set_option maxRecDepth 100000
attribute [local go_sem] Oper.semAt_some

/-- what a round keeps: what lay below n₀, and one box -/
def KpS (n₀ Bs : Nat) (W W' : World) : Prop := Below n₀ W W' ∧ W'.heap[Bs]? = W.heap[Bs]?
theorem kps_t {n₀ Bs : Nat} {A B C : World} (h : KpS n₀ Bs A B) (k : KpS n₀ Bs B C) : KpS n₀ Bs A C := ⟨h.1.trans k.1, k.2.trans h.2⟩
theorem kps_b {n₀ Bs : Nat} {w : World} (hn : n₀ ≤ w.heap.size) (hB : Bs < w.heap.size) (W : World) (l : Nat) (o o' : Obj) (hl : w.heap.size ≤ l) (h : W.heap[l]? = some o) (h1 : o.isCells = false) (h2 : o.isWalk = false) : KpS n₀ Bs W (W.putObj l o') :=
  ⟨belowK_b (w := w) hn W l o o' hl h h1 h2, World.putObj_heap_other (by omega)⟩
theorem BytesAt.lt {w : World} {a : Option Addr} {n cap : Nat} {l : List UInt8} (h : BytesAt w a n cap l) (hn : 0 < n) : ∀ x, a = some x → x.block < w.heap.size := by
  intro x hx
  rcases h.2.2.2 with ⟨_, h0, _⟩ | ⟨y, hy, hc⟩
  · omega
  · rw [hx] at hy
    cases hy
    have := block_lt (hc 0 hn)
    rwa [add_block] at this
theorem BytesAt.belowN {w w' : World} {n₀ : Nat} {a : Option Addr} {n cap : Nat} {l : List UInt8} (h : BytesAt w a n cap l) (hlt : 0 < n → ∀ x, a = some x → x.block < n₀) (hb : Below n₀ w w') : BytesAt w' a n cap l := by
  obtain ⟨h1, h2, h3, h4⟩ := h
  refine ⟨h1, h2, h3, ?_⟩
  rcases h4 with h4 | ⟨x, rfl, hx⟩
  · exact .inl h4
  · refine .inr ⟨x, rfl, fun i hi => ?_⟩
    rw [hb.cell (by rw [add_block]; exact hlt (by omega) x rfl)]
    exact hx i hi

set_option maxHeartbeats 2000000 in
/-- the unused pages, one by one: for every loop body that keeps the space -/
theorem unused1_in (n : Nat) (hn : 1 ≤ n) (l Bs n₀ : Nat) (N : Int) (a : Option Addr) (sn cap : Nat) (F : List Bool) (J Jx : List (Fin F.length) → World → Prop)
    (hY : ∀ pre (x : Fin F.length) W, J pre W → pre.length < F.length → YieldAt Fence.wide (n - 1) Tryz.prog l #[.int .i64 (x.1 : Int)] W fun e W' =>
      (e = .returned (.bool true) ∧ J (pre ++ [x]) W' ∧ KpS n₀ Bs W W') ∨ (e = .returned (.bool false) ∧ Jx (pre ++ [x]) W'))
    (W : World) (hJ : AbidesFrom W.heap.size J) (hBs : W.heap[Bs]? = some (.cells (spV N a sn cap) 101 (0, 0))) (hS : SpAt W N a sn cap F) (hlt : 0 < sn → ∀ x, a = some x → x.block < n₀) (hn₀ : n₀ ≤ W.heap.size) (h0 : J [] W) :
    CallsIn Fence.wide n Tryz.prog 172 #[.func (.yield l) #[] #[], .pointer (some ⟨Bs, 0, none⟩)] W fun e W' => (∃ v, e = .returned v) ∧
      ((∃ ys : List (Fin F.length), ys.map (·.1) = frees F ∧ J ys W') ∨ (∃ pre : List (Fin F.length), pre.map (·.1) <+: frees F ∧ Jx pre W')) := by
  have hnum := hS.num
  subst hnum
  have HY := Lib.hid hY
  have HS := Lib.hid hS
  have HL := Lib.hid hlt
  have HF := Lib.hid hS.len
  have HJ := Lib.hid hJ
  have hW0 := hBs
  obtain ⟨d0, d1⟩ := sp_cells hBs
  clear hY hS hlt hJ
  have f34 : Fence.wide.fn 172 := trivial
  refine callsIn_of_wp Tryz.func172 rfl f34 ?_ rfl
  simp only [Tryz.ntmps172, List.size_toArray, List.length_cons, List.length_nil, Nat.reduceAdd, Nat.reduceSub, Array.replicate_succ, Array.replicate_zero, List.push_toArray, List.append_toArray, List.nil_append, List.cons_append]
  gi_wp2
  gi_loopw [6] (fun i wr => ∃ (k : Nat) (pre : List (Fin F.length)), k ≤ F.length ∧ i = .int .i64 (k : Int) ∧ pre.map (·.1) = freeB F k ∧ J pre wr ∧ Below n₀ W wr ∧ wr.heap[Bs]? = W.heap[Bs]? ∧ W.heap.size ≤ wr.heap.size)
    (fun i _ => F.length - (intOf i).toNat)
  case atStart => exact ⟨0, [], Nat.zero_le _, rfl, rfl, h0, Below.refl _ _, rfl, Nat.le_refl _⟩
  case round =>
    obtain ⟨k, pre, hk, rfl, hpre, hJs, hb, hbx, hsz⟩ := hrel
    have HP := Lib.hid hpre
    have HB := Lib.hid hb
    have hbx2 := hbx.trans hW0
    obtain ⟨e0, e1⟩ := sp_cells hbx2
    have HX := Lib.hid hbx2
    clear hpre hb hbx hbx2
    by_cases hlt : k < F.length
    · have hki : (k : Int) < F.length := by omega
      have hk2 : k < 2048 := by have := HF.out; omega
      have CU := Lib.hid (fun n' => (callsIn_wide (n := n')).2 (isused_out F.length k a sn cap F wr hlt HF.out (HS.out.oct.belowN HL.out HB.out)))
      unfold spV at CU
      have hks := freeB_succ F k
      cases hr : F.getD k false with
      | true =>
        rw [hr] at CU hks
        rw [if_pos rfl, List.append_nil] at hks
        have HKS := Lib.hid hks
        clear hr hks
        gi_wp2_with (refine ⟨trivial, ?_⟩; gi_at_call 130; refine (CU.out _).mono ?_; rintro e w2 ⟨rfl, hb2⟩)
        refine ⟨fun _ h => (by cases h), ?_⟩
        gi_wp2
        go_roundw
        case rel => exact ⟨k + 1, pre, by omega, by go_num, by rw [HP.out, HKS.out], HJ.out pre wr w2 none hJs (grown_below hb2) (fun r e => by cases e), HB.out.trans (hb2.mono (by omega)), (hb2.block Bs (Array.getElem?_eq_some_iff.1 HX.out).1).trans (HX.out.trans hW0.symm), Nat.le_trans hsz hb2.size⟩
        case measure => simp [intOf]; omega
      | false =>
        rw [hr] at CU hks
        rw [if_neg (by simp)] at hks
        have HKS := Lib.hid hks
        clear hr hks
        gi_wp2_with (refine ⟨trivial, ?_⟩; gi_at_call 130; refine (CU.out _).mono ?_; rintro e w2 ⟨rfl, hb2⟩; obtain ⟨fn, tmps, assign, body, hy, hRn⟩ := HY.out pre ⟨k, hlt⟩ w2 (HJ.out pre wr w2 none hJs (grown_below hb2) (fun r e => by cases e)) (by have h1 := congrArg List.length HP.out; rw [List.length_map] at h1; have := freeB_len F k; omega))
        refine hRn.mono ?_
        rintro e W3 (⟨rfl, hJ3, hk3⟩ | ⟨rfl, hJx3⟩)
        · have hs3 : W.heap.size ≤ W3.heap.size := Nat.le_trans hsz (Nat.le_trans hb2.size hk3.1.size)
          gi_wp2
          go_roundw
          case rel => exact ⟨k + 1, pre ++ [⟨k, hlt⟩], by omega, by go_num, by rw [List.map_append, HP.out, HKS.out]; rfl, hJ3, (HB.out.trans (hb2.mono (by omega))).trans hk3.1, hk3.2.trans ((hb2.block Bs (Array.getElem?_eq_some_iff.1 HX.out).1).trans (HX.out.trans hW0.symm)), hs3⟩
          case measure => simp [intOf]; omega
        · gi_wp2
          refine bodyPost_ret (results_none rfl _ _ _) rfl ?_
          refine ⟨⟨_, rfl⟩, .inr ⟨_, ?_, hJx3⟩⟩
          rw [List.map_append, HP.out]
          have := freeB_prefix F (show k + 1 ≤ F.length by omega)
          rw [HKS.out] at this
          exact this
    · obtain rfl : k = F.length := by omega
      gi_wp2
      go_end0
      exact ⟨⟨_, rfl⟩, .inl ⟨pre, HP.out, hJs⟩⟩

theorem unused_in (n : Nat) (N : Int) (a : Option Addr) (sn cap : Nat) (w : World) :
    CallsIn Fence.wide n Tryz.prog 136 #[.agg (spV N a sn cap)] w fun e w' => e = .returned (.func (.func 172) #[] #[.pointer (some ⟨w.heap.size, 0, none⟩)]) ∧ w' = w.alloc (.cells (spV N a sn cap) 101) := by
  have f28 : Fence.wide.fn 136 := trivial
  unfold spV
  refine callsIn_of_wp Tryz.func136 rfl f28 ?_ rfl
  simp only [Tryz.ntmps136, List.size_toArray, List.length_cons, List.length_nil, Nat.reduceAdd, Nat.reduceSub, Array.replicate_succ, Array.replicate_zero, List.push_toArray, List.append_toArray, List.nil_append, List.cons_append]
  gi_wp2
  go_ret
  exact ⟨rfl, rfl⟩

theorem unused_stops (n : Nat) (hn : 1 ≤ n) (Bs n₀ : Nat) (N : Int) (a : Option Addr) (sn cap : Nat) (F : List Bool) (w : World) (hBs : w.heap[Bs]? = some (.cells (spV N a sn cap) 101 (0, 0)))
    (hS : SpAt w N a sn cap F) (hlt : 0 < sn → ∀ x, a = some x → x.block < n₀) (hn₀ : n₀ ≤ w.heap.size) :
    SeqStopsK Fence.wide n Tryz.prog 172 #[.pointer (some ⟨Bs, 0, none⟩)] (fun x : Fin F.length => #[.int .i64 (x.1 : Int)]) (KpS n₀ Bs)
      (fun ys => ys.map (·.1) = frees F) (fun pre => pre.map (·.1) <+: frees F) F.length w := fun l J Jx W hW hJ _ hY h0 =>
  unused1_in n hn l Bs n₀ N a sn cap F J Jx hY W hJ ((hW.block Bs (Array.getElem?_eq_some_iff.1 hBs).1).trans hBs) (hS.below hW) hlt (Nat.le_trans hn₀ hW.size) h0

theorem infoIntS : (Tryz.prog.info? 3).map (fun i => (i.zero, i.size, i.bytes)) = some (some (.int .i64 0), 1, 8) := by kernel_rfl
def ivals (P : List Nat) : List Value := P.map fun (p : Nat) => .int .i64 (p : Int)

end Go.Proofs.YtjcmphjjkeigjaaGreat

namespace Go.Proofs.YtjcmphjjkeigjaaGreat
open Go.RowKit
set_option linter.unusedVariables false
set_option linter.unusedSimpArgs false

section
variable {P : Program} {Q : Exit → Act → World → Prop}

/-- all lists of so many truth values -/
def allB : Nat → List (List Bool)
  | 0 => [[]]
  | n + 1 => (allB n).flatMap fun l => [false :: l, true :: l]
theorem mem_allB : ∀ l : List Bool, l ∈ allB l.length
  | [] => by simp [allB]
  | b :: l => by
    have := mem_allB l
    simp only [List.length_cons, allB, List.mem_flatMap]
    exact ⟨l, this, by cases b <;> simp⟩
/-- whatever has been done, something may be done next, but when all is -/
def goesB (ops : Array Oper) : Bool := (allB ops.size).all fun l => l.all (· = true) || !(Region.ready .any ops l.toArray).isEmpty

/-- one step: the operation, with what it waits for -/
def stepI (P : Program) (l : List Oper) (Q : Exit → Act → World → Prop) (Inv : (Nat → Bool) → Act → World → Prop) (i : Nat) (o : Oper) : Prop :=
  ∀ s a w, s i = false → (o.after.toList.all fun e => !Region.binds .any e || s e.on) = true → Inv s a w →
    ∀ K : Act → World → Prop, (∀ a' w', Inv (fun j => if j = i then true else s j) a' w' → K a' w') → if Region.wanted o (yielded l.toArray a.tmps) = true then o.wp P a w K Q else K (a.put o.dst undef) w
def stepsI (P : Program) (l : List Oper) (Q : Exit → Act → World → Prop) (Inv : (Nat → Bool) → Act → World → Prop) : Nat → List Oper → Prop
  | _, [] => True
  | i, o :: r => stepI P l Q Inv i o ∧ stepsI P l Q Inv (i + 1) r
theorem stepsI_at {l : List Oper} {Inv : (Nat → Bool) → Act → World → Prop} : ∀ (r : List Oper) (i j : Nat) (o : Oper), stepsI P l Q Inv i r → r[j]? = some o → stepI P l Q Inv (i + j) o
  | [], _, _, _, _, h => by simp at h
  | x :: r, i, 0, o, hs, h => by
    simp only [List.getElem?_cons_zero, Option.some.injEq] at h
    subst h; exact hs.1
  | x :: r, i, j + 1, o, hs, h => by
    have := stepsI_at r (i + 1) j o hs.2 (by simpa using h)
    rwa [show i + 1 + j = i + (j + 1) by omega] at this

theorem count_set {x : Array Bool} {i : Nat} (h : x[i]? = some false) : (x.setIfInBounds i true).count false + 1 = x.count false := by
  have hi := (Array.getElem?_eq_some_iff.1 h).1
  have hx : x[i] = false := (Array.getElem?_eq_some_iff.1 h).2
  rw [Array.setIfInBounds, dif_pos hi, Array.count_set, hx]
  have : 0 < x.count false := Array.count_pos_iff.2 (by rw [← hx]; exact Array.getElem_mem hi)
  simp
  omega

theorem wpAny_inv {l : List Oper} (Inv : (Nat → Bool) → Act → World → Prop) (hs : stepsI P l Q Inv 0 l) (hend : ∀ s a w, (∀ i, i < l.length → s i = true) → Inv s a w → Q .normal a w) (hg : goesB l.toArray = true) :
    ∀ (f : Nat) (listed : Array Bool) (a : Act) (w : World), listed.size = l.length → listed.count false = f → Inv (fun j => listed.getD j false) a w → wpAny P .any l.toArray Q f listed a w := by
  have key : ∀ (listed : Array Bool) (a : Act) (w : World), listed.size = l.length → Inv (fun j => listed.getD j false) a w → Region.ready .any l.toArray listed = [] → Q .normal a w := by
    intro listed a w hl hI hr
    have h1 := List.all_eq_true.1 hg listed.toList (by have := mem_allB listed.toList; rwa [Array.length_toList, hl] at this)
    rw [Array.toArray_toList, hr] at h1
    simp only [List.isEmpty_nil, Bool.not_true, Bool.or_false, List.all_eq_true, decide_eq_true_eq] at h1
    refine hend _ a w (fun i hi => ?_) hI
    have hil : i < listed.size := by omega
    show listed.getD i false = true
    rw [Array.getD, dif_pos hil]
    exact h1 _ (by simp)
  intro f
  induction f with
  | zero =>
    intro listed a w hl hc hI
    have hr : Region.ready .any l.toArray listed = [] := by
      apply List.eq_nil_iff_forall_not_mem.2
      intro j hj
      obtain ⟨h1, o, ho, _⟩ := mem_ready.1 hj
      have hjl : j < listed.size := by have := (Array.getElem?_eq_some_iff.1 ho).1; simp at this; omega
      rw [Array.getD, dif_pos hjl] at h1
      have : 0 < listed.count false := Array.count_pos_iff.2 (by rw [← h1]; exact Array.getElem_mem hjl)
      omega
    exact ⟨hr, key listed a w hl hI hr⟩
  | succ f ih =>
    intro listed a w hl hc hI
    refine ⟨key listed a w hl hI, fun i hi => ?_⟩
    obtain ⟨h1, o, ho, hd⟩ := mem_ready.1 hi
    have hil : i < listed.size := by have := (Array.getElem?_eq_some_iff.1 ho).1; simp at this; omega
    rw [Array.getD, dif_pos hil] at h1
    have hol : l[i]? = some o := by simpa using ho
    have hst := stepsI_at l 0 i o hs hol
    rw [Nat.zero_add] at hst
    have hcs := count_set (x := listed) (i := i) (by rw [Array.getElem?_eq_getElem hil]; exact congrArg some h1)
    have hfun : (fun j => if j = i then true else listed.getD j false) = fun j => (listed.setIfInBounds i true).getD j false := by
      funext j
      by_cases hj : j = i
      · subst hj
        rw [if_pos rfl, Array.getD, dif_pos (by simpa using hil)]
        simp
      · rw [if_neg hj]
        simp only [Array.getD_eq_getD_getElem?, Array.getElem?_setIfInBounds]
        rw [if_neg (fun e => hj e.symm)]
    have hpre := hst (fun j => listed.getD j false) a w (by show listed.getD i false = false; rw [Array.getD, dif_pos hil]; exact h1) (by
      rw [List.all_eq_true]
      intro e he
      by_cases hb : Region.binds .any e = true
      · rw [hd e (by simpa using he) hb]; simp
      · simp [hb]) hI (fun a' w' => wpAny P .any l.toArray Q f (listed.setIfInBounds i true) a' w') (fun a' w' h => ih _ a' w' (by simpa using hl) (by omega) (by rw [hfun] at h; exact h))
    unfold wpOp
    rw [ho]
    simp only
    by_cases hw : Region.wanted o (yielded l.toArray a.tmps) = true
    · rw [if_pos hw] at hpre ⊢
      exact .inl hpre
    · rw [if_neg hw] at hpre ⊢
      exact hpre

theorem region_inv {id : Nat} {a : Act} {w : World} {l : List Oper} (Inv : (Nat → Bool) → Act → World → Prop) (hm : P.follows .mixedOrders = true) (hg : goesB l.toArray = true)
    (h0 : Inv (fun _ => false) a w.drew) (hs : stepsI P l Q Inv 0 l) (hend : ∀ s a w, (∀ i, i < l.length → s i = true) → Inv s a w → Q .normal a w) : (Code.region id l.toArray true).wp P Q a w := by
  refine wp_region_any hm ?_
  have hf : (fun j => (Array.replicate l.toArray.size false).getD j false) = fun _ => false := by
    funext j
    simp only [Array.getD_eq_getD_getElem?, Array.getElem?_replicate]
    split <;> rfl
  exact wpAny_inv Inv hs hend hg _ _ _ _ (by simp) (by simp) (by rw [hf]; exact h0)
theorem wp_store_row {o : Oper} {a : Act} {w : World} {K : Act → World → Prop} (ty : TypeId) (x y : Operand) (ho : o.op = .store ty x y)
    (g : Nat) (cells : Array Value) (hx : a.eval x = .pointer (some ⟨g, 0, none⟩)) (hy : a.eval y = .agg cells)
    (t : TypeId) (old : Array Value) (hg : w.heap[g]? = some (.cells old t (0, 0))) (hi : (P.info? ty).map (·.size) = some cells.size)
    (hold : old.size = cells.size) (h1 : cells.all (·.oneCell') = true)
    (h : K (a.put o.dst undef) (w.setRow g cells)) : o.wp P a w K Q := by
  unfold Oper.wp
  simp only [execOp, ho, hx, hy, Instr.storeAt, Instr.sureAddr, Sem.run_bind, Sem.run_pure, Result.andThen_ok, run_storeVar_row w g t ty old cells hg hi hold h1]
  exact h
end

end Go.Proofs.YtjcmphjjkeigjaaGreat

namespace Go.Proofs.YtjcmphjjkeigjaaGreat
open Go.RowKit Go.Shelf
attribute [local go_sem] Oper.semAt_some
set_option linter.unusedVariables false
set_option linter.unusedSimpArgs false
set_option maxRecDepth 100000

/-- what Take answers, in new memory -/
def TakeTo (r : List Bool × List Nat × Int) (w : World) (e : Ending) (w' : World) : Prop :=
  ∃ a n cap a' cap', e = .returned (.tuple #[.agg (spV r.1.length a n cap), .slice a' r.2.1.length cap', .int .i64 r.2.2]) ∧
    w'.ownsRow w.heap.size 5 1 (.slice a n cap) n (vals (packB r.1)) ∧ w'.ownsRow w.heap.size 3 1 (.slice a' r.2.1.length cap') r.2.1.length (ivals r.2.1) ∧ Below w.heap.size w w'

theorem wpListIn_store_rowS {F : Fence} {n : Nat} {P : Program} {ops : Array Oper} {rest : List Oper} {o : Oper} {a : Act} {w : World} {Q : Exit → Act → World → Prop} (hgd : o.guard = none) (ty : TypeId) (x y : Operand) (ho : o.op = .store ty x y)
    (g : Nat) (cells : Array Value) (hx : a.eval x = .pointer (some ⟨g, 0, none⟩)) (hy : a.eval y = .agg cells)
    (t : TypeId) (old : Array Value) (hg : w.heap[g]? = some (.cells old t (0, 0))) (hi : (P.info? ty).map (·.size) = some cells.size)
    (hold : old.size = cells.size) (h1 : cells.all (·.oneCell') = true)
    (h : wpListIn F n P ops Q rest (a.put o.dst undef) (w.setRow g cells)) : wpListIn F n P ops Q (o :: rest) a w := by
  refine wpListIn_plain hgd fun K hK => ?_
  unfold Oper.wpIn
  refine ⟨by simp [Oper.about, ho], ?_⟩
  rw [Oper.semAt_plain F _ _ (by rw [ho]; intro c hc'; cases hc')]
  simp only [execOp, ho, hx, hy, Instr.storeAt, Instr.sureAddr, Sem.run_bind, Sem.run_pure, Result.andThen_ok, run_storeVar_row w g t ty old cells hg hi hold h1]
  exact hK _ _ h

/-- the three boxes -/
def boxes3 (N k : Int) (a : Option Addr) (n cap : Nat) (w : World) : World := ((w.alloc (.cells (spV N a n cap) 101)).alloc (.cells #[.int .i64 k] 3)).alloc (.cells (spV 0 none 0 0) 101)
structure Three (N k : Int) (a : Option Addr) (n cap : Nat) (w u : World) : Prop where
  b0 : u.heap[w.heap.size]? = some (.cells (spV N a n cap) 101 (0, 0))
  b1 : u.heap[w.heap.size + 1]? = some (.cells #[.int .i64 k] 3 (0, 0))
  b2 : u.heap[w.heap.size + 2]? = some (.cells (spV 0 none 0 0) 101 (0, 0))
  sz : w.heap.size + 3 ≤ u.heap.size
  bel : Below w.heap.size w u
theorem Three.start (N k : Int) (a : Option Addr) (n cap : Nat) (w : World) : Three N k a n cap w (boxes3 N k a n cap w) := by
  refine ⟨?_, ?_, ?_, by simp [boxes3], ((((Below.refl _ w).alloc (Nat.le_refl _) _).alloc (by simp) _).alloc (by simp; omega) _)⟩
  · exact (Below.heap_alloc _ _ _ (by simp; omega)).trans (heap_alloc2_old _ _ _)
  · exact (Below.heap_alloc _ _ _ (by simp)).trans (heap_alloc2_new _ _ _)
  · have := heap_alloc_new ((w.alloc (.cells (spV N a n cap) 101)).alloc (.cells #[.int .i64 k] 3)) (.cells (spV 0 none 0 0) 101)
    simpa [boxes3] using this
theorem Three.below {N k : Int} {a : Option Addr} {n cap : Nat} {w u u' : World} (h : Three N k a n cap w u) (hb : Below u.heap.size u u') : Three N k a n cap w u' :=
  ⟨(hb.block _ (by have := h.sz; omega)).trans h.b0, (hb.block _ (by have := h.sz; omega)).trans h.b1, (hb.block _ (by have := h.sz; omega)).trans h.b2, Nat.le_trans h.sz hb.size, h.bel.trans (hb.mono (by have := h.sz; omega))⟩
theorem Three.cells {N k : Int} {a : Option Addr} {n cap : Nat} {w u : World} (h : Three N k a n cap w u) :
    u.cell? ⟨w.heap.size, 0, none⟩ = some (.int .i64 N) ∧ u.cell? ⟨w.heap.size, 1, none⟩ = some (.slice a n cap) ∧ u.cell? ⟨w.heap.size + 1, 0, none⟩ = some (.int .i64 k) :=
  ⟨(sp_cells h.b0).1, (sp_cells h.b0).2, by rw [cell_of_row _ _ _ _ _ _ h.b1]; rfl⟩

/-! ### what has been made of region 5's four new things, whichever came first -/
def I1 (B : Nat) (F : List Bool) (u : World) (x : Value) : Prop := ∃ ac nc cc, x = .agg (spV F.length ac nc cc) ∧ u.ownsRow B 5 1 (.slice ac nc cc) nc (vals (packB F))
def I3 (B M : Nat) (u : World) (x : Value) : Prop := ∃ g, x = .slice (some ⟨g, 0, none⟩) 0 M ∧ u.ownsRow B 3 1 (.slice (some ⟨g, 0, none⟩) 0 M) 0 []
def I4 (B : Nat) (u : World) (x y : Value) (b : Bool) : Prop := ∃ g c, x = .pointer (some ⟨g, 0, none⟩) ∧ B ≤ g ∧ u.heap[g]? = some (.cells c 101 (0, 0)) ∧ c.size = 2 ∧ (b = true → y = .agg c)
def I5 (B : Nat) (u : World) (x y : Value) (b : Bool) : Prop := ∃ g c, x = .pointer (some ⟨g, 0, none⟩) ∧ B ≤ g ∧ u.heap[g]? = some (.cells #[c] 78 (0, 0)) ∧ (b = true → y = c)
section
variable {B M : Nat} {F : List Bool} {u u' : World} {x y : Value} {b : Bool}
theorem I1.below (h : I1 B F u x) (hb : Below u.heap.size u u') : I1 B F u' x := by
  obtain ⟨ac, nc, cc, e, ho⟩ := h
  exact ⟨ac, nc, cc, e, owned_below ho hb⟩
theorem I3.below (h : I3 B M u x) (hb : Below u.heap.size u u') : I3 B M u' x := by
  obtain ⟨g, e, ho⟩ := h
  exact ⟨g, e, owned_below ho hb⟩
theorem I4.below (h : I4 B u x y b) (hb : Below u.heap.size u u') : I4 B u' x y b := by
  obtain ⟨g, c, e, h1, h2, h3⟩ := h
  exact ⟨g, c, e, h1, (hb.block g (Array.getElem?_eq_some_iff.1 h2).1).trans h2, h3⟩
theorem I4.other {z : Value} (h : I4 B u x y b) (hb : b = false) : I4 B u x z b := by
  obtain ⟨g, c, e, h1, h2, h3, h4⟩ := h
  exact ⟨g, c, e, h1, h2, h3, fun h => by rw [hb] at h; cases h⟩
theorem I5.other {z : Value} (h : I5 B u x y b) (hb : b = false) : I5 B u x z b := by
  obtain ⟨g, c, e, h1, h2, h3⟩ := h
  exact ⟨g, c, e, h1, h2, fun h => by rw [hb] at h; cases h⟩
theorem I5.below (h : I5 B u x y b) (hb : Below u.heap.size u u') : I5 B u' x y b := by
  obtain ⟨g, c, e, h1, h2, h3⟩ := h
  exact ⟨g, c, e, h1, (hb.block g (Array.getElem?_eq_some_iff.1 h2).1).trans h2, h3⟩
end

theorem flipF_len (P : List Nat) : ∀ F : List Bool, (flipF F P).length = F.length := by
  induction P with
  | nil => intro F; rfl
  | cons p P ih => intro F; show (flipF (F.set p _) P).length = _; rw [ih, List.length_set]
theorem flipF_snoc (F : List Bool) (P : List Nat) (p : Nat) : flipF F (P ++ [p]) = (flipF F P).set p (!(flipF F P).getD p false) := by simp [flipF, List.foldl_append]

/-- between two rounds of Take's loop -/
structure TkI (w : World) (B Bs M g4 g5 : Nat) (a : Option Addr) (n cap : Nat) (F : List Bool) (ac : Option Addr) (nc cc : Nat) (pre : List (Fin F.length)) (W : World) : Prop where
  b1 : W.heap[w.heap.size + 1]? = some (.cells #[.int .i64 (M : Int)] 3 (0, 0))
  b2 : W.heap[w.heap.size + 2]? = some (.cells (spV 0 none 0 0) 101 (0, 0))
  hs : W.heap[Bs]? = some (.cells (spV F.length a n cap) 101 (0, 0))
  h4 : W.heap[g4]? = some (.cells (spV F.length ac nc cc) 101 (0, 0))
  bits : W.ownsRow B 5 1 (.slice ac nc cc) nc (vals (packB (flipF F (pre.map (·.1)))))
  h5 : ∃ av cv, W.heap[g5]? = some (.cells #[.slice av pre.length cv] 78 (0, 0)) ∧ W.ownsRow B 3 1 (.slice av pre.length cv) pre.length (ivals (pre.map (·.1)))
  bel : Below w.heap.size w W
  len : pre.length ≤ M
theorem cells_kept {X Y : World} {row : Option Nat} {j : Nat} {c : Array Value} {t : TypeId} {fr : Nat × Nat} (h : X.heap[j]? = some (.cells c t fr)) (hg : X.grownBy Y row) (hr : ∀ r, row = some r → ∃ o : Obj, X.heap[r]? = some o ∧ o.isCells = false) : Y.heap[j]? = some (.cells c t fr) := by
  refine (hg.block j (Array.getElem?_eq_some_iff.1 h).1 (fun e => ?_)).trans h
  obtain ⟨o, ho, hc⟩ := hr j e.symm
  rw [h] at ho
  cases ho
  cases hc
theorem owned_kept {X Y : World} {row : Option Nat} {base sz k : Nat} {t : TypeId} {v : Value} {xs : List Value} (h : X.ownsRow base t sz v k xs) (hg : X.grownBy Y row) (hr : ∀ r, row = some r → ∃ o : Obj, X.heap[r]? = some o ∧ o.isCells = false) : Y.ownsRow base t sz v k xs := by
  refine ⟨h.1, ?_⟩
  rcases h.2 with hn | ⟨g, cap, cur, rfl, hbg, hg', rest⟩
  · exact .inl hn
  · exact .inr ⟨g, cap, cur, rfl, hbg, cells_kept hg' hg hr, rest⟩
theorem TkI.own {w : World} {B0 B Bs M g4 g5 : Nat} {a : Option Addr} {n cap : Nat} {F : List Bool} {ac : Option Addr} {nc cc : Nat} (hB : w.heap.size ≤ B0) : OwnFrom B0 (TkI w B Bs M g4 g5 a n cap F ac nc cc) := by
  intro pre X Y row h hg hr
  have hr' : ∀ r, row = some r → ∃ o : Obj, X.heap[r]? = some o ∧ o.isCells = false := fun r e => (hr r e).2
  obtain ⟨av, cv, h5, h6⟩ := h.h5
  exact ⟨cells_kept h.b1 hg hr', cells_kept h.b2 hg hr', cells_kept h.hs hg hr', cells_kept h.h4 hg hr', owned_kept h.bits hg hr', ⟨av, cv, cells_kept h5 hg hr', owned_kept h6 hg hr'⟩, h.bel.grown hg h.bel.size (fun k e => Nat.le_trans hB (hr k e).1), h.len⟩
/-- a round has left by the break -/
def TkX (w : World) (B Bs M g4 g5 : Nat) (a : Option Addr) (n cap : Nat) (F : List Bool) (ac : Option Addr) (nc cc : Nat) (c : Code) (pre : List (Fin F.length)) (W : World) : Prop :=
  c = .exit 0 ∧ ∃ ini last, pre = ini ++ [last] ∧ ini.length = M ∧ TkI w B Bs M g4 g5 a n cap F ac nc cc ini W
theorem TkX.own {w : World} {B0 B Bs M g4 g5 : Nat} {a : Option Addr} {n cap : Nat} {F : List Bool} {ac : Option Addr} {nc cc : Nat} {c : Code} (hB : w.heap.size ≤ B0) : OwnFrom B0 (TkX w B Bs M g4 g5 a n cap F ac nc cc c) := by
  rintro pre X Y row ⟨h1, ini, last, h2, h3, h4⟩ hg hr
  exact ⟨h1, ini, last, h2, h3, TkI.own hB ini X Y row h4 hg hr⟩
theorem keepsFrom_only {B g : Nat} {W W' : World} {c : Array Value} {t : TypeId} {fr : Nat × Nat} (h : Only (· = g) W W') (hg : W.heap[g]? = some (.cells c t fr)) : KeepsFrom B W W' :=
  ⟨h.size, fun k o _ h0 hc => by
    refine (h.block k (Array.getElem?_eq_some_iff.1 h0).1 (fun e => ?_)).trans h0
    subst e; rw [hg] at h0; cases h0; cases hc⟩

/-- within a round: the page is flipped, and not yet told -/
structure TkJ (w : World) (B Bs M g4 g5 : Nat) (a : Option Addr) (n cap : Nat) (F : List Bool) (ac : Option Addr) (nc cc : Nat) (pre : List (Fin F.length)) (x : Fin F.length) (W : World) : Prop where
  b1 : W.heap[w.heap.size + 1]? = some (.cells #[.int .i64 (M : Int)] 3 (0, 0))
  b2 : W.heap[w.heap.size + 2]? = some (.cells (spV 0 none 0 0) 101 (0, 0))
  hs : W.heap[Bs]? = some (.cells (spV F.length a n cap) 101 (0, 0))
  h4 : W.heap[g4]? = some (.cells (spV F.length ac nc cc) 101 (0, 0))
  bits : W.ownsRow B 5 1 (.slice ac nc cc) nc (vals (packB (flipF F ((pre ++ [x]).map (·.1)))))
  h5 : ∃ av cv, W.heap[g5]? = some (.cells #[.slice av pre.length cv] 78 (0, 0)) ∧ W.ownsRow B 3 1 (.slice av pre.length cv) pre.length (ivals (pre.map (·.1)))
  bel : Below w.heap.size w W
theorem TkI.flip {w : World} {B B0 Bs M g4 g5 : Nat} {a : Option Addr} {n cap : Nat} {F : List Bool} {ac : Option Addr} {nc cc : Nat} {pre : List (Fin F.length)} {W : World}
    (h : TkI w B Bs M g4 g5 a n cap F ac nc cc pre W) (x : Fin F.length) (hF : F.length ≤ 2048) (hB : w.heap.size + 3 ≤ B) :
    Calls Tryz.prog 137 #[.agg #[.int .i64 (F.length : Int), .slice ac nc cc], .int .i64 (x.1 : Int)] W fun e W1 => e = .returned (.tuple #[]) ∧ TkJ w B Bs M g4 g5 a n cap F ac nc cc pre x W1 ∧ KeepsFrom B0 W W1 ∧ KpS w.heap.size Bs W W1 := by
  have hxl : x.1 < (flipF F (pre.map (·.1))).length := by rw [flipF_len]; exact x.2
  obtain ⟨gb, rfl⟩ : ∃ gb, ac = some ⟨gb, 0, none⟩ := by
    rcases h.bits.2 with ⟨h', h0⟩ | ⟨g', cap', cur, h', _⟩
    · have := h.bits.1; rw [vals_length, packB_length, flipF_len] at this; have := x.2; omega
    · simp only [Value.slice.injEq] at h'; exact ⟨g', h'.1⟩
  have hfl : (flipF F (pre.map (·.1))).length ≤ 2048 := by rw [flipF_len]; exact hF
  have hsn := flipF_snoc F (pre.map (·.1)) x.1
  have hbits := h.bits
  generalize flipF F (pre.map (·.1)) = G at *
  have CF := flip_any (F.length : Int) x.1 B gb nc cc G W hxl hfl hbits
  rw [← hsn] at CF
  obtain ⟨cur, hgb⟩ : ∃ cur, W.heap[gb]? = some (.cells cur 5 (0, 0)) := by
    rcases h.bits.2 with ⟨h', h0⟩ | ⟨g', cap', cur, h', _, hg, _⟩
    · cases h'
    · simp only [Value.slice.injEq, Option.some.injEq, Addr.mk.injEq, and_true] at h'
      obtain ⟨rfl, _⟩ := h'
      exact ⟨cur, hg⟩
  have hgB : B ≤ gb := (h.bits.lt gb rfl).1
  obtain ⟨av, cv, h5, h6⟩ := h.h5
  unfold spV at CF
  refine CF.mono ?_
  rintro e W1 ⟨rfl, hr, ho⟩
  have keep : ∀ {j : Nat} {c : Array Value} {t : TypeId} {fr : Nat × Nat}, W.heap[j]? = some (.cells c t fr) → t ≠ 5 → W1.heap[j]? = some (.cells c t fr) := by
    intro j c t fr hj ht
    refine (ho.block j (Array.getElem?_eq_some_iff.1 hj).1 (fun e => ?_)).trans hj
    subst e
    rw [hgb] at hj
    injection hj with hj
    injection hj with _ hj
    exact ht hj.symm
  have hbel : Below w.heap.size W W1 := ho.below h.bel.size (fun i hi e => by omega)
  refine ⟨rfl, ⟨keep h.b1 (by decide), keep h.b2 (by decide), keep h.hs (by decide), keep h.h4 (by decide), by simpa using hr, ⟨av, cv, keep h5 (by decide), owned_keep h6 fun k hk => ho.block k (h6.lt k hk).2 (fun e => owned_ne h6 hgb (by decide) k hk e)⟩, h.bel.trans hbel⟩, keepsFrom_only ho hgb, hbel, (keep h.hs (by decide)).trans h.hs.symm⟩
theorem TkJ.told {w : World} {B B0 Bs M g4 g5 : Nat} {a : Option Addr} {n cap : Nat} {F : List Bool} {ac : Option Addr} {nc cc : Nat} {pre : List (Fin F.length)} {x : Fin F.length} {W w1 : World} {av : Option Addr} {cv : Nat} {av' : Option Addr} {cv' : Nat} {tmp : Obj}
    (h : TkJ w B Bs M g4 g5 a n cap F ac nc cc pre x W) (hB : w.heap.size + 3 ≤ B) (hB5 : B ≤ g5) (hlen : pre.length + 1 ≤ M)
    (h5 : W.heap[g5]? = some (.cells #[.slice av pre.length cv] 78 (0, 0))) (hrow : W.ownsRow B 3 1 (.slice av pre.length cv) pre.length (ivals (pre.map (·.1)))) (hBW : B ≤ W.heap.size)
    (hown : w1.ownsRow B 3 1 (.slice av' (pre.length + 1) cv') (pre.length + 1) (ivals (pre.map (·.1)) ++ [.int .i64 (x.1 : Int)])) (hgrow : (W.alloc tmp).grownBy w1 (Value.slice av pre.length cv).ownBlock) :
    Boxed w1 g5 78 (.slice av pre.length cv) ∧ TkI w B Bs M g4 g5 a n cap F ac nc cc (pre ++ [x]) (w1.setCell ⟨g5, 0, none⟩ (.slice av' (pre.length + 1) cv')) ∧ KeepsFrom B0 W (w1.setCell ⟨g5, 0, none⟩ (.slice av' (pre.length + 1) cv')) ∧ KpS w.heap.size Bs W (w1.setCell ⟨g5, 0, none⟩ (.slice av' (pre.length + 1) cv')) := by
  have hv : Boxed W g5 78 (.slice av pre.length cv) := h5
  obtain ⟨hv1, hv2, hr2, hk2, hb2⟩ := hv.appended (by decide) hrow hBW hB5 hown hgrow
  have keep : ∀ {j : Nat} {c : Array Value} {t : TypeId} {fr : Nat × Nat}, W.heap[j]? = some (.cells c t fr) → t ≠ 3 → t ≠ 78 → (w1.setCell ⟨g5, 0, none⟩ (.slice av' (pre.length + 1) cv')).heap[j]? = some (.cells c t fr) := by
    intro j c t fr hj ht ht2
    have hjl := (Array.getElem?_eq_some_iff.1 hj).1
    have e1 : j ≠ g5 := fun e => by
      subst e
      rw [h5] at hj
      injection hj with hj
      injection hj with _ hj
      exact ht2 hj.symm
    have e2 := owned_ne hrow hj (fun e => ht e.symm)
    rw [heap_setCell_other _ _ _ _ e1, hgrow.block j (by simp; omega) (fun e => e2 j e.symm rfl), Below.heap_alloc _ _ _ hjl]
    exact hj
  have hlow : ∀ {j : Nat} {o : Obj}, j < B → W.heap[j]? = some o → (w1.setCell ⟨g5, 0, none⟩ (.slice av' (pre.length + 1) cv')).heap[j]? = some o := fun hj ho => (hb2.block _ hj).trans ho
  refine ⟨hv1, ⟨hlow (by omega) h.b1, keep h.b2 (by decide) (by decide), keep h.hs (by decide) (by decide), keep h.h4 (by decide) (by decide), ?_, ⟨av', cv', by rw [List.length_append]; exact hv2, by rw [List.length_append, List.map_append]; simpa [ivals] using hr2⟩, h.bel.trans (hb2.mono (by omega)), by rw [List.length_append]; exact hlen⟩, hk2.from _, hb2.mono (by omega), (keep h.hs (by decide) (by decide)).trans h.hs.symm⟩
  refine owned_keep h.bits fun k hk => ?_
  rcases h.bits.2 with ⟨h', h0⟩ | ⟨g', cap', cur, h', _, hg, _⟩
  · rw [h'] at hk; simp [Value.ownBlock] at hk
  · rw [h'] at hk
    simp only [Value.ownBlock, Option.some.injEq] at hk
    subst hk
    exact (keep hg (by decide) (by decide)).trans hg.symm

theorem mk_ints (m : Nat) (hm : m ≤ 1048576) (u : World) : (Instr.makeSlice 78 (.int .i64 0) (.int .i64 m)).run Tryz.prog u = .ok (.slice (some ⟨u.heap.size, 0, none⟩) 0 m) (u.alloc (.cells (madeCells #[.int .i64 0] m) 3)) := by
  obtain ⟨i0, hi, hz0, hz1, hz2⟩ := info_parts infoIntS
  have := run_make u 78 3 i0 _ Tryz.underlying78 hi hz0 .i64 .i64 0 m (by omega) (by omega) (by rw [hz2]; omega) (by omega)
  rw [hz1] at this
  simpa [Value.cells] using this

set_option maxHeartbeats 2000000 in
theorem take_ok (N : Int) (k : Int) (a : Option Addr) (n cap : Nat) (F : List Bool) (w : World) (h : SpAt w N a n cap F) (hk : 0 ≤ k) :
    Calls Tryz.prog 95 #[.agg (spV N a n cap), .int .i64 k] w (TakeTo (takeR F k) w) := by
  have hnum := h.num
  subst hnum
  have h3 := Three.start F.length k a n cap w
  have CM := Lib.hid ((h.below h3.bel).may)
  have H3 := Lib.hid h3
  have HS := Lib.hid h
  have HF := Lib.hid h.len
  clear h h3
  unfold boxes3 spV at CM
  unfold spV
  have h0 : decide (k < 0) = false := by simp; omega
  refine (callsIn_wide (n := 6)).1 ?_
  refine callsIn_of_wp_marks Tryz.func95 rfl trivial ?_ rfl
  simp only [Tryz.ntmps95, List.size_toArray, List.length_cons, List.length_nil, Nat.reduceAdd, Nat.reduceSub, Array.replicate_succ, Array.replicate_zero, List.push_toArray, List.append_toArray, List.nil_append, List.cons_append]
  gi_wp2
  refine ⟨trivial, ?_⟩
  refine (callsIn_wide.2 CM.out).mono ?_
  rintro e w1 ⟨rfl, hb1⟩
  have k3 := H3.out.below hb1
  obtain ⟨c0, c1, c2⟩ := k3.cells
  have K3 := Lib.hid k3
  clear hb1 CM k3
  gi_wp2
  refine wpIn_wide.2 ?_
  have hfc := frees_count F
  have hw3 : IntKind.i64.wrap ((F.length : Int) - (F.count true : Nat)) = ((frees F).length : Nat) := by rw [IntWalk.i64_in _ (by have := HF.out; omega)]; omega
  have CT := Lib.hid (count_ok F.length a n cap F w1.drew ((HS.out.below K3.out.bel).below (Below.refl _ _).drew))
  unfold spV at CT
  have HFC := Lib.hid hfc
  clear hfc
  generalize F.count true = ct at *
  generalize hfr : (frees F).length = fr at *
  have HFR := Lib.hid hfr
  clear hfr
  refine region_head 7 [0, 1, 2, 3, 4, 5, 6] [4] (fun u => u.cell? ⟨w.heap.size, 0, none⟩ = some (.int .i64 (F.length : Int)) ∧ u.cell? ⟨w.heap.size, 1, none⟩ = some (.slice a n cap) ∧ u.cell? ⟨w.heap.size + 1, 0, none⟩ = some (.int .i64 k)) (by kernel_rfl) (by kernel_rfl) ⟨c0, c1, c2⟩ ?_
  simp only [pickO, List.filterMap_cons, List.filterMap_nil, List.getElem?_cons_zero, List.getElem?_cons_succ, Option.map_some, List.drop_succ_cons, List.drop_zero]
  clear c0 c1 c2
  iterate 4
    refine seqH_read _ rfl rfl (by rintro u ⟨hu1, hu2, hu3⟩; go_simp; with_reducible rfl) ?_
    try simp only [Act.put, List.setIfInBounds_toArray, List.set_cons_zero, List.set_cons_succ]
  refine seqH_move rfl rfl (fun K hK => ?_)
  go_simp
  refine (CT.out).mono ?_
  rintro e w2 ⟨rfl, hb2⟩
  have k3 := (K3.out.below (Below.refl w1.heap.size w1).drew).below hb2
  have K4 := Lib.hid k3
  refine hK _ _ k3.cells ?_
  clear hK K k3 hb2 CT
  try simp only [Act.put, List.setIfInBounds_toArray, List.set_cons_zero, List.set_cons_succ]
  iterate 2
    refine seqH_read _ rfl rfl (by rintro u ⟨hu1, hu2, hu3⟩; go_simp; with_reducible rfl) ?_
    try simp only [Act.put, List.setIfInBounds_toArray, List.set_cons_zero, List.set_cons_succ]
  refine seqH_nil ?_
  have hx := K4.out.b2
  have hbel := K4.out.bel
  go_wp2
  gi_wp2_with (refine wpListIn_store_rowS rfl _ _ _ rfl (w.heap.size + 2) (spV 0 none 0 0) rfl rfl 101 _ hx sizeSp rfl (spV_one _ _ _ _) ?_)
  · have hfull : (fr : Int) < k := by assumption
    have hr : takeR F k = ([], [], 5) := by rw [takeR, if_neg (by omega), HFR.out, if_pos hfull]
    rw [hr]
    exact ⟨.tuple #[.agg (spV 0 none 0 0), .slice none 0 0, .int .i64 5], results_cell_slots rfl _ _ (w.heap.size + 2) 101 (spV 0 none 0 0) (0, 0) _ _ _ rfl (heap_setRow_same _ _ _ _ _ hx) rfl rfl Tryz.underlying101 rfl sizeSp, none, 0, 0, none, 0, rfl, World.ownsRow_nil _ _ _ _, World.ownsRow_nil _ _ _ _, below_setRow hbel (by omega) _⟩
  · have hle : k ≤ (fr : Int) := by assumption
    obtain ⟨M, rfl⟩ : ∃ M : Nat, k = M := ⟨k.toNat, by omega⟩
    have hMf : M ≤ fr := by omega
    have hM : M ≤ 2048 := by have := HFC.out; have := HF.out; omega
    have hmk := mk_ints M (by omega)
    have CC := Lib.hid (fun u (hb : Below w2.heap.size w2 u) => clone_sp F.length a n cap F u ((HS.out.below K4.out.bel).below hb))
    unfold spV at CC
    refine wpIn_wide.2 ?_
    generalize Value.bool (decide ((fr : Int) < (M : Int))) = v24 at *
    refine region_inv (fun s act u => ∃ x7 x8 x26 x27 x28 x29, act = { tmps := #[.agg #[.int .i64 F.length, .slice a n cap], .int .i64 M, .pointer (some ⟨w.heap.size, 0, none⟩), .pointer (some ⟨w.heap.size + 1, 0, none⟩), .pointer (some ⟨w.heap.size + 1 + 1, 0, none⟩), .slice none 0 0, .int .i64 0, x7, x8, undef, .agg #[.int .i64 F.length, .slice a n cap], .bool true, .bool false, .bool false, .int .i64 M, .bool false, .bool false, undef, .int .i64 M, .pointer (some ⟨w.heap.size, 0, none⟩), .int .i64 F.length, .agg #[.int .i64 F.length, .slice a n cap], .int .i64 ct, .int .i64 fr, v24, undef, x26, x27, x28, x29, undef, undef, undef, undef, undef, undef, undef, undef, undef, undef, undef, undef, undef, undef, undef, undef], defers := [] } ∧
      Below w2.heap.size w2 u ∧ (s 0 = true → x26 = .agg #[.int .i64 F.length, .slice a n cap]) ∧ (s 2 = true → x28 = .int .i64 M) ∧
      (s 1 = true → I1 w2.heap.size F u x27) ∧ (s 3 = true → I3 w2.heap.size M u x29) ∧ (s 4 = true → I4 w2.heap.size u x7 x27 (s 6)) ∧ (s 5 = true → I5 w2.heap.size u x8 x29 (s 7)) ∧ (s 6 = true → s 1 = true ∧ s 4 = true) ∧ (s 7 = true → s 3 = true ∧ s 5 = true)) (by kernel_rfl) (by kernel_rfl) ?start ?steps ?done
    case start => exact ⟨undef, undef, undef, undef, undef, undef, rfl, (Below.refl _ _).drew, fun h => (by cases h), fun h => (by cases h), fun h => (by cases h), fun h => (by cases h), fun h => (by cases h), fun h => (by cases h), fun h => (by cases h), fun h => (by cases h)⟩
    case steps =>
      refine ⟨?s0, ?s1, ?s2, ?s3, ?s4, ?s5, ?s6, ?s7, trivial⟩
      case s0 =>
        rintro s act u hs hd ⟨x7, x8, x26, x27, x28, x29, rfl, hb, i0, i2, i1, i3, i4, i5, j6, j7⟩ K hK
        rw [if_pos (by rfl)]
        dsimp only
        obtain ⟨c0, c1, c2⟩ := (K4.out.below hb).cells
        go_simp
        exact hK _ _ ⟨x7, x8, _, x27, x28, x29, rfl, hb, fun _ => rfl, i2, i1, i3, i4, i5, j6, j7⟩
      case s1 =>
        rintro s act u hs hd ⟨x7, x8, x26, x27, x28, x29, rfl, hb, i0, i2, i1, i3, i4, i5, j6, j7⟩ K hK
        rw [if_pos (by rfl)]
        simp [Region.binds] at hd
        have h26 := i0 hd
        have h6 : s 6 = false := by cases h : s 6 with | false => rfl | true => rw [(j6 h).1] at hs; cases hs
        subst h26
        dsimp only
        have C1 := Lib.hid (CC.out u hb)
        clear CC
        go_simp
        refine (C1.out).mono ?_
        rintro e u1 ⟨a1, n1, cap1, rfl, ho1, hb1⟩
        exact hK _ _ ⟨x7, x8, _, _, x28, x29, rfl, hb.trans (hb1.mono hb.size), fun _ => rfl, i2, fun _ => ⟨a1, n1, cap1, rfl, owned_low ho1 hb.size⟩, fun h => (i3 h).below hb1, fun h => ((i4 h).below hb1).other h6, fun h => (i5 h).below hb1, fun h => (by have h' : s 6 = true := h; rw [h6] at h'; cases h'), j7⟩
      case s2 =>
        rintro s act u hs hd ⟨x7, x8, x26, x27, x28, x29, rfl, hb, i0, i2, i1, i3, i4, i5, j6, j7⟩ K hK
        rw [if_pos (by rfl)]
        dsimp only
        obtain ⟨c0, c1, c2⟩ := (K4.out.below hb).cells
        go_simp
        exact hK _ _ ⟨x7, x8, x26, x27, _, x29, rfl, hb, i0, fun _ => rfl, i1, i3, i4, i5, j6, j7⟩
      case s3 =>
        rintro s act u hs hd ⟨x7, x8, x26, x27, x28, x29, rfl, hb, i0, i2, i1, i3, i4, i5, j6, j7⟩ K hK
        rw [if_pos (by rfl)]
        simp [Region.binds] at hd
        have h28 := i2 hd
        have h7 : s 7 = false := by cases h : s 7 with | false => rfl | true => rw [(j7 h).1] at hs; cases hs
        subst h28
        dsimp only
        have hm := hmk u
        have hbu : Below u.heap.size u (u.alloc (.cells (madeCells #[.int .i64 0] M) 3)) := (Below.refl _ _).alloc (Nat.le_refl _) _
        go_simp
        exact hK _ _ ⟨x7, x8, x26, x27, _, _, rfl, hb.trans (hbu.mono hb.size), i0, fun _ => rfl, fun h => (i1 h).below hbu, fun _ => ⟨u.heap.size, rfl, ⟨rfl, .inr ⟨u.heap.size, M, madeCells #[.int .i64 0] M, rfl, hb.size, heap_alloc_new _ _, Nat.zero_le _, by unfold maxLen; omega, by have := congrArg List.length (toList_madeCells_one (.int .i64 0) M); simpa using this, rfl⟩⟩⟩, fun h => (i4 h).below hbu, fun h => ((i5 h).below hbu).other h7, j6, fun h => (by have h' : s 7 = true := h; rw [h7] at h'; cases h')⟩
      case s4 =>
        rintro s act u hs hd ⟨x7, x8, x26, x27, x28, x29, rfl, hb, i0, i2, i1, i3, i4, i5, j6, j7⟩ K hK
        rw [if_pos (by rfl)]
        dsimp only
        have h6 : s 6 = false := by cases h : s 6 with | false => rfl | true => rw [(j6 h).2] at hs; cases hs
        have hbu : Below u.heap.size u (u.alloc (.cells (spV 0 none 0 0) 101)) := (Below.refl _ _).alloc (Nat.le_refl _) _
        unfold spV at hbu
        go_simp
        exact hK _ _ ⟨_, x8, x26, x27, x28, x29, rfl, hb.trans (hbu.mono hb.size), i0, i2, fun h => (i1 h).below hbu, fun h => (i3 h).below hbu, fun _ => ⟨u.heap.size, _, rfl, hb.size, heap_alloc_new _ _, rfl, fun h => (by have h' : s 6 = true := h; rw [h6] at h'; cases h')⟩, fun h => (i5 h).below hbu, fun h => (by have h' : s 6 = true := h; rw [h6] at h'; cases h'), j7⟩
      case s5 =>
        rintro s act u hs hd ⟨x7, x8, x26, x27, x28, x29, rfl, hb, i0, i2, i1, i3, i4, i5, j6, j7⟩ K hK
        rw [if_pos (by rfl)]
        dsimp only
        have h7 : s 7 = false := by cases h : s 7 with | false => rfl | true => rw [(j7 h).2] at hs; cases hs
        have hbu : Below u.heap.size u (u.alloc (.cells #[.slice none 0 0] 78)) := (Below.refl _ _).alloc (Nat.le_refl _) _
        go_simp
        exact hK _ _ ⟨x7, _, x26, x27, x28, x29, rfl, hb.trans (hbu.mono hb.size), i0, i2, fun h => (i1 h).below hbu, fun h => (i3 h).below hbu, fun h => (i4 h).below hbu, fun _ => ⟨u.heap.size, _, rfl, hb.size, heap_alloc_new _ _, fun h => (by have h' : s 7 = true := h; rw [h7] at h'; cases h')⟩, j6, fun h => (by have h' : s 7 = true := h; rw [h7] at h'; cases h')⟩
      case s6 =>
        rintro s act u hs hd ⟨x7, x8, x26, x27, x28, x29, rfl, hb, i0, i2, i1, i3, i4, i5, j6, j7⟩ K hK
        rw [if_pos (by rfl)]
        simp [Region.binds] at hd
        have hd1 : s 1 = true := by simp_all
        have hd4 : s 4 = true := by simp_all
        obtain ⟨ac, nc, cc, rfl, ho⟩ := i1 hd1
        obtain ⟨g4, c4, rfl, hg4, hc4, hz4, _⟩ := i4 hd4
        refine wp_store_row 101 _ _ rfl g4 (spV F.length ac nc cc) rfl rfl 101 _ hc4 sizeSp (by rw [hz4]; rfl) (spV_one _ _ _ _) ?_
        refine hK _ _ ⟨_, x8, x26, _, x28, x29, rfl, below_setRow hb hg4 _, i0, i2, fun _ => ⟨ac, nc, cc, rfl, owned_setRow ho hc4 (by decide)⟩, fun h => ?_, fun _ => ⟨g4, _, rfl, hg4, heap_setRow_same _ _ _ _ _ hc4, rfl, fun _ => rfl⟩, fun h => ?_, fun _ => ⟨hd1, hd4⟩, j7⟩
        · obtain ⟨g3, e, ho3⟩ := i3 h
          exact ⟨g3, e, owned_setRow ho3 hc4 (by decide)⟩
        · obtain ⟨g5, c5, e, hg5, hc5, h5⟩ := i5 h
          refine ⟨g5, c5, e, hg5, (heap_setRow_other _ _ _ _ (fun e => ?_)).trans hc5, h5⟩
          subst e
          rw [hc4] at hc5
          injection hc5 with hc5
          injection hc5 with _ hc5
          exact absurd hc5 (by decide)
      case s7 =>
        rintro s act u hs hd ⟨x7, x8, x26, x27, x28, x29, rfl, hb, i0, i2, i1, i3, i4, i5, j6, j7⟩ K hK
        rw [if_pos (by rfl)]
        simp [Region.binds] at hd
        have hd3 : s 3 = true := by simp_all
        have hd5 : s 5 = true := by simp_all
        obtain ⟨g3, rfl, ho3⟩ := i3 hd3
        obtain ⟨g5, c5, rfl, hg5, hc5, _⟩ := i5 hd5
        have hcl : u.cell? ⟨g5, 0, none⟩ = some c5 := by rw [cell_of_row _ _ _ _ _ _ hc5]; rfl
        have hfz : u.frozen? ⟨g5, 0, none⟩ = false := frozen_of_row _ _ _ _ _ hc5
        dsimp only
        go_simp
        refine hK _ _ ⟨x7, _, _, x27, _, _, rfl, hb.setCell hg5 _, fun _ => rfl, fun _ => rfl, fun h => ?_, fun _ => ⟨g3, rfl, owned_setCell ho3 hc5 (by decide)⟩, fun h => ?_, fun _ => ⟨g5, _, rfl, hg5, heap_setCell_same _ _ _ _ _ _ hc5, fun _ => rfl⟩, j6, fun _ => ⟨hd3, hd5⟩⟩
        · obtain ⟨ac, nc, cc, e, ho⟩ := i1 h
          exact ⟨ac, nc, cc, e, owned_setCell ho hc5 (by decide)⟩
        · obtain ⟨g4, c4, e, hg4, hc4, hz4, h4⟩ := i4 h
          refine ⟨g4, c4, e, hg4, (heap_setCell_other _ _ _ _ (fun e => ?_)).trans hc4, hz4, h4⟩
          simp only at e
          subst e
          rw [hc4] at hc5
          injection hc5 with hc5
          injection hc5 with _ hc5
          exact absurd hc5 (by decide)
    case done =>
      rintro s act u hall ⟨x7, x8, x26, x27, x28, x29, rfl, hb, i0, i2, i1, i3, i4, i5, j6, j7⟩
      have hs : ∀ i, i < 8 → s i = true := hall
      have e26 := i0 (hs 0 (by omega))
      have e28 := i2 (hs 2 (by omega))
      obtain ⟨ac, nc, cc, e27, hoc⟩ := i1 (hs 1 (by omega))
      obtain ⟨g3, e29, ho3⟩ := i3 (hs 3 (by omega))
      obtain ⟨g4, c4, e7, hg4, hc4, _, h4⟩ := i4 (hs 4 (by omega))
      obtain ⟨g5, c5, e8, hg5, hc5, h5⟩ := i5 (hs 5 (by omega))
      have h6 := h4 (hs 6 (by omega))
      have h7 := h5 (hs 7 (by omega))
      rw [e27] at h6
      rw [e29] at h7
      obtain rfl : c4 = spV F.length ac nc cc := by injection h6 with h6; exact h6.symm
      subst h7 e26 e28 e27 e29 e7 e8
      clear hall hs i0 i1 i2 i3 i4 i5 j6 j7 h4 h5 h6
      have k3 := K4.out.below hb
      obtain ⟨c0, c1, c2⟩ := k3.cells
      have HU := Lib.hid (unused_in 5 F.length a n cap u)
      unfold spV at HU
      dsimp only
      gi_wp2
      refine ⟨trivial, ?_⟩
      refine (HU.out).mono ?_
      rintro e u1 ⟨rfl, rfl⟩
      gi_wp2
      have hbu : Below u.heap.size u (u.alloc (.cells (spV F.length a n cap) 101)) := (Below.refl _ _).alloc (Nat.le_refl _) _
      have k4 := k3.below hbu
      have hz := heap_alloc_new u (.cells (spV F.length a n cap) 101)
      have hoc' := owned_below hoc hbu
      have ho3' := owned_below ho3 hbu
      have hc4' := (hbu.block g4 (Array.getElem?_eq_some_iff.1 hc4).1).trans hc4
      have hc5' := (hbu.block g5 (Array.getElem?_eq_some_iff.1 hc5).1).trans hc5
      have hsz : (u.alloc (.cells (spV F.length a n cap) 101)).heap.size = u.heap.size + 1 := by simp
      have h0 : TkI w w2.heap.size u.heap.size M g4 g5 a n cap F ac nc cc [] (u.alloc (.cells (spV F.length a n cap) 101)) :=
        ⟨k4.b1, k4.b2, hz, hc4', hoc', ⟨_, _, hc5', ho3'⟩, k4.bel, Nat.zero_le _⟩
      have hS0 := HS.out.below k4.bel
      have HSTOP := unused_stops 5 (by omega) u.heap.size w.heap.size F.length a n cap F _ hz hS0 (BytesAt.lt HS.out.oct) k4.bel.size
      have hg4s : w2.heap.size ≤ g4 := hg4
      have hw23 : w.heap.size + 3 ≤ w2.heap.size := K4.out.sz
      have hus : w2.heap.size ≤ u.heap.size := hb.size
      have hgl5 : g5 < u.heap.size := (Array.getElem?_eq_some_iff.1 hc5).1
      have hgl4 : g4 < u.heap.size := (Array.getElem?_eq_some_iff.1 hc4).1
      clear c0 c1 c2 HU k3 k4 hoc ho3 hc4 hc5 hz hoc' ho3' hc4' hc5' hx hbel CC hmk hS0
      unfold spV at *
      generalize u.alloc (.cells #[.int .i64 (F.length : Int), .slice a n cap] 101) = u0 at *
      refine wpIn_rangeFunc_ownG (encs := fun x : Fin F.length => #[.int .i64 (x.1 : Int)]) rfl (by omega) (gf := 172) (lb := #[.pointer (some ⟨u.heap.size, 0, none⟩)]) rfl trivial (enters_of Tryz.func172 (by kernel_rfl) rfl)
        HSTOP kps_t (kps_b (by omega) (by omega)) (Below.refl _ _) (fun _ => rfl)
        (TkI w w2.heap.size u.heap.size M g4 g5 a n cap F ac nc cc)
        (TkX w w2.heap.size u.heap.size M g4 g5 a n cap F ac nc cc)
        (TkI.own (by omega)) (fun c => TkX.own (by omega)) h0
        (fun x => { tmps := #[.agg #[.int .i64 F.length, .slice a n cap], .int .i64 M, .pointer (some ⟨w.heap.size, 0, none⟩), .pointer (some ⟨w.heap.size + 1, 0, none⟩), .pointer (some ⟨w.heap.size + 1 + 1, 0, none⟩), .slice none 0 0, .int .i64 0, .pointer (some ⟨g4, 0, none⟩), .pointer (some ⟨g5, 0, none⟩), .int .i64 (x.1 : Int), .agg #[.int .i64 F.length, .slice a n cap], .bool true, .bool false, .bool false, .int .i64 M, .bool false, .bool false, undef, .int .i64 M, .pointer (some ⟨w.heap.size, 0, none⟩), .int .i64 F.length, .agg #[.int .i64 F.length, .slice a n cap], .int .i64 ct, .int .i64 fr, v24, undef, .agg #[.int .i64 F.length, .slice a n cap], .agg #[.int .i64 F.length, .slice ac nc cc], .int .i64 M, .slice (some ⟨g3, 0, none⟩) 0 M, .agg #[.int .i64 F.length, .slice a n cap], .func (.func 172) #[] #[.pointer (some ⟨u.heap.size, 0, none⟩)], .int .i64 (x.1 : Int), undef, undef, undef, undef, undef, undef, undef, undef, undef, undef, undef, undef, undef], defers := [] }) ?assign ?body ?fin ?stop
      case assign =>
        intro l x W K hK
        gi_wp2
        exact hK
      case body =>
        rintro l pre x W hI hlt
        dsimp only
        obtain ⟨av, cv, h5, h6⟩ := hI.h5
        have c5 : W.cell? ⟨g5, 0, none⟩ = some (.slice av pre.length cv) := by rw [cell_of_row _ _ _ _ _ _ h5]; rfl
        have c1 : W.cell? ⟨w.heap.size + 1, 0, none⟩ = some (.int .i64 (M : Int)) := by rw [cell_of_row _ _ _ _ _ _ hI.b1]; rfl
        by_cases heq : pre.length = M
        · have HE := Lib.hid heq
          have hd : ((pre.length : Int) == (M : Int)) = true := by rw [heq]; simp
          have HI := Lib.hid hI
          clear heq hI h5 h6
          gi_wp2
          exact ⟨KeepsFrom.refl _ _, rfl, pre, x, rfl, HE.out, HI.out⟩
        · have HE := Lib.hid heq
          have hd : ((pre.length : Int) == (M : Int)) = false := by rw [beq_eq_false_iff_ne]; omega
          clear heq
          have CF := Lib.hid (TkI.flip (B0 := u0.heap.size) hI x HF.out hw23)
          have HI := Lib.hid hI
          obtain ⟨d0, d1⟩ := sp_cells hI.h4
          clear hI h5 h6
          gi_wp2
          refine ⟨trivial, ?_⟩
          refine (CallsIn.inRound l (callsIn_wide.2 CF.out)).mono ?_
          rintro e W1 ⟨rfl, hJ, hk1, hk2⟩
          obtain ⟨av1, cv1, h5, h6⟩ := hJ.h5
          have HJ := Lib.hid hJ
          have HK1 := Lib.hid hk1
          have HK2 := Lib.hid hk2
          have H5 := Lib.hid h5
          have H6 := Lib.hid h6
          have hlen : pre.length + 1 ≤ M := by have := HI.out.len; have := HE.out; omega
          have hBW : w2.heap.size ≤ W1.heap.size := by have := (Array.getElem?_eq_some_iff.1 h5).1; omega
          have c5' : W1.cell? ⟨g5, 0, none⟩ = some (.slice av1 pre.length cv1) := by rw [cell_of_row _ _ _ _ _ _ h5]; rfl
          obtain ⟨i0, hi, hz0, hz1, hz2⟩ := info_parts infoIntS
          clear hJ hk1 hk2 h5 h6 c5 c1 d0 d1 CF hd HE
          gi_wp2_with (gi_at_builtin; refine wpListIn_append_own _ rfl _ _ 78 rfl w2.heap.size 3 i0 (.int .i64 0) 1 8 Tryz.underlying78 hi hz0 hz1 hz2 rfl (by decide) _ _ _ rfl (H6.out.alloc _) ⟨W1.heap.size, 0, none⟩ 1 1 [.int .i64 (x.1 : Int)] rfl rfl (cell_one_new _ _ _) (by simp [Value.oneCell']) (by unfold maxLen; omega) (by omega) (by simp; omega) ?_; intro v' w1' hown' hgrow _; obtain ⟨g', cap', rfl⟩ := ownsRow_succ hown'; obtain ⟨htb, hti, htk, htp⟩ := TkJ.told (B0 := u0.heap.size) HJ.out hw23 hg5 hlen H5.out H6.out hBW hown' hgrow; have hc1 := htb.cell; have hf1 := htb.frozen)
          exact ⟨HK1.out.trans htk, kps_t HK2.out htp, hti⟩
      case fin =>
        rintro D ys W hD hys hI hK
        have hl : ys.length = M := by have h1 := congrArg List.length hys; rw [List.length_map] at h1; have := hI.len; have := HFR.out; omega
        have hP : ys.map (·.1) = (frees F).take M := by rw [List.take_of_length_le (by have h1 := congrArg List.length hys; rw [List.length_map] at h1; omega)]; exact hys
        have HI := Lib.hid hI
        have HD := Lib.hid hK
        have HPM := Lib.hid hP
        have HLM := Lib.hid hl
        obtain ⟨d0, d1⟩ := sp_cells hI.h4
        obtain ⟨av, cv, h5, h6⟩ := hI.h5
        have c5 : W.cell? ⟨g5, 0, none⟩ = some (.slice av ys.length cv) := by rw [cell_of_row _ _ _ _ _ _ h5]; rfl
        have H6 := Lib.hid h6
        have hb2 := hI.b2
        have HB2 := Lib.hid hb2
        have ho5 : g5 ≠ w.heap.size + 2 := by omega
        have ho4 : g4 ≠ w.heap.size + 2 := by omega
        have HB := Lib.hid hI.bits
        clear hI hK hP hl h5 h6 HSTOP hb2
        gi_wp2
        refine wpIn_wide.2 ?_
        refine region_head 3 [0, 1, 2] [2] (fun u => u.cell? ⟨g4, 0, none⟩ = some (.int .i64 (F.length : Int)) ∧ u.cell? ⟨g4, 1, none⟩ = some (.slice ac nc cc) ∧ u.cell? ⟨g5, 0, none⟩ = some (.slice av ys.length cv)) (by kernel_rfl) (by kernel_rfl) ⟨d0, d1, c5⟩ ?_
        simp only [pickO, List.filterMap_cons, List.filterMap_nil, List.getElem?_cons_zero, List.getElem?_cons_succ, Option.map_some, List.drop_succ_cons, List.drop_zero]
        iterate 2
          refine seqH_read _ rfl rfl (by rintro u ⟨hu1, hu2, hu3⟩; go_simp; with_reducible rfl) ?_
          try simp only [Act.put, List.setIfInBounds_toArray, List.set_cons_zero, List.set_cons_succ]
        refine seqH_move rfl rfl (fun K hK => ?_)
        refine wp_store_row 101 _ _ rfl (w.heap.size + 2) (spV F.length ac nc cc) rfl rfl 101 _ HB2.out sizeSp rfl (spV_one _ _ _ _) ?_
        refine hK _ _ ?_ ?_
        · refine ⟨?_, ?_, ?_⟩
          · rw [World.cell?_of_block (w := W.drew) (heap_setRow_other _ _ _ _ ho4)]; exact d0
          · rw [World.cell?_of_block (w := W.drew) (heap_setRow_other _ _ _ _ ho4)]; exact d1
          · rw [World.cell?_of_block (w := W.drew) (heap_setRow_other _ _ _ _ ho5)]; exact c5
        · clear hK K
          refine seqH_nil ?_
          go_wp2
          gi_wp2
          have hDr : (W.drew.setRow (w.heap.size + 2) (spV F.length ac nc cc)).heap[D]? = some (.deferred (some [])) := (heap_setRow_other _ _ _ _ (by omega)).trans HD.out
          have hx2 : (W.drew.setRow (w.heap.size + 2) (spV F.length ac nc cc)).heap[w.heap.size + 2]? = some (.cells (spV F.length ac nc cc) 101 (0, 0)) := heap_setRow_same _ _ _ _ _ HB2.out
          have hrb : (W.drew.setRow (w.heap.size + 2) (spV F.length ac nc cc)).ownsRow w2.heap.size 5 1 (.slice ac nc cc) nc (vals (packB (flipF F (ys.map (·.1))))) := owned_setRow (w := W.drew) HB.out HB2.out (by decide)
          have hri : (W.drew.setRow (w.heap.size + 2) (spV F.length ac nc cc)).ownsRow w2.heap.size 3 1 (.slice av ys.length cv) ys.length (ivals (ys.map (·.1))) := owned_setRow (w := W.drew) H6.out HB2.out (by decide)
          have hbl : Below w.heap.size w (W.drew.setRow (w.heap.size + 2) (spV F.length ac nc cc)) := below_setRow (HI.out.bel.drew) (by omega) _
          refine ⟨by simp, .inl ⟨_, _, rfl, run_takeDeferred hDr, ?_⟩⟩
          generalize W.drew.setRow (w.heap.size + 2) (spV F.length ac nc cc) = W2 at *
          have hlk : (W2.putObj D (.deferred none)).heap[w.heap.size + 2]? = some (.cells (spV F.length ac nc cc) 101 (0, 0)) := (World.putObj_heap_other (by omega)).trans hx2
          have htr : takeR F (M : Int) = (markF F ((frees F).take M), (frees F).take M, 0) := by
            rw [takeR, if_neg (by omega), if_neg (by rw [HFR.out]; omega), Int.toNat_natCast]
          have hlt : ((frees F).take M).length = ys.length := by rw [← HPM.out, List.length_map]
          rw [HPM.out, flip_take] at hrb
          rw [HPM.out] at hri
          rw [htr]
          have hfin := hbl.trans (belowK_b (w := w) (Nat.le_refl _) W2 D _ (.deferred none) (by omega) hDr rfl rfl)
          exact ⟨.tuple #[.agg (spV F.length ac nc cc), .slice av ys.length cv, .int .i64 0], results_cell_slots rfl _ _ (w.heap.size + 2) 101 (spV F.length ac nc cc) (0, 0) _ _ _ rfl hlk rfl rfl Tryz.underlying101 rfl sizeSp, ac, nc, cc, av, cv, by simp only [markF_len, hlt], owned_low (ownsRow_putObj hrb _ hDr rfl) (by omega), by rw [hlt]; exact owned_low (ownsRow_putObj hri _ hDr rfl) (by omega), hfin⟩
      case stop =>
        rintro D c pre W hD hsp ⟨rfl, ini, last, rfl, hl, hI⟩ hK
        have hP : ini.map (·.1) = (frees F).take M := by
          have h1 : ini.map (·.1) <+: frees F := by rw [List.map_append] at hsp; exact (List.prefix_append _ _).trans hsp
          have h2 := List.prefix_iff_eq_take.1 h1
          rwa [List.length_map, hl] at h2
        have HI := Lib.hid hI
        have HD := Lib.hid hK
        have HPM := Lib.hid hP
        have HLM := Lib.hid hl
        obtain ⟨d0, d1⟩ := sp_cells hI.h4
        obtain ⟨av, cv, h5, h6⟩ := hI.h5
        have c5 : W.cell? ⟨g5, 0, none⟩ = some (.slice av ini.length cv) := by rw [cell_of_row _ _ _ _ _ _ h5]; rfl
        have H6 := Lib.hid h6
        have hb2 := hI.b2
        have HB2 := Lib.hid hb2
        have ho5 : g5 ≠ w.heap.size + 2 := by omega
        have ho4 : g4 ≠ w.heap.size + 2 := by omega
        have HB := Lib.hid hI.bits
        clear hI hK hP hl h5 h6 HSTOP hb2
        gi_wp2
        refine wpIn_wide.2 ?_
        refine region_head 3 [0, 1, 2] [2] (fun u => u.cell? ⟨g4, 0, none⟩ = some (.int .i64 (F.length : Int)) ∧ u.cell? ⟨g4, 1, none⟩ = some (.slice ac nc cc) ∧ u.cell? ⟨g5, 0, none⟩ = some (.slice av ini.length cv)) (by kernel_rfl) (by kernel_rfl) ⟨d0, d1, c5⟩ ?_
        simp only [pickO, List.filterMap_cons, List.filterMap_nil, List.getElem?_cons_zero, List.getElem?_cons_succ, Option.map_some, List.drop_succ_cons, List.drop_zero]
        iterate 2
          refine seqH_read _ rfl rfl (by rintro u ⟨hu1, hu2, hu3⟩; go_simp; with_reducible rfl) ?_
          try simp only [Act.put, List.setIfInBounds_toArray, List.set_cons_zero, List.set_cons_succ]
        refine seqH_move rfl rfl (fun K hK => ?_)
        refine wp_store_row 101 _ _ rfl (w.heap.size + 2) (spV F.length ac nc cc) rfl rfl 101 _ HB2.out sizeSp rfl (spV_one _ _ _ _) ?_
        refine hK _ _ ?_ ?_
        · refine ⟨?_, ?_, ?_⟩
          · rw [World.cell?_of_block (w := W.drew) (heap_setRow_other _ _ _ _ ho4)]; exact d0
          · rw [World.cell?_of_block (w := W.drew) (heap_setRow_other _ _ _ _ ho4)]; exact d1
          · rw [World.cell?_of_block (w := W.drew) (heap_setRow_other _ _ _ _ ho5)]; exact c5
        · clear hK K
          refine seqH_nil ?_
          go_wp2
          gi_wp2
          have hDr : (W.drew.setRow (w.heap.size + 2) (spV F.length ac nc cc)).heap[D]? = some (.deferred (some [])) := (heap_setRow_other _ _ _ _ (by omega)).trans HD.out
          have hx2 : (W.drew.setRow (w.heap.size + 2) (spV F.length ac nc cc)).heap[w.heap.size + 2]? = some (.cells (spV F.length ac nc cc) 101 (0, 0)) := heap_setRow_same _ _ _ _ _ HB2.out
          have hrb : (W.drew.setRow (w.heap.size + 2) (spV F.length ac nc cc)).ownsRow w2.heap.size 5 1 (.slice ac nc cc) nc (vals (packB (flipF F (ini.map (·.1))))) := owned_setRow (w := W.drew) HB.out HB2.out (by decide)
          have hri : (W.drew.setRow (w.heap.size + 2) (spV F.length ac nc cc)).ownsRow w2.heap.size 3 1 (.slice av ini.length cv) ini.length (ivals (ini.map (·.1))) := owned_setRow (w := W.drew) H6.out HB2.out (by decide)
          have hbl : Below w.heap.size w (W.drew.setRow (w.heap.size + 2) (spV F.length ac nc cc)) := below_setRow (HI.out.bel.drew) (by omega) _
          refine ⟨by simp, .inl ⟨_, _, rfl, run_takeDeferred hDr, ?_⟩⟩
          generalize W.drew.setRow (w.heap.size + 2) (spV F.length ac nc cc) = W2 at *
          have hlk : (W2.putObj D (.deferred none)).heap[w.heap.size + 2]? = some (.cells (spV F.length ac nc cc) 101 (0, 0)) := (World.putObj_heap_other (by omega)).trans hx2
          have htr : takeR F (M : Int) = (markF F ((frees F).take M), (frees F).take M, 0) := by
            rw [takeR, if_neg (by omega), if_neg (by rw [HFR.out]; omega), Int.toNat_natCast]
          have hlt : ((frees F).take M).length = ini.length := by rw [← HPM.out, List.length_map]
          rw [HPM.out, flip_take] at hrb
          rw [HPM.out] at hri
          rw [htr]
          have hfin := hbl.trans (belowK_b (w := w) (Nat.le_refl _) W2 D _ (.deferred none) (by omega) hDr rfl rfl)
          exact ⟨.tuple #[.agg (spV F.length ac nc cc), .slice av ini.length cv, .int .i64 0], results_cell_slots rfl _ _ (w.heap.size + 2) 101 (spV F.length ac nc cc) (0, 0) _ _ _ rfl hlk rfl rfl Tryz.underlying101 rfl sizeSp, ac, nc, cc, av, cv, by simp only [markF_len, hlt], owned_low (ownsRow_putObj hrb _ hDr rfl) (by omega), by rw [hlt]; exact owned_low (ownsRow_putObj hri _ hDr rfl) (by omega), hfin⟩

end Go.Proofs.YtjcmphjjkeigjaaGreat

namespace Go.Proofs.YtjcmphjjkeigjaaGreat
open Go.RowKit
set_option linter.unusedVariables false
set_option linter.unusedSimpArgs false
set_option maxRecDepth 100000

theorem came_owned {α : Type} {f : α → Value} {w : World} {base n cap : Nat} {a : Option Addr} {L : List α} {t : TypeId} (h : w.ownsRow base t 1 (.slice a n cap) n (L.map f)) : CameAt (fun x => [f x]) 1 w a n cap L := by
  have hl : L.length = n := by have := h.1; simpa using this
  rcases h.2 with ⟨h', h0⟩ | ⟨g, cap', cur, h', hb, hg, hnc, hcm, hcs, htake⟩
  · simp at h'
    obtain ⟨rfl, rfl, rfl⟩ := h'
    exact ⟨hl, Nat.le_refl _, by simp, by simp, .inl ⟨rfl, rfl, rfl⟩⟩
  · simp only [Value.slice.injEq, true_and] at h'
    obtain ⟨rfl, rfl⟩ := h'
    refine ⟨hl, hnc, hcm, by simp, .inr ⟨_, rfl, fun i j x hx hj => ?_⟩⟩
    obtain rfl : j = 0 := by omega
    have hi : i < L.length := (List.getElem?_eq_some_iff.1 hx).1
    rw [Addr.add_mid, Nat.zero_add, World.ownsRow.cellAt h (i * 1 + 0) (by omega), Nat.mul_one, Nat.add_zero, List.getElem?_map, hx]
    rfl
theorem ints_owned {w : World} {base n cap : Nat} {a : Option Addr} {P : List Nat} {t : TypeId} (h : w.ownsRow base t 1 (.slice a n cap) n (ivals P)) : IntsAt w a n cap (P.map Int.ofNat) := by
  have : ivals P = (P.map Int.ofNat).map fun z => .int .i64 z := by simp [ivals]
  rw [this] at h
  exact came_owned h
end Go.Proofs.YtjcmphjjkeigjaaGreat

namespace Go.Proofs.YtjcmphjjkeigjaaGreat
open Go.RowKit
set_option linter.unusedVariables false
set_option linter.unusedSimpArgs false
set_option maxRecDepth 100000

theorem ints1 (w : World) (z : Int) : IntsAt (w.alloc (.cells #[.int .i64 z] 3)) (some ⟨w.heap.size, 0, none⟩) 1 1 [z] := by
  refine ⟨rfl, Nat.le_refl _, by unfold maxLen; omega, by simp [intCS], .inr ⟨_, rfl, fun i j x hx hj => ?_⟩⟩
  obtain rfl : j = 0 := by omega
  have hi : i < 1 := (List.getElem?_eq_some_iff.1 hx).1
  obtain rfl : i = 0 := by omega
  simp only [List.getElem?_cons_zero, Option.some.injEq] at hx
  subst hx
  rw [Addr.add_mid, cell_of_row _ _ _ _ _ _ (heap_alloc_new w _)]
  rfl
def f5 : List Bool := List.replicate 5 false
/-! ### the contracts, as reading asks them -/
end Go.Proofs.YtjcmphjjkeigjaaGreat

namespace Go.Proofs.YtjcmphjjkeigjaaGreat
open Go.ChangeShapes Go.WideShapes Go.ChangeAt Go.RowKit Go.Deep
open Go.ChangeMaps (open_string shut_string)
set_option linter.unusedVariables false
set_option maxRecDepth 100000
set_option linter.unusedSimpArgs false

section
variable {H : Type} {enc : TypeId × Value → H} {W : World} {base : Nat} {sp : Nat → Bool} {held : Bool}

theorem trod_bytes {fuel : Nat} {cs : List Value} {y : DataW H × List MemPlace} (h : DataW.trod enc Tryz.prog W base sp held fuel 49 cs = some y) :
    ∃ a len cap l, cs = [.slice a len cap] ∧ BytesAt W a len cap l := by
  rcases open_ints Tryz.underlying49 Tryz.underlying5 (by kernel_rfl) h with ⟨hcs, _⟩ | ⟨x, l, c, zs, hcs, _, hl, hm, hz, _, hcell, hwz⟩
  · exact ⟨_, _, _, [], hcs, BytesAt.nil W⟩
  · refine ⟨_, _, _, (zs.take l).map (fun z => UInt8.ofNat z.toNat), hcs, ⟨by simp; split at hz <;> omega, hl, hm, .inr ⟨x, rfl, fun i hi => ?_⟩⟩⟩
    have hi2 : i < zs.length := by split at hz <;> omega
    rw [hcell i hi2]
    have hr : 0 ≤ zs[i] ∧ zs[i] ≤ 255 := by
      have := hwz zs[i] (List.getElem_mem hi2)
      simpa [Lit.wf, IntKind.min, IntKind.max, IntKind.signed, IntKind.bits] using this
    simp only [List.getD, List.getElem?_map, List.getElem?_take_of_lt hi, List.getElem?_eq_getElem hi2, Option.map_some, Option.getD_some]
    congr 2
    have : (UInt8.ofNat zs[i].toNat).toNat = zs[i].toNat := by simp; omega
    omega

/-- a slice of whatever elements, cell by cell -/
theorem slice_of {r : Reach} {b0 : Nat} {t e : TypeId} {v : Value} {d : DataW H} {p : List MemPlace} (ht : Tryz.prog.underlying t = some (.slice e))
    (hv : Value.okWide Tryz.prog W r b0 t v) (h : DataW.Trod enc Tryz.prog W base sp held t v d p) :
    v = .slice none 0 0 ∨ ∃ (x : Addr) (len cap : Nat), v = .slice (some x) len cap ∧ len ≤ cap ∧ cap ≤ maxLen ∧
      ∀ i, i < len → ∃ (cs : List Value) (n : Nat) (y : DataW H × List MemPlace), cs.length = Tryz.prog.cellsOf e ∧ (∀ j, j < cs.length → W.cell? (x.add (i * Tryz.prog.cellsOf e + j)) = cs[j]?) ∧ DataW.trod enc Tryz.prog W base sp held n e cs = some y := by
  obtain ⟨a, len, cap, rfl⟩ := okWide_slice ht hv
  obtain ⟨fuel, hf⟩ := h
  rcases open_slice ht hf with ⟨hcs, _⟩ | ⟨x, l, c, m, n, D, Pl, hcs, _, hl, hm, hmm, _, hx⟩
  · left
    simp [Value.cells] at hcs
    obtain ⟨rfl, rfl, rfl⟩ := hcs
    rfl
  · right
    simp [Value.cells] at hcs
    obtain ⟨rfl, rfl, rfl⟩ := hcs
    refine ⟨x, len, cap, rfl, hl, hm, fun i hi => ?_⟩
    obtain ⟨cs', h1, h2⟩ := hx i (by split at hmm <;> omega)
    obtain ⟨_, hlen, hat⟩ := World.cells?_some h1
    refine ⟨cs', n, _, hlen, fun j hj => ?_, h2⟩
    have := hat j (by omega)
    rw [← this, Go.Deep.add_add]

end
end Go.Proofs.YtjcmphjjkeigjaaGreat
