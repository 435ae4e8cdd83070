/-
  Contracts of package space: turn, Give, Mark.
-/
import Derived.Test.YtcmhijhoemcdcaaSpB
import Derived.Test.YtcmhijhoemcdcaaCame
import Derived.Deep.LoopGhost
namespace Go.Proofs.Ytcmhijhoemcdcaa
open Go.RowKit
set_option linter.unusedVariables false
set_option linter.unusedSimpArgs false
set_option maxRecDepth 100000

def intC (z : Int) : List Value := [.int .i64 z]
/-- a slice of ints that came in -/
def IntsAt := CameAt intC 1
theorem IntsAt.cell {w : World} {a : Option Addr} {n cap : Nat} {L : List Int} (h : IntsAt w a n cap L) (hn : 0 < n) :
    ∃ b off, a = some ⟨b, off, none⟩ ∧ b < w.heap.size ∧ ∀ i, i < n → w.cell? ⟨b, off + i, none⟩ = some (.int .i64 (L.getD i 0)) := by
  obtain ⟨b, off, h1, h2, h3⟩ := CameAt.at h hn (by omega)
  refine ⟨b, off, h1, h2, fun i hi => ?_⟩
  have hx : L[i]? = some (L.getD i 0) := by rw [List.getD, List.getElem?_eq_getElem (by have := h.1; omega)]; rfl
  have := h3 i 0 _ hx (by omega)
  simpa [intC] using this

theorem turnF_len (st : Bool) (e : Int) : ∀ (L : List Int) (F F' : List Bool), (turnF st e F L).1 = some F' → F'.length = F.length
  | [], F, F', h => by simp [turnF] at h; rw [← h]
  | p :: L, F, F', h => by
    unfold turnF at h
    split at h
    · cases h
    · split at h
      · cases h
      · have := turnF_len st e L _ F' h
        simpa using this

theorem isused_out (N : Int) (p : Nat) (a : Option Addr) (n cap : Nat) (F : List Bool) (w : World) (hp : p < F.length) (hF : F.length ≤ 2048) (h : BytesAt w a n cap (packB F)) :
    Calls Try.prog 26 #[.agg (spV N a n cap), .int .i64 p] w fun e w' => e = .returned (.bool (F.getD p false)) ∧ Below w.heap.size w w' := by
  have := isused_any N p a n cap _ w (by omega) h (by have := h.1; rw [packB_length] at this; omega)
  rwa [packB_bit] at this

theorem turn_no (N : Int) (a : Option Addr) (n cap : Nat) (l : List UInt8) (b : Value) (c : Bool) (e0 : Value) (w : World) (hb : BytesAt w a n cap l) (h : mayS N l = false) :
    Calls Try.prog 31 #[.agg (spV N a n cap), b, .bool c, e0] w (FreshSp (fun v => .tuple #[v, .int .i64 1]) [] w) := by
  have hb0 : Below w.heap.size w ((w.alloc (.cells (spV N a n cap) 24)).alloc (.cells (spV 0 none 0 0) 24)) := ((Below.refl _ w).alloc (Nat.le_refl _) _).alloc (by simp) _
  have CM := Lib.hid (may_any N a n cap l _ (hb.below hb0))
  rw [h] at CM
  have HB := Lib.hid hb0
  clear hb h hb0
  unfold spV at CM HB
  unfold spV
  go_enter Try.func31, Try.ntmps31
  go_wp2_with fail
  refine (CM.out).mono ?_
  rintro e w1 ⟨rfl, hb1⟩
  have hx := (hb1.block (w.heap.size + 1) (by simp)).trans (heap_alloc2_new _ _ _)
  have hz : w.heap.size ≤ w1.heap.size := Nat.le_trans (by simp; omega) hb1.size
  have HB1 := Lib.hid (HB.out.trans (hb1.mono (by simp; omega)))
  clear hb1
  go_wp2_with (refine wpList_store_row rfl _ _ _ rfl (w.heap.size + 1) (spV 0 none 0 0) rfl rfl 24 _ hx sizeSp rfl (spV_one _ _ _ _) ?_)
  exact bodyPost_ret (v := .tuple #[.agg (spV 0 none 0 0), .int .i64 1]) (results_cell_slot rfl _ _ (w.heap.size + 1) 24 (spV 0 none 0 0) (0, 0) _ _ rfl (heap_setRow_same _ _ _ _ _ hx) rfl Try.underlying24 rfl sizeSp) rfl ⟨none, 0, 0, rfl, World.ownsRow_nil _ _ _ _, below_setRow HB1.out (by omega) _⟩

theorem turn_ok (N : Int) (a : Option Addr) (n cap : Nat) (F : List Bool) (la : Option Addr) (ln lcap : Nat) (L : List Int) (u : Bool) (e0 : Int) (w : World) (h : SpAt w N a n cap F) (hl : IntsAt w la ln lcap L) :
    Calls Try.prog 31 #[.agg (spV N a n cap), .slice la ln lcap, .bool u, .int .i64 e0] w
      (FreshSp (fun v => .tuple #[v, .int .i64 (turnF (!u) e0 F L).2]) ((turnF (!u) e0 F L).1.getD []) w) := by
  have hb0 : Below w.heap.size w ((w.alloc (.cells (spV N a n cap) 24)).alloc (.cells (spV 0 none 0 0) 24)) := ((Below.refl _ w).alloc (Nat.le_refl _) _).alloc (by simp) _
  have CM := Lib.hid ((h.below hb0).may)
  have HS := Lib.hid h
  have HL := Lib.hid hl
  have hln : L.length = ln := hl.1
  have hlm : ln ≤ 9223372036854775807 := by have := hl.2.1; have := hl.2.2.1; unfold maxLen at *; omega
  have HF := Lib.hid h.len
  have HN := Lib.hid h.num
  have HB := Lib.hid hb0
  have HLN := Lib.hid hln
  clear h hl hb0 hln
  unfold spV at CM HB
  unfold spV
  go_enter Try.func31, Try.ntmps31
  go_wp2_with fail
  refine (CM.out).mono ?_
  rintro e w1 ⟨rfl, hb1⟩
  have hx0 := (hb1.block w.heap.size (by simp; omega)).trans (heap_alloc2_old _ _ _)
  have hx := (hb1.block (w.heap.size + 1) (by simp)).trans (heap_alloc2_new _ _ _)
  have hs1 : w.heap.size + 2 ≤ w1.heap.size := Nat.le_trans (by simp) hb1.size
  have HB1 := Lib.hid (HB.out.trans (hb1.mono (by simp; omega)))
  obtain ⟨d0, d1⟩ := sp_cells hx0
  have CC := Lib.hid (clone_sp N a n cap F w1 (HS.out.below HB1.out))
  have HX0 := Lib.hid hx0
  have HX := Lib.hid hx
  clear hb1 hx0 hx CM
  go_wp2_with fail
  refine (CC.out).mono ?_
  rintro e w2 ⟨a2, n2, cap2, rfl, ho2, hb2⟩
  have hy0 := (hb2.block w.heap.size (by omega)).trans HX0.out
  have hy1 := (hb2.block (w.heap.size + 1) (by omega)).trans HX.out
  have HB2 := Lib.hid (HB1.out.trans (hb2.mono (by omega)))
  have hs2 : w.heap.size + 2 ≤ w2.heap.size := Nat.le_trans hs1 hb2.size
  have HO2 := Lib.hid (owned_low ho2 (show w.heap.size ≤ w1.heap.size by omega))
  have HY0 := Lib.hid hy0
  have HY1 := Lib.hid hy1
  clear ho2 hb2 hy0 hy1 CC HX0 HX d0 d1
  unfold spV
  go_wp2
  have hz0 := (Below.heap_alloc w2 (.cells (spV F.length a2 n2 cap2) 24) w.heap.size (by omega)).trans HY0.out
  have hz1 := (Below.heap_alloc w2 (.cells (spV F.length a2 n2 cap2) 24) (w.heap.size + 1) (by omega)).trans HY1.out
  obtain ⟨o, ho⟩ : ∃ o, o = w2.heap.size := ⟨_, rfl⟩
  have hz2 : (w2.alloc (.cells (spV F.length a2 n2 cap2) 24)).heap[o]? = some (.cells (spV F.length a2 n2 cap2) 24 (0, 0)) := by rw [ho]; exact heap_alloc_new w2 (.cells (spV F.length a2 n2 cap2) 24)
  have ho2 : w.heap.size + 2 ≤ o := by omega
  have HB3 := Lib.hid (HB2.out.alloc HB2.out.size (.cells (spV F.length a2 n2 cap2) 24))
  have HO3 := Lib.hid (owned_below HO2.out ((Below.refl w2.heap.size w2).alloc (Nat.le_refl _) (.cells (spV F.length a2 n2 cap2) 24)))
  have hs3 : o < (w2.alloc (.cells (spV F.length a2 n2 cap2) 24)).heap.size := by rw [ho]; simp
  have HZ0 := Lib.hid hz0
  have HZ1 := Lib.hid hz1
  have HZ2 := Lib.hid hz2
  clear hz0 hz1 hz2 HY0 HY1 HO2
  unfold spV at HB3 HO3 HZ0 HZ1 HZ2 hs3
  generalize hw3 : w2.alloc (.cells #[.int .i64 (F.length : Int), .slice a2 n2 cap2] 24) = w3 at *
  rw [← ho]
  clear hw3 ho hs2 HB2
  go_loopw [21] (fun i wr => ∃ (k : Nat) (G : List Bool), k ≤ ln ∧ i = .int .i64 k ∧ G.length = F.length ∧ turnF (!u) e0 F L = turnF (!u) e0 G (L.drop k) ∧
      wr.heap[w.heap.size]? = some (.cells (spV N a n cap) 24 (0, 0)) ∧ wr.heap[w.heap.size + 1]? = some (.cells (spV 0 none 0 0) 24 (0, 0)) ∧ wr.heap[o]? = some (.cells (spV F.length a2 n2 cap2) 24 (0, 0)) ∧
      wr.ownsRow w.heap.size 5 1 (.slice a2 n2 cap2) n2 (vals (packB G)) ∧ Below w.heap.size w wr) (fun i _ => ln - (intOf i).toNat)
  case atStart => exact ⟨0, F, Nat.zero_le _, rfl, rfl, rfl, HZ0.out, HZ1.out, HZ2.out, HO3.out, HB3.out⟩
  case round =>
    obtain ⟨k, G, hk, rfl, hG, hT, hb0, hb1, hb2, hrow, hbw⟩ := hrel
    obtain ⟨d0, d1⟩ := sp_cells hb0
    obtain ⟨e0_, e1_⟩ := sp_cells hb2
    have HG := Lib.hid hG
    have HT := Lib.hid hT
    have H0 := Lib.hid hb0
    have H1 := Lib.hid hb1
    have H2 := Lib.hid hb2
    have HR := Lib.hid hrow
    have HW := Lib.hid hbw
    clear hG hT hb0 hb1 hb2 hrow hbw
    by_cases hlt : k < ln
    · have hki : (k : Int) < ln := by omega
      obtain ⟨lb, loff, rfl, hlb, hlc⟩ := IntsAt.cell (CameAt.below HL.out (by omega) HW.out) (by omega)
      have hlk := hlc k hlt
      have hdrop : L.drop k = L.getD k 0 :: L.drop (k + 1) := by
        rw [List.drop_eq_getElem_cons (by rw [HLN.out]; exact hlt), List.getD, List.getElem?_eq_getElem (by rw [HLN.out]; exact hlt)]; rfl
      have ht := HT.out
      rw [hdrop] at ht
      clear hlc hdrop
      generalize L.getD k 0 = p at *
      have CH := Lib.hid (fun u => has_any N p a n cap u)
      by_cases hp : p < 0 ∨ (G.length : Int) ≤ p
      · have e1 : (decide (0 ≤ p) && decide (p < N)) = false := by
          rw [Bool.and_eq_false_iff, decide_eq_false_iff_not, decide_eq_false_iff_not]; have := HG.out; have := HN.out; omega
        rw [e1] at CH
        rw [turnF, if_pos hp] at ht
        have HTT := Lib.hid ht
        clear ht e1 hp
        unfold spV at CH
        go_wp2_with fail
        refine (CH.out _).mono ?_
        rintro e w4 ⟨rfl, hb4⟩
        have h1 := (hb4.block (w.heap.size + 1) (Array.getElem?_eq_some_iff.1 H1.out).1).trans H1.out
        go_wp2_with (refine wpList_store_row rfl _ _ _ rfl (w.heap.size + 1) (spV 0 none 0 0) rfl rfl 24 _ h1 sizeSp rfl (spV_one _ _ _ _) ?_)
        rw [HTT.out]
        exact bodyPost_ret (v := .tuple #[.agg (spV 0 none 0 0), .int .i64 4]) (results_cell_slot rfl _ _ (w.heap.size + 1) 24 (spV 0 none 0 0) (0, 0) _ _ rfl (heap_setRow_same _ _ _ _ _ h1) rfl Try.underlying24 rfl sizeSp) rfl ⟨none, 0, 0, rfl, World.ownsRow_nil _ _ _ _, below_setRow (HW.out.trans (hb4.mono HW.out.size)) (by omega) _⟩
      · obtain ⟨q, rfl⟩ : ∃ q : Nat, p = q := ⟨p.toNat, by omega⟩
        have hq : q < G.length := by omega
        have e1 : (decide (0 ≤ (q : Int)) && decide ((q : Int) < N)) = true := by simp; have := HG.out; have := HN.out; omega
        rw [e1] at CH
        rw [turnF, if_neg hp] at ht
        have hGl : G.length ≤ 2048 := by rw [HG.out]; exact HF.out
        clear e1 hp
        unfold spV at CH
        go_wp2_with fail
        refine (CH.out _).mono ?_
        rintro e w4 ⟨rfl, hb4⟩
        have h0 := (hb4.block w.heap.size (Array.getElem?_eq_some_iff.1 H0.out).1).trans H0.out
        have h1 := (hb4.block (w.heap.size + 1) (Array.getElem?_eq_some_iff.1 H1.out).1).trans H1.out
        have h2 := (hb4.block o (Array.getElem?_eq_some_iff.1 H2.out).1).trans H2.out
        obtain ⟨f0_, f1_⟩ := sp_cells h2
        have hr4 := owned_below HR.out hb4
        have hw4 := HW.out.trans (hb4.mono HW.out.size)
        have CU := Lib.hid (isused_out F.length q a2 n2 cap2 G w4 hq hGl (BytesAt.owned hr4))
        unfold spV at CU
        simp only [Int.toNat_natCast] at ht
        obtain ⟨r, hr⟩ : ∃ r, r = G.getD q false := ⟨_, rfl⟩
        rw [← hr] at CU ht
        have HRR := Lib.hid hr
        have HH0 := Lib.hid h0
        have HH1 := Lib.hid h1
        have HH2 := Lib.hid h2
        have HR4 := Lib.hid hr4
        have HW4 := Lib.hid hw4
        clear h0 h1 h2 hr4 hw4 d0 d1 hlk e0_ e1_ hlb hr
        by_cases hu : r = u
        · subst hu
          rw [if_pos (by cases r <;> simp)] at ht
          have HTT := Lib.hid ht
          have hrr : (r == r) = true := by simp
          clear ht
          go_wp2_with fail
          refine (CU.out).mono ?_
          rintro e w5 ⟨rfl, hb5⟩
          have h1 := (hb5.block (w.heap.size + 1) (Array.getElem?_eq_some_iff.1 HH1.out).1).trans HH1.out
          have hw5 := HW4.out.trans (hb5.mono HW4.out.size)
          go_wp2_with (refine wpList_store_row rfl _ _ _ rfl (w.heap.size + 1) (spV 0 none 0 0) rfl rfl 24 _ h1 sizeSp rfl (spV_one _ _ _ _) ?_)
          rw [HTT.out]
          exact bodyPost_ret (v := .tuple #[.agg (spV 0 none 0 0), .int .i64 e0]) (results_cell_slot rfl _ _ (w.heap.size + 1) 24 (spV 0 none 0 0) (0, 0) _ _ rfl (heap_setRow_same _ _ _ _ _ h1) rfl Try.underlying24 rfl sizeSp) rfl ⟨none, 0, 0, rfl, by rw [show vals (packB (((none : Option (List Bool)), e0).fst.getD [])) = [] from by simp [packB, vals]]; exact World.ownsRow_nil _ _ _ _, below_setRow hw5 (by omega) _⟩
        · obtain rfl : r = !u := by cases r <;> cases u <;> simp_all
          rw [if_neg (by simp)] at ht
          have HTT := Lib.hid ht
          have hrr : ((!u) == u) = false := by cases u <;> rfl
          clear ht hu
          obtain ⟨g2, rfl⟩ : ∃ g2, a2 = some ⟨g2, 0, none⟩ := by
            rcases HR4.out.2 with ⟨h', h0⟩ | ⟨g', cap', cur, h', _⟩
            · have := HR4.out.1; rw [vals_length, packB_length] at this; omega
            · simp only [Value.slice.injEq] at h'; exact ⟨g', h'.1⟩
          go_wp2_with fail
          refine (CU.out).mono ?_
          rintro e w5 ⟨rfl, hb5⟩
          have h0 := (hb5.block w.heap.size (Array.getElem?_eq_some_iff.1 HH0.out).1).trans HH0.out
          have h1 := (hb5.block (w.heap.size + 1) (Array.getElem?_eq_some_iff.1 HH1.out).1).trans HH1.out
          have h2 := (hb5.block o (Array.getElem?_eq_some_iff.1 HH2.out).1).trans HH2.out
          have hr5 := owned_below HR4.out hb5
          have hw5 := HW4.out.trans (hb5.mono HW4.out.size)
          have CF := Lib.hid (flip_any F.length q w.heap.size g2 n2 cap2 G w5 hq hGl hr5)
          rw [← HRR.out, Bool.not_not] at CF
          unfold spV at CF
          obtain ⟨f0, f1⟩ := sp_cells h2
          have hg0 := owned_ne hr5 h0 (by decide) g2 rfl
          have hg1 := owned_ne hr5 h1 (by decide) g2 rfl
          have hg2 := owned_ne hr5 h2 (by decide) g2 rfl
          have hg3 : w.heap.size ≤ g2 := (hr5.lt g2 rfl).1
          have HX0 := Lib.hid h0
          have HX1 := Lib.hid h1
          have HX2 := Lib.hid h2
          have HW5 := Lib.hid hw5
          clear h0 h1 h2 hr5 hw5
          go_wp2_with fail
          refine (CF.out).mono ?_
          rintro e w6 ⟨rfl, hr6, ho6⟩
          have h0 := (ho6.block w.heap.size (Array.getElem?_eq_some_iff.1 HX0.out).1 (fun e => hg0 e.symm)).trans HX0.out
          have h1 := (ho6.block (w.heap.size + 1) (Array.getElem?_eq_some_iff.1 HX1.out).1 (fun e => hg1 e.symm)).trans HX1.out
          have h2 := (ho6.block o (Array.getElem?_eq_some_iff.1 HX2.out).1 (fun e => hg2 e.symm)).trans HX2.out
          have hw6 := HW5.out.trans (ho6.below (B := w.heap.size) HW5.out.size (fun i hi e => by omega))
          have HX0' := Lib.hid h0
          have HX1' := Lib.hid h1
          have HX2' := Lib.hid h2
          have HW6 := Lib.hid hw6
          have HR6 := Lib.hid hr6
          clear h0 h1 h2 hr6 hw6 ho6
          go_wp2
          go_roundw
          case rel => exact ⟨k + 1, G.set q u, by omega, by go_num, by rw [List.length_set]; exact HG.out, by rw [HTT.out, Bool.not_not], HX0'.out, HX1'.out, HX2'.out, HR6.out, HW6.out⟩
          case measure => simp [intOf]; omega
    · obtain rfl : k = ln := by omega
      go_wp2_with (refine wpList_store_row rfl _ _ _ rfl (w.heap.size + 1) (spV F.length a2 n2 cap2) rfl rfl 24 _ H1.out sizeSp rfl (spV_one _ _ _ _) ?_)
      have ht := HT.out
      rw [List.drop_of_length_le (by rw [HLN.out]; omega)] at ht
      rw [ht]
      exact bodyPost_ret (v := .tuple #[.agg (spV F.length a2 n2 cap2), .int .i64 0]) (results_cell_slot rfl _ _ (w.heap.size + 1) 24 (spV F.length a2 n2 cap2) (0, 0) _ _ rfl (heap_setRow_same _ _ _ _ _ H1.out) rfl Try.underlying24 rfl sizeSp) rfl ⟨a2, n2, cap2, by rw [← HG.out]; rfl, owned_setRow HR.out H1.out (by decide), below_setRow HW.out (by omega) _⟩

theorem give_ok (N : Int) (a : Option Addr) (n cap : Nat) (F : List Bool) (la : Option Addr) (ln lcap : Nat) (L : List Int) (w : World) (h : SpAt w N a n cap F) (hl : IntsAt w la ln lcap L) :
    Calls Try.prog 19 #[.agg (spV N a n cap), .slice la ln lcap] w
      (FreshSp (fun v => .tuple #[v, .int .i64 (turnF true 6 F L).2]) ((turnF true 6 F L).1.getD []) w) := by
  have hb0 : Below w.heap.size w ((w.alloc (.cells (spV N a n cap) 24)).alloc (.cells (spV 0 none 0 0) 24)) := ((Below.refl _ w).alloc (Nat.le_refl _) _).alloc (by simp) _
  have CT := Lib.hid (turn_ok N a n cap F la ln lcap L false 6 _ (h.below hb0) (CameAt.below hl (by omega) hb0))
  have HB := Lib.hid hb0
  clear h hl hb0
  rw [Bool.not_false] at CT
  generalize turnF true 6 F L = T at *
  unfold spV at CT HB
  unfold spV
  go_enter Try.func19, Try.ntmps19
  go_wp2_with fail
  refine (CT.out).mono ?_
  rintro e w1 ⟨a1, n1, cap1, rfl, ho1, hb1⟩
  have hx := (hb1.block (w.heap.size + 1) (by simp)).trans (heap_alloc2_new _ _ _)
  have ho2 := owned_low ho1 (show w.heap.size ≤ _ by simp; omega)
  have hw1 := HB.out.trans (hb1.mono (by simp; omega))
  clear hb1 ho1
  unfold spV
  go_wp2_with (refine wpList_store_row rfl _ _ _ rfl (w.heap.size + 1) (spV (T.1.getD []).length a1 n1 cap1) rfl rfl 24 _ hx sizeSp rfl (spV_one _ _ _ _) ?_)
  exact bodyPost_ret (v := .tuple #[.agg (spV (T.1.getD []).length a1 n1 cap1), .int .i64 T.2]) (results_cell_slot rfl _ _ (w.heap.size + 1) 24 (spV (T.1.getD []).length a1 n1 cap1) (0, 0) _ _ rfl (heap_setRow_same _ _ _ _ _ hx) rfl Try.underlying24 rfl sizeSp) rfl ⟨a1, n1, cap1, rfl, owned_setRow ho2 hx (by decide), below_setRow hw1 (by omega) _⟩

theorem give_no (N : Int) (a : Option Addr) (n cap : Nat) (l : List UInt8) (b : Value) (w : World) (hb : BytesAt w a n cap l) (h : mayS N l = false) :
    Calls Try.prog 19 #[.agg (spV N a n cap), b] w (FreshSp (fun v => .tuple #[v, .int .i64 1]) [] w) := by
  have hb0 : Below w.heap.size w ((w.alloc (.cells (spV N a n cap) 24)).alloc (.cells (spV 0 none 0 0) 24)) := ((Below.refl _ w).alloc (Nat.le_refl _) _).alloc (by simp) _
  have CT := Lib.hid (turn_no N a n cap l b false (.int .i64 6) _ (hb.below hb0) h)
  have HB := Lib.hid hb0
  clear h hb hb0
  unfold spV at CT HB
  unfold spV
  go_enter Try.func19, Try.ntmps19
  go_wp2_with fail
  refine (CT.out).mono ?_
  rintro e w1 ⟨a1, n1, cap1, rfl, ho1, hb1⟩
  have hx := (hb1.block (w.heap.size + 1) (by simp)).trans (heap_alloc2_new _ _ _)
  have ho2 := owned_low ho1 (show w.heap.size ≤ _ by simp; omega)
  have hw1 := HB.out.trans (hb1.mono (by simp; omega))
  clear hb1 ho1
  unfold spV
  go_wp2_with (refine wpList_store_row rfl _ _ _ rfl (w.heap.size + 1) (spV 0 a1 n1 cap1) rfl rfl 24 _ hx sizeSp rfl (spV_one _ _ _ _) ?_)
  exact bodyPost_ret (v := .tuple #[.agg (spV 0 a1 n1 cap1), .int .i64 1]) (results_cell_slot rfl _ _ (w.heap.size + 1) 24 (spV 0 a1 n1 cap1) (0, 0) _ _ rfl (heap_setRow_same _ _ _ _ _ hx) rfl Try.underlying24 rfl sizeSp) rfl ⟨a1, n1, cap1, rfl, owned_setRow ho2 hx (by decide), below_setRow hw1 (by omega) _⟩

theorem mark_ok (N : Int) (a : Option Addr) (n cap : Nat) (F : List Bool) (la : Option Addr) (ln lcap : Nat) (L : List Int) (w : World) (h : SpAt w N a n cap F) (hl : IntsAt w la ln lcap L) :
    Calls Try.prog 20 #[.agg (spV N a n cap), .slice la ln lcap] w
      (FreshSp (fun v => .tuple #[v, .int .i64 (turnF false 15 F L).2]) ((turnF false 15 F L).1.getD []) w) := by
  have hb0 : Below w.heap.size w ((w.alloc (.cells (spV N a n cap) 24)).alloc (.cells (spV 0 none 0 0) 24)) := ((Below.refl _ w).alloc (Nat.le_refl _) _).alloc (by simp) _
  have CT := Lib.hid (turn_ok N a n cap F la ln lcap L true 15 _ (h.below hb0) (CameAt.below hl (by omega) hb0))
  have HB := Lib.hid hb0
  clear h hl hb0
  rw [Bool.not_true] at CT
  generalize turnF false 15 F L = T at *
  unfold spV at CT HB
  unfold spV
  go_enter Try.func20, Try.ntmps20
  go_wp2_with fail
  refine (CT.out).mono ?_
  rintro e w1 ⟨a1, n1, cap1, rfl, ho1, hb1⟩
  have hx := (hb1.block (w.heap.size + 1) (by simp)).trans (heap_alloc2_new _ _ _)
  have ho2 := owned_low ho1 (show w.heap.size ≤ _ by simp; omega)
  have hw1 := HB.out.trans (hb1.mono (by simp; omega))
  clear hb1 ho1
  unfold spV
  go_wp2_with (refine wpList_store_row rfl _ _ _ rfl (w.heap.size + 1) (spV (T.1.getD []).length a1 n1 cap1) rfl rfl 24 _ hx sizeSp rfl (spV_one _ _ _ _) ?_)
  exact bodyPost_ret (v := .tuple #[.agg (spV (T.1.getD []).length a1 n1 cap1), .int .i64 T.2]) (results_cell_slot rfl _ _ (w.heap.size + 1) 24 (spV (T.1.getD []).length a1 n1 cap1) (0, 0) _ _ rfl (heap_setRow_same _ _ _ _ _ hx) rfl Try.underlying24 rfl sizeSp) rfl ⟨a1, n1, cap1, rfl, owned_setRow ho2 hx (by decide), below_setRow hw1 (by omega) _⟩

theorem mark_no (N : Int) (a : Option Addr) (n cap : Nat) (l : List UInt8) (b : Value) (w : World) (hb : BytesAt w a n cap l) (h : mayS N l = false) :
    Calls Try.prog 20 #[.agg (spV N a n cap), b] w (FreshSp (fun v => .tuple #[v, .int .i64 1]) [] w) := by
  have hb0 : Below w.heap.size w ((w.alloc (.cells (spV N a n cap) 24)).alloc (.cells (spV 0 none 0 0) 24)) := ((Below.refl _ w).alloc (Nat.le_refl _) _).alloc (by simp) _
  have CT := Lib.hid (turn_no N a n cap l b true (.int .i64 15) _ (hb.below hb0) h)
  have HB := Lib.hid hb0
  clear h hb hb0
  unfold spV at CT HB
  unfold spV
  go_enter Try.func20, Try.ntmps20
  go_wp2_with fail
  refine (CT.out).mono ?_
  rintro e w1 ⟨a1, n1, cap1, rfl, ho1, hb1⟩
  have hx := (hb1.block (w.heap.size + 1) (by simp)).trans (heap_alloc2_new _ _ _)
  have ho2 := owned_low ho1 (show w.heap.size ≤ _ by simp; omega)
  have hw1 := HB.out.trans (hb1.mono (by simp; omega))
  clear hb1 ho1
  unfold spV
  go_wp2_with (refine wpList_store_row rfl _ _ _ rfl (w.heap.size + 1) (spV 0 a1 n1 cap1) rfl rfl 24 _ hx sizeSp rfl (spV_one _ _ _ _) ?_)
  exact bodyPost_ret (v := .tuple #[.agg (spV 0 a1 n1 cap1), .int .i64 1]) (results_cell_slot rfl _ _ (w.heap.size + 1) 24 (spV 0 a1 n1 cap1) (0, 0) _ _ rfl (heap_setRow_same _ _ _ _ _ hx) rfl Try.underlying24 rfl sizeSp) rfl ⟨a1, n1, cap1, rfl, owned_setRow ho2 hx (by decide), below_setRow hw1 (by omega) _⟩

end Go.Proofs.Ytcmhijhoemcdcaa
