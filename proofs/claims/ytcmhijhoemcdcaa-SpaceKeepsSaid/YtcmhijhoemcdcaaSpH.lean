/-
  The document's own answers for layer 5 (hamperref05): Take, Turn.
-/
import Derived.Test.YtcmhijhoemcdcaaSpG
namespace Go.Proofs.Ytcmhijhoemcdcaa
open Go.RowKit
set_option linter.unusedVariables false
set_option linter.unusedSimpArgs false
set_option maxRecDepth 100000

theorem bvals_one (l : List Bool) : ∀ u ∈ bvals l, u.oneCell' = true := by
  intro u hu
  simp only [bvals, List.mem_map] at hu
  obtain ⟨b, _, rfl⟩ := hu
  rfl
/-- truth values laid behind a row of the call's own, whatever slice they come from -/
theorem wpList_append_bools {w : World} {ops : Array Oper} {rest : List Oper} {o : Oper} {a : Act} {Q : Exit → Act → World → Prop} (hgd : o.guard = none) (s x : Operand)
    (ho : o.op = .call { callee := .builtin .append, args := #[s, x], argTypes := #[31, 31] })
    (base : Nat) (v : Value) (n : Nat) (xs : List Value) (hs : a.eval s = v) (hown : w.ownsRow base 4 1 v n xs)
    (sa : Option Addr) (m c : Nat) (l : List Bool) (hx : a.eval x = .slice sa m c) (hsrc : BoolsAt w sa m c l) (N : Nat) (hN : N = n + m)
    (h63 : N ≤ 140737488355328) (hbase : base ≤ w.heap.size)
    (h : ∀ a' cap' w', w'.ownsRow base 4 1 (.slice a' N cap') N (xs ++ bvals l) → w.grownBy w' v.ownBlock → wpList Try.prog ops Q rest (a.put o.dst (.slice a' N cap')) w') : wpList Try.prog ops Q (o :: rest) a w := by
  obtain ⟨i0, hi, hz0, hz1, hz2⟩ := info_parts infoBool
  subst hN
  obtain ⟨h1, h2, h3, h5, h4⟩ := hsrc
  rcases h4 with ⟨rfl, rfl, rfl⟩ | ⟨ad, rfl, hc⟩
  · have : l = [] := List.eq_nil_of_length_eq_zero h1
    subst this
    refine wpList_append_own_none hgd s x 31 ho base 4 i0 1 Try.underlying31 hi v n xs hs hown hx ?_
    obtain ⟨a', cap', rfl⟩ := owned_shape hown
    have := h a' cap' w (by simpa [bvals] using hown) (World.grownBy.refl _ _)
    simpa using this
  · subst h1
    refine wpList_append_own w hgd s x 31 ho base 4 i0 (.bool false) 1 1 Try.underlying31 hi hz0 hz1 hz2 rfl (by decide) v n xs hs hown ad l.length c (bvals l) hx (by simp [bvals]) ?_ (bvals_one l) (by unfold maxLen; omega) (by omega) hbase ?_
    · intro j u hj
      have hj' : j < l.length := by
        have := (List.getElem?_eq_some_iff.1 hj).1
        simpa [bvals] using this
      have := hc j 0 l[j] (List.getElem?_eq_getElem hj') (by omega)
      rw [Nat.mul_one, Nat.add_zero] at this
      rw [this, ← hj]
      simp [boolC, bvals, List.getElem?_eq_getElem hj']
    · intro v' w' ho' hg' _
      obtain ⟨a', cap', rfl⟩ := owned_shape ho'
      exact h a' cap' w' ho' hg'
theorem bvals_set (l : List Bool) (i : Nat) (b : Bool) : (bvals l).set i (.bool b) = bvals (l.set i b) := by simp [bvals, List.map_set]
theorem bvals_at (l : List Bool) (i : Nat) (h : i < l.length) : (bvals l)[i]? = some (.bool (l.getD i false)) := by simp [bvals, List.getD, List.getElem?_eq_getElem h]

theorem markF_snoc (F : List Bool) (P : List Nat) (p : Nat) : markF F (P ++ [p]) = (markF F P).set p true := by simp [markF, List.foldl_append]
theorem row_block {w : World} {base n cap : Nat} {a : Option Addr} {xs : List Value} {t : TypeId} (h : w.ownsRow base t 1 (.slice a n cap) n xs) (hn : 0 < n) : ∃ g cur, a = some ⟨g, 0, none⟩ ∧ w.heap[g]? = some (.cells cur t (0, 0)) ∧ base ≤ g := by
  rcases h.2 with ⟨h', h0⟩ | ⟨g', cap', cur, h', hb, hg, _⟩
  · omega
  · simp only [Value.slice.injEq] at h'
    exact ⟨g', cur, h'.1, hg, hb⟩
theorem freeB_take (F : List Bool) (i K : Nat) (hi : i ≤ F.length) (h : (freeB F i).length = K ∨ (i = F.length ∧ (freeB F i).length ≤ K)) : freeB F i = (frees F).take K := by
  rcases h with h | ⟨rfl, h⟩
  · have := List.prefix_iff_eq_take.1 (freeB_prefix F hi)
    rwa [h] at this
  · rw [List.take_of_length_le (by exact h)]; rfl

def RTakeTo (F : List Bool) (K : Nat) (w : World) (e : Ending) (w' : World) : Prop :=
  ∃ av cv pv dv, e = .returned (.tuple #[.slice av F.length cv, .slice pv ((frees F).take K).length dv, .bool (((frees F).take K).length == K)]) ∧
    w'.ownsRow w.heap.size 4 1 (.slice av F.length cv) F.length (bvals (markF F ((frees F).take K))) ∧ w'.ownsRow w.heap.size 3 1 (.slice pv ((frees F).take K).length dv) ((frees F).take K).length (ivals ((frees F).take K)) ∧ Below w.heap.size w w'

set_option maxHeartbeats 4000000 in
theorem rtake_any (a : Option Addr) (n cap : Nat) (F : List Bool) (K : Nat) (w : World) (h : BoolsAt w a n cap F) (hn : n ≤ 2048) (hK : K ≤ 9223372036854775807) :
    Calls Try.prog 21 #[.slice a n cap, .int .i64 K] w (RTakeTo F K w) := by
  obtain ⟨i0, hi, hz0, hz1, hz2⟩ := info_parts infoBool
  have hbs : ∀ u, (Instr.buildSlice 31 0 #[]).run Try.prog u = .ok (.slice (some ⟨u.heap.size, 0, none⟩) 0 0) (u.alloc (.cells #[] 4)) := fun u => by
    simp [Instr.buildSlice, run_underlying Try.underlying31, sizeOf, typeInfo, hi, Instr.fill, newRow, Array.range_zero']
  have hb0 : Below w.heap.size w (w.alloc (.cells #[] 4)) := (Below.refl _ _).alloc (Nat.le_refl _) _
  have HO := Lib.hid (show (w.alloc (.cells #[] 4)).ownsRow w.heap.size 4 1 (.slice (some ⟨w.heap.size, 0, none⟩) 0 0) 0 [] from ⟨rfl, .inr ⟨w.heap.size, 0, #[], rfl, Nat.le_refl _, heap_alloc_new w _, by omega, by unfold maxLen; omega, rfl, rfl⟩⟩)
  have HS := Lib.hid (CameAt.below h (by omega) hb0)
  have HN := Lib.hid (show F.length = n from h.1)
  clear h hi hz0 hz1 hz2
  obtain ⟨j0, ji, jz0, jz1, jz2⟩ := info_parts infoInt
  go_enter Try.func21, Try.ntmps21
  go_wp2_with (at_builtin; refine wpList_append_bools rfl _ _ rfl w.heap.size (.slice (some ⟨w.heap.size, 0, none⟩) 0 0) 0 [] rfl HO.out a n cap F rfl HS.out n (by omega) (by omega) hb0.size ?_; intro a3 cap3 w3 ho3 hg3)
  have hb3 : Below w.heap.size w w3 := hb0.grown hg3 hb0.size (fun k hk => by simp [Value.ownBlock] at hk; omega)
  have HO3 := Lib.hid ho3
  have HB3 := Lib.hid hb3
  clear ho3 hg3 hb3 hb0
  go_loopw [8, 9] (fun s8 s9 wr => ∃ i : Nat, i ≤ n ∧ s9 = .int .i64 i ∧ (freeB F i).length ≤ K ∧ (∃ pv dv, s8 = .slice pv (freeB F i).length dv ∧ wr.ownsRow w.heap.size 3 1 (.slice pv (freeB F i).length dv) (freeB F i).length (ivals (freeB F i))) ∧ wr.ownsRow w.heap.size 4 1 (.slice a3 n cap3) n (bvals (markF F (freeB F i))) ∧ Below w.heap.size w wr) (fun _ s9 _ => n - (intOf s9).toNat)
  case atStart => exact ⟨0, Nat.zero_le _, rfl, by simp [freeB], ⟨none, 0, by simp [freeB], by simpa [freeB, ivals] using World.ownsRow_nil _ _ _ _⟩, by simpa [freeB, markF] using HO3.out, HB3.out⟩
  case round =>
    obtain ⟨i, hin, rfl, hlK, ⟨pv, dv, rfl, hpo⟩, hbo, hb⟩ := hrel
    obtain ⟨P, hP⟩ : ∃ P, P = freeB F i := ⟨_, rfl⟩
    obtain ⟨c, hc⟩ : ∃ c, c = P.length := ⟨_, rfl⟩
    have hcn : c ≤ i := by rw [hc, hP]; exact freeB_len F i
    rw [← hP, ← hc] at hpo hlK
    rw [← hP] at hbo
    rw [← hP, ← hc]
    have HPE := Lib.hid hP
    have HCE := Lib.hid hc
    have HPO := Lib.hid hpo
    have HBO := Lib.hid hbo
    have HB := Lib.hid hb
    have hbs2 := hb.size
    clear hP hc hpo hbo hb
    by_cases h12 : i < n ∧ c < K
    · obtain ⟨hlt, hcK⟩ := h12
      have hii : (i : Int) < n := by omega
      have hcKi : (c : Int) < K := by omega
      obtain ⟨g, cur, rfl, hg, hgb⟩ := row_block HBO.out (by omega)
      have hml : (markF F P).length = n := by rw [markF_len]; exact HN.out
      have hcell := World.ownsRow.cellAt HBO.out i (by omega)
      rw [bvals_at _ _ (by rw [hml]; exact hlt)] at hcell
      have hmi : (markF F P).getD i false = F.getD i false := by
        rw [markF_getD, HPE.out]
        have : decide (i ∈ freeB F i) = false := by simp [freeB]
        rw [this]; simp
      rw [hmi] at hcell
      have hfr := World.ownsRow.frozenAt HBO.out i
      have hsu := freeB_succ F i
      rw [← HPE.out] at hsu
      cases hv : F.getD i false with
      | true =>
        rw [hv] at hcell hsu
        rw [if_pos rfl, List.append_nil] at hsu
        have HSU := Lib.hid hsu
        clear hml hmi hsu hv
        go_wp2
        go_roundw
        case rel => exact ⟨i + 1, by omega, by go_num, by rw [HSU.out, ← HCE.out]; exact hlK, ⟨pv, dv, by rw [HSU.out, ← HCE.out], by rw [HSU.out, ← HCE.out]; exact HPO.out⟩, by rw [HSU.out]; exact HBO.out, HB.out⟩
        case measure => simp [intOf]; omega
      | false =>
        rw [hv] at hcell hsu
        rw [if_neg (by simp)] at hsu
        have hst := (World.ownsRow.stored HBO.out i (.bool true)).1
        rw [bvals_set, ← markF_snoc, ← hsu] at hst
        have hpo2 : (wr.setCell ⟨g, i, none⟩ (.bool true)).ownsRow w.heap.size 3 1 (.slice pv c dv) c (ivals P) := owned_setCell HPO.out hg (by decide)
        have hb2 := HB.out.setCell (p := ⟨g, i, none⟩) hgb (.bool true)
        have HSU := Lib.hid hsu
        have HST := Lib.hid hst
        have HP2 := Lib.hid hpo2
        have HB2 := Lib.hid hb2
        have hg2 : (wr.setCell ⟨g, i, none⟩ (.bool true)).heap[g]? = some (.cells (cur.setIfInBounds i (.bool true)) 4 (0, 0)) := heap_setCell_same _ _ _ _ _ _ hg
        have HG2 := Lib.hid hg2
        have hsz2 : (wr.setCell ⟨g, i, none⟩ (.bool true)).heap.size = wr.heap.size := by simp [World.setCell]
        clear hml hmi hsu hv hst hpo2 hb2 hg2
        go_upto_region 8 with (fail)
        generalize hw2 : wr.setCell ⟨g, i, none⟩ (.bool true) = w2 at *
        have hws : w.heap.size ≤ w2.heap.size := by rw [hsz2]; exact hbs2
        clear hw2 hcell hfr hg hsz2
        go_wp2_with (at_builtin; refine wpList_append_own _ rfl _ _ 34 rfl w.heap.size 3 j0 (.int .i64 0) 1 8 Try.underlying34 ji jz0 jz1 jz2 rfl (by decide) _ c _ rfl (HP2.out.alloc _) ⟨w2.heap.size, 0, none⟩ 1 1 [.int .i64 (i : Int)] rfl rfl (cell_one_new _ _ _) (by simp [Value.oneCell']) (by unfold maxLen; omega) (by omega) (by simp; omega) ?_; intro v' w4 hown' hgrow _; obtain ⟨g', cap', rfl⟩ := ownsRow_succ hown'; have hb4 := grown_below' HP2.out HB2.out hws hgrow; have hbo4 : w4.ownsRow w.heap.size 4 1 (.slice (some ⟨g, 0, none⟩) n cap3) n (bvals (markF F (freeB F (i + 1)))) := owned_keep HST.out (fun k hk => by simp only [Value.ownBlock, Option.some.injEq] at hk; subst hk; exact (grown_cells HP2.out HG2.out (by decide) hgrow).trans HG2.out.symm))
        have HB4 := Lib.hid hb4
        have HBO4 := Lib.hid hbo4
        have HPO4 := Lib.hid hown'
        clear hb4 hbo4 hown' hgrow
        go_roundw
        case rel =>
          have hsl : (freeB F (i + 1)).length = c + 1 := by rw [HSU.out, List.length_append, ← HCE.out]; rfl
          exact ⟨i + 1, by omega, by go_num, by rw [hsl]; omega, ⟨_, _, by rw [hsl], by rw [hsl, HSU.out]; simpa [ivals] using HPO4.out⟩, HBO4.out, HB4.out⟩
        case measure => simp [intOf]; omega
    · have hex : freeB F i = (frees F).take K := freeB_take F i K (by rw [HN.out]; exact hin) (by rw [← HPE.out, ← HCE.out, HN.out]; omega)
      rw [← HPE.out] at hex
      have HEX := Lib.hid hex
      clear hex
      have hx : ¬ i < n ∨ (i < n ∧ ¬ c < K) := by omega
      clear h12
      have hfin : RTakeTo F K w (.returned (.tuple #[.slice a3 n cap3, .slice pv c dv, .bool ((c : Int) == (K : Int))])) wr := by
        unfold RTakeTo
        rw [← HEX.out, ← HCE.out, HN.out]
        refine ⟨a3, cap3, pv, dv, ?_, HBO.out, HPO.out, HB.out⟩
        have : ((c : Int) == (K : Int)) = (c == K) := by rw [Bool.eq_iff_iff, beq_iff_eq, beq_iff_eq]; omega
        rw [this]
      have HFIN := Lib.hid hfin
      clear hfin
      rcases hx with hx | ⟨hx, hy⟩
      all_goals
        go_wp2
        exact bodyPost_ret (v := .tuple #[.slice a3 n cap3, .slice pv c dv, .bool ((c : Int) == (K : Int))]) (by simp [results, Try.results21, go_sem]) rfl HFIN.out

def RTurnTo (r : Option (List Bool) × Int) (w : World) (e : Ending) (w' : World) : Prop :=
  ∃ av cv, e = .returned (.tuple #[.slice av (r.1.getD []).length cv, .int .i64 r.2]) ∧ w'.ownsRow w.heap.size 4 1 (.slice av (r.1.getD []).length cv) (r.1.getD []).length (bvals (r.1.getD [])) ∧ Below w.heap.size w w'

set_option maxHeartbeats 4000000 in
theorem rturn_any (a : Option Addr) (n cap : Nat) (F : List Bool) (la : Option Addr) (ln lcap : Nat) (L : List Int) (st : Bool) (e : Int) (w : World) (h : BoolsAt w a n cap F) (hn : n ≤ 2048) (hl : IntsAt w la ln lcap L) :
    Calls Try.prog 22 #[.slice a n cap, .slice la ln lcap, .bool st, .int .i64 e] w (RTurnTo (turnF st e F L) w) := by
  obtain ⟨i0, hi, hz0, hz1, hz2⟩ := info_parts infoBool
  have hbs : ∀ u, (Instr.buildSlice 31 0 #[]).run Try.prog u = .ok (.slice (some ⟨u.heap.size, 0, none⟩) 0 0) (u.alloc (.cells #[] 4)) := fun u => by
    simp [Instr.buildSlice, run_underlying Try.underlying31, sizeOf, typeInfo, hi, Instr.fill, newRow, Array.range_zero']
  have hb0 : Below w.heap.size w (w.alloc (.cells #[] 4)) := (Below.refl _ _).alloc (Nat.le_refl _) _
  have HO := Lib.hid (show (w.alloc (.cells #[] 4)).ownsRow w.heap.size 4 1 (.slice (some ⟨w.heap.size, 0, none⟩) 0 0) 0 [] from ⟨rfl, .inr ⟨w.heap.size, 0, #[], rfl, Nat.le_refl _, heap_alloc_new w _, by omega, by unfold maxLen; omega, rfl, rfl⟩⟩)
  have HS := Lib.hid (CameAt.below h (by omega) hb0)
  have HN := Lib.hid (show F.length = n from h.1)
  have HL := Lib.hid hl
  have HLN := Lib.hid (show L.length = ln from hl.1)
  have hlm : ln ≤ 9223372036854775807 := by have := hl.2.1; have := hl.2.2.1; unfold maxLen at *; omega
  clear h hl hi hz0 hz1 hz2
  go_enter Try.func22, Try.ntmps22
  go_wp2_with (at_builtin; refine wpList_append_bools rfl _ _ rfl w.heap.size (.slice (some ⟨w.heap.size, 0, none⟩) 0 0) 0 [] rfl HO.out a n cap F rfl HS.out n (by omega) (by omega) hb0.size ?_; intro a3 cap3 w3 ho3 hg3)
  have hb3 : Below w.heap.size w w3 := hb0.grown hg3 hb0.size (fun k hk => by simp [Value.ownBlock] at hk; omega)
  have HO3 := Lib.hid ho3
  have HB3 := Lib.hid hb3
  clear ho3 hg3 hb3 hb0
  go_loopw [11] (fun s11 wr => ∃ (k : Nat) (G : List Bool), k ≤ ln ∧ s11 = .int .i64 k ∧ G.length = n ∧ turnF st e F L = turnF st e G (L.drop k) ∧ wr.ownsRow w.heap.size 4 1 (.slice a3 n cap3) n (bvals G) ∧ Below w.heap.size w wr) (fun s11 _ => ln - (intOf s11).toNat)
  case atStart => exact ⟨0, F, Nat.zero_le _, rfl, HN.out, rfl, HO3.out, HB3.out⟩
  case round =>
    obtain ⟨k, G, hk, rfl, hG, hT, hbo, hb⟩ := hrel
    have HG := Lib.hid hG
    have HT := Lib.hid hT
    have HBO := Lib.hid hbo
    have HB := Lib.hid hb
    clear hG hT hbo hb
    by_cases hlt : k < ln
    · have hki : (k : Int) < ln := by omega
      obtain ⟨lb, loff, rfl, hlb, hlc⟩ := IntsAt.cell (CameAt.below HL.out (by omega) HB.out) (by omega)
      have hlk := hlc k hlt
      have hdrop : L.drop k = L.getD k 0 :: L.drop (k + 1) := by
        rw [List.drop_eq_getElem_cons (by rw [HLN.out]; exact hlt), List.getD, List.getElem?_eq_getElem (by rw [HLN.out]; exact hlt)]; rfl
      have ht := HT.out
      rw [hdrop] at ht
      clear hlc hdrop
      generalize L.getD k 0 = p at *
      rw [turnF] at ht
      by_cases hp : p < 0 ∨ (G.length : Int) ≤ p
      · rw [if_pos hp] at ht
        have HTT := Lib.hid ht
        have hp2 : p < 0 ∨ (0 ≤ p ∧ (n : Int) ≤ p) := by have := HG.out; omega
        clear ht hp
        have hfin : RTurnTo (turnF st e F L) w (.returned (.tuple #[.slice none 0 0, .int .i64 4])) wr := by
          rw [HTT.out]
          exact ⟨none, 0, rfl, World.ownsRow_nil _ _ _ _, HB.out⟩
        have HFIN := Lib.hid hfin
        clear hfin
        rcases hp2 with hp2 | ⟨hp2, hp3⟩
        all_goals
          go_wp2
          go_ret2
          exact HFIN.out
      · obtain ⟨q, rfl⟩ : ∃ q : Nat, p = q := ⟨p.toNat, by omega⟩
        have hq : q < n := by have := HG.out; omega
        have hqi : (q : Int) < n := by omega
        rw [if_neg hp] at ht
        obtain ⟨g, cur, rfl, hg, hgb⟩ := row_block HBO.out (by omega)
        have hcell := World.ownsRow.cellAt HBO.out q (by omega)
        rw [bvals_at _ _ (by rw [HG.out]; exact hq)] at hcell
        have hfr := World.ownsRow.frozenAt HBO.out q
        simp only [Int.toNat_natCast] at ht
        have hst := (World.ownsRow.stored HBO.out q (.bool (!st))).1
        rw [bvals_set] at hst
        have HST := Lib.hid hst
        have HBS := Lib.hid (HB.out.setCell (p := ⟨g, q, none⟩) hgb (.bool (!st)))
        obtain ⟨r, hr⟩ : ∃ r, r = G.getD q false := ⟨_, rfl⟩
        rw [← hr] at hcell ht
        clear hp hst hr hg
        cases st with
        | false =>
          cases r with
          | false =>
            rw [if_neg (by simp)] at ht
            have HTT := Lib.hid ht
            clear ht
            go_wp2
            go_roundw
            case rel => exact ⟨k + 1, G.set q (!false), by omega, by go_num, by rw [List.length_set]; exact HG.out, HTT.out, HST.out, HBS.out⟩
            case measure => simp [intOf]; omega
          | true =>
            rw [if_pos (by simp)] at ht
            have hfin : RTurnTo (turnF false e F L) w (.returned (.tuple #[.slice none 0 0, .int .i64 e])) wr := by
              rw [ht]
              exact ⟨none, 0, rfl, World.ownsRow_nil _ _ _ _, HB.out⟩
            have HFIN := Lib.hid hfin
            clear hfin ht
            go_wp2
            go_ret2
            exact HFIN.out
        | true =>
          cases r with
          | false =>
            rw [if_pos (by simp)] at ht
            have hfin : RTurnTo (turnF true e F L) w (.returned (.tuple #[.slice none 0 0, .int .i64 e])) wr := by
              rw [ht]
              exact ⟨none, 0, rfl, World.ownsRow_nil _ _ _ _, HB.out⟩
            have HFIN := Lib.hid hfin
            clear hfin ht
            go_wp2
            go_ret2
            exact HFIN.out
          | true =>
            rw [if_neg (by simp)] at ht
            have HTT := Lib.hid ht
            clear ht
            go_wp2
            go_roundw
            case rel => exact ⟨k + 1, G.set q (!true), by omega, by go_num, by rw [List.length_set]; exact HG.out, HTT.out, HST.out, HBS.out⟩
            case measure => simp [intOf]; omega
    · obtain rfl : k = ln := by omega
      have hfin : RTurnTo (turnF st e F L) w (.returned (.tuple #[.slice a3 n cap3, .int .i64 0])) wr := by
        rw [HT.out, List.drop_of_length_le (by rw [HLN.out]; omega), turnF]
        exact ⟨a3, cap3, by rw [← HG.out]; rfl, by rw [← HG.out] at HBO; exact HBO.out, HB.out⟩
      have HFIN := Lib.hid hfin
      clear hfin
      go_wp2
      go_ret2
      exact HFIN.out

end Go.Proofs.Ytcmhijhoemcdcaa
