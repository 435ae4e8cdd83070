/-
  Contracts: slices.IndexFunc, Clone, Reverse over pairs; package tree's valueAt, childFor.
-/
import Derived.Test.YtflboggjbjfkjaaTrF
import Derived.Test.YtflboggjbjfkjaaInv
import Derived.Lib.SliceRun
namespace Go.Proofs.Ytflboggjbjfkjaa
open Go.RowKit Go.Shelf
set_option linter.unusedVariables false
set_option linter.unusedSimpArgs false
set_option maxRecDepth 100000

/-- what IndexFunc answers -/
def IdxTo (pr : Nat × Nat → Bool) (L : List (Nat × Nat)) (w : World) (e : Ending) (w' : World) : Prop :=
  Below w.heap.size w w' ∧ ((L.find? pr = none ∧ e = .returned (.int .i64 (-1))) ∨ ∃ (i : Nat) (p : Nat × Nat), L[i]? = some p ∧ L.find? pr = some p ∧ e = .returned (.int .i64 (i : Int)))

theorem find_drop (pr : Nat × Nat → Bool) (L : List (Nat × Nat)) (k : Nat) (hk : k < L.length) (p : Nat × Nat) (hp : L.getD k (0, 0) = p) : (L.drop k).find? pr = if pr p = true then some p else (L.drop (k + 1)).find? pr := by
  have : L[k] = p := by rw [← hp]; simp [List.getD, List.getElem?_eq_getElem hk]
  rw [List.drop_eq_getElem_cons hk, List.find?_cons, this]
  cases pr p <;> simp

set_option maxHeartbeats 2000000 in
theorem index_any (F : FuncId) (cp : Array Value) (pr : Nat × Nat → Bool) (a : Option Addr) (n cap : Nat) (L : List (Nat × Nat)) (w : World) (he : PairsAt w a n cap L)
    (hE : ∀ args u, (callFunc F args).run Try.prog u = .ok (.enter F args) u)
    (hF : ∀ p u, Below w.heap.size w u → Calls Try.prog F (#[.agg (pairC p).toArray] ++ cp) u fun e u' => e = .returned (.bool (pr p)) ∧ Below u.heap.size u u') :
    Calls Try.prog 44 #[.slice a n cap, .func (.func F) #[] cp] w (IdxTo pr L w) := by
  have HE := Lib.hid he
  have HF := Lib.hid hF
  have HL := Lib.hid he.1
  have hn : n ≤ 9223372036854775807 := by have := he.2.1; have := he.2.2.1; unfold maxLen at *; omega
  have HFD := Lib.hid (fun k (hk : k < n) => find_drop pr L k (by rw [he.1]; exact hk) _ rfl)
  clear he hF
  go_enter Try.func44, Try.ntmps44
  go_wp2
  go_loopw [8] (fun i wr => ∃ k : Nat, k ≤ n ∧ i = .int .i64 k ∧ L.find? pr = (L.drop k).find? pr ∧ Below w.heap.size w wr) (fun i _ => n - (intOf i).toNat)
  case atStart => exact ⟨0, Nat.zero_le _, rfl, rfl, Below.refl _ _⟩
  case round =>
    obtain ⟨k, hk, rfl, hfd, hb⟩ := hrel
    have HB := Lib.hid hb
    have HD := Lib.hid hfd
    clear hb hfd
    by_cases hlt : k < n
    · obtain ⟨b, off, rfl, hbb, hc⟩ := PairsAt.cells (CameAt.below HE.out (Nat.zero_lt_succ 1) HB.out) (by omega)
      obtain ⟨_, _, hcr⟩ := hc k hlt
      have hfk := HFD.out k hlt
      have hLk : L[k]? = some (L.getD k (0, 0)) := by rw [List.getD, List.getElem?_eq_getElem (by rw [HL.out]; exact hlt)]; rfl
      generalize L.getD k (0, 0) = p at *
      have CF := Lib.hid (HF.out p wr HB.out)
      have HCR := Lib.hid hcr
      have HFK := Lib.hid hfk
      have HLK := Lib.hid hLk
      clear hc hcr hfk hLk
      go_wp2_with (refine wpList_load_mid rfl 48 _ rfl b (off + k * 2) rfl (pairC p) _ HCR.out Try.underlying48 rfl sizePair ?_)
      refine (CF.out).mono ?_
      rintro e w1 ⟨rfl, hb1⟩
      have hb01 := HB.out.trans (hb1.mono HB.out.size)
      have HB01 := Lib.hid hb01
      clear hb1 hb01 CF
      cases hp : pr p with
      | true =>
        have hx := HD.out.trans HFK.out
        rw [if_pos hp] at hx
        have H := Lib.hid (show IdxTo pr L w (.returned (.int .i64 (k : Int))) w1 from ⟨HB01.out, .inr ⟨k, p, HLK.out, hx, rfl⟩⟩)
        clear hx hp
        go_wp2
        go_ret
        exact H.out
      | false =>
        have hx := HD.out.trans HFK.out
        rw [if_neg (by rw [hp]; simp)] at hx
        have H := Lib.hid hx
        clear hx hp
        go_wp2
        refine ⟨⟨k + 1, by omega, by go_num, H.out, HB01.out⟩, by simp [intOf]; omega⟩
    · obtain rfl : k = n := by omega
      have hx := HD.out
      rw [List.drop_of_length_le (Nat.le_of_eq HL.out)] at hx
      have H := Lib.hid (show IdxTo pr L w (.returned (.int .i64 (-1))) wr from ⟨HB.out, .inl ⟨hx, rfl⟩⟩)
      clear hx
      go_wp2
      go_ret
      exact H.out

theorem clo_eq (p : Nat × Nat) (key B : Nat) (w : World) (hB : w.cell? ⟨B, 0, none⟩ = some (.int .u64 key)) :
    Calls Try.prog 45 #[.agg (pairC p).toArray, .pointer (some ⟨B, 0, none⟩)] w fun e u' => e = .returned (.bool (decide (p.1 = key))) ∧ Below w.heap.size w u' := by
  obtain ⟨x, y⟩ := p
  have hlt := block_lt hB
  have hB2 : (w.alloc (.cells #[.int .u64 (x : Int), .int .u64 (y : Int)] 48)).cell? ⟨B, 0, none⟩ = some (.int .u64 key) := by rw [World.cell?_alloc_lt _ _ _ hlt]; exact hB
  have hd : ((x : Int) == (key : Int)) = decide (x = key) := by
    by_cases h : x = key
    · subst h; simp
    · rw [decide_eq_false h]; exact beq_eq_false_iff_ne.2 (by omega)
  have HD := Lib.hid hd
  clear hd hB hlt
  unfold pairC
  go_enter Try.func45, Try.ntmps45
  go_wp2
  go_ret
  exact ⟨congrArg (fun b => Ending.returned (.bool b)) HD.out, (Below.refl _ _).alloc (Nat.le_refl _) _⟩

theorem clo_le (p : Nat × Nat) (key B : Nat) (w : World) (hB : w.cell? ⟨B, 0, none⟩ = some (.int .u64 key)) :
    Calls Try.prog 48 #[.agg (pairC p).toArray, .pointer (some ⟨B, 0, none⟩)] w fun e u' => e = .returned (.bool (decide (p.1 ≤ key))) ∧ Below w.heap.size w u' := by
  obtain ⟨x, y⟩ := p
  have hlt := block_lt hB
  have hB2 : (w.alloc (.cells #[.int .u64 (x : Int), .int .u64 (y : Int)] 48)).cell? ⟨B, 0, none⟩ = some (.int .u64 key) := by rw [World.cell?_alloc_lt _ _ _ hlt]; exact hB
  clear hB hlt
  unfold pairC
  go_enter Try.func48, Try.ntmps48
  go_wp2
  go_ret
  exact ⟨rfl, (Below.refl _ _).alloc (Nat.le_refl _) _⟩


/-- what valueAt answers -/
def valE (o : Option Nat) : Value := match o with
  | some v => .tuple #[.int .u64 v, .int .i64 0]
  | none => .tuple #[.int .u64 0, .int .i64 6]

theorem valueAt_any (a : Option Addr) (n cap : Nat) (L : List (Nat × Nat)) (key : Nat) (w : World) (he : PairsAt w a n cap L) :
    Calls Try.prog 30 #[.slice a n cap, .int .u64 key] w fun e w' => e = .returned (valE (valAt L key)) ∧ Below w.heap.size w w' := by
  have HE := Lib.hid he
  have hb1 : Below w.heap.size w (w.alloc (.cells #[.int .u64 (key : Int)] 44)) := (Below.refl _ _).alloc (Nat.le_refl _) _
  have hc1 : (w.alloc (.cells #[.int .u64 (key : Int)] 44)).cell? ⟨w.heap.size, 0, none⟩ = some (.int .u64 (key : Int)) := by rw [cell_of_row _ _ _ _ _ _ (heap_alloc_new w _)]; rfl
  have CI := Lib.hid (index_any 45 #[.pointer (some ⟨w.heap.size, 0, none⟩)] (fun p => decide (p.1 = key)) a n cap L _ (CameAt.below HE.out (Nat.zero_lt_succ 1) hb1) (enters_of Try.func45 (by kernel_rfl) rfl)
    (fun p u hu => clo_eq p key w.heap.size u (by rw [hu.cell (by simp)]; exact hc1)))
  have HV := Lib.hid (show valAt L key = (L.find? (fun p => decide (p.1 = key))).map (·.2) from rfl)
  have HB1 := Lib.hid hb1
  clear he hb1 hc1
  go_enter Try.func30, Try.ntmps30
  go_wp2_with fail
  refine (CI.out).mono ?_
  rintro e w1 ⟨hb2, ⟨hf, rfl⟩ | ⟨i, p, hi, hf, rfl⟩⟩
  · have hv := HV.out
    rw [hf] at hv
    have hbb := HB1.out.trans (hb2.mono (by simp))
    have H := Lib.hid hv
    clear hv hf hb2
    go_wp2
    go_ret2
    exact ⟨by rw [H.out]; rfl, hbb⟩
  · have hv := HV.out
    rw [hf] at hv
    have hbb := HB1.out.trans (hb2.mono (by simp))
    have hil := (List.getElem?_eq_some_iff.1 hi).1
    have hiln : i < n := by rw [← HE.out.1]; exact hil
    obtain ⟨b, off, rfl, hbb2, hc⟩ := PairsAt.cells (CameAt.below HE.out (Nat.zero_lt_succ 1) hbb) (by omega)
    obtain ⟨_, hc1, _⟩ := hc i hiln
    have hpe : L.getD i (0, 0) = p := by rw [List.getD, hi]; rfl
    rw [hpe, ← Nat.add_assoc] at hc1
    have hmx : n ≤ 9223372036854775807 := by have := HE.out.2.1; have := HE.out.2.2.1; unfold maxLen at *; omega
    have hii : (i : Int) < (n : Int) := by omega
    have hi0 : ¬ (i : Int) < 0 := by omega
    have H := Lib.hid hv
    clear hv hf hb2 hi hc hpe hil
    go_wp2
    go_ret2
    exact ⟨by rw [H.out]; rfl, hbb⟩


/-! ### Clone and Reverse -/
set_option maxHeartbeats 1000000 in
theorem clone_any (g off n cap : Nat) (L : List (Nat × Nat)) (w : World) (he : PairsAt w (some ⟨g, off, none⟩) n cap L) (hn : n ≤ 100000) :
    Calls Try.prog 46 #[.slice (some ⟨g, off, none⟩) n cap] w fun e w' => ∃ v, e = .returned v ∧ Recs pairC w' 48 2 v L ∧ Below w.heap.size w w' ∧ ∀ k, v.ownBlock = some k → w.heap.size ≤ k := by
  obtain ⟨i0, hi0, hz0, hz1, hz2⟩ := info_parts infoPair
  have hq := fun u : World => Lib.run_eql_slice_nil (P := Try.prog) u 22 48 (some ⟨g, off, none⟩) n cap 0 0 Try.underlying22
  have hbs : ∀ u, (Instr.buildSlice 22 0 #[]).run Try.prog u = .ok (.slice (some ⟨u.heap.size, 0, none⟩) 0 0) (u.alloc (.cells #[] 48)) := fun u => by
    simp [Instr.buildSlice, run_underlying Try.underlying22, sizeOf, typeInfo, hi0, Instr.fill, newRow, Array.range_zero']
  have HI := Lib.hid hi0
  have H0 := Lib.hid hz0
  have H1 := Lib.hid hz1
  have H2 := Lib.hid hz2
  have hown : Recs pairC (w.alloc (.cells #[] 48)) 48 2 (.slice (some ⟨w.heap.size, 0, none⟩) 0 0) ([] : List (Nat × Nat)) := ⟨by simp, by simp, World.ownsRow_made w #[] 0 (Nat.zero_le _) (by simp) (by simp)⟩
  have HO := Lib.hid hown
  have hlen := he.1
  have hcell : ∀ j u, (L.flatMap pairC)[j]? = some u → (w.alloc (.cells #[] 48)).cell? ((⟨g, off, none⟩ : Addr).add j) = some u := fun j u hu => by
    have he2 := CameAt.below he (Nat.zero_lt_succ 1) ((Below.refl w.heap.size w).alloc (Nat.le_refl _) (.cells #[] 48))
    have hjl : j < L.length * 2 := by
      have := (List.getElem?_eq_some_iff.1 hu).1
      rwa [flatMap_len (f := pairC) (size := 2) L (fun _ _ => rfl)] at this
    have hx : L[j / 2]? = some L[j / 2] := List.getElem?_eq_getElem (by omega)
    rcases he2.2.2.2.2 with ⟨hn, _⟩ | ⟨p, hp, hc⟩
    · cases hn
    · cases hp
      have hd : j / 2 * 2 + j % 2 = j := by omega
      have := hc (j / 2) (j % 2) _ hx (by omega)
      rw [hd] at this
      rw [this, ← flatMap_at L (f := pairC) (size := 2) (fun _ _ => rfl) (j / 2) (j % 2) _ hx (by omega), hd, hu]
  have HC := Lib.hid hcell
  clear hown hi0 hz0 hz1 hz2 hcell he
  go_enter Try.func46, Try.ntmps46
  go_wp2_with (first
    | (refine wpList_append_recs (f := pairC) rfl _ _ 22 rfl 48 i0 _ 2 16 Try.underlying22 HI.out H0.out H1.out H2.out (by simp [Value.cells]) (by omega) (.slice (some ⟨w.heap.size, 0, none⟩) 0 0) [] rfl HO.out ⟨g, off, none⟩ n cap L rfl hlen (fun y _ => rfl) (fun y _ => pairC_one y) HC.out (by unfold maxLen; simp; omega) (by simp; omega) ?_; intro v' w' hr' hg' hv'; obtain ⟨av', capv', hve, _, _⟩ := hr'.form; rw [List.nil_append, hlen] at hve; subst hve; rw [List.nil_append] at hr'))
  go_ret
  refine ⟨_, rfl, hr', ((Below.refl w.heap.size w).alloc (Nat.le_refl _) _).grown hg' (by simp) (fun k hk => by simp [Value.ownBlock] at hk; omega), fun k hk => ?_⟩
  have hk2 : (Value.slice av' n capv').ownBlock = some k := hk
  rcases hv' with hv' | hv'
  · rw [hv'] at hk2; simp [Value.ownBlock] at hk2; omega
  · rw [hv'] at hk2; simp at hk2; omega

/-- the list, turned at both ends -/
def revK (L : List (Nat × Nat)) (k : Nat) (M : List (Nat × Nat)) : Prop :=
  M.length = L.length ∧ ∀ p, p < L.length → M[p]? = if p < k ∨ L.length ≤ p + k then L[L.length - 1 - p]? else L[p]?
theorem revK_zero (L : List (Nat × Nat)) : revK L 0 L := ⟨rfl, fun p hp => by rw [if_neg (by omega)]⟩
theorem revK_step {L M : List (Nat × Nat)} {k : Nat} (h : revK L k M) (hk : 2 * k + 1 < L.length) (x y : Nat × Nat) (hx : M[k]? = some x) (hy : M[L.length - 1 - k]? = some y) :
    revK L (k + 1) ((M.set k y).set (L.length - 1 - k) x) := by
  obtain ⟨h1, h2⟩ := h
  refine ⟨by simp [h1], fun p hp => ?_⟩
  have hx2 := h2 k (by omega)
  have hy2 := h2 (L.length - 1 - k) (by omega)
  rw [if_neg (by omega), hx] at hx2
  rw [if_neg (by omega), hy] at hy2
  by_cases e1 : p = L.length - 1 - k
  · subst e1
    rw [List.getElem?_set_self (by simp; omega), if_pos (by omega), hx2]
    congr 1
    omega
  · rw [List.getElem?_set_ne (by omega)]
    by_cases e2 : p = k
    · subst e2
      rw [List.getElem?_set_self (by omega), if_pos (by omega), hy2]
    · rw [List.getElem?_set_ne (by omega), h2 p hp]
      by_cases hc : p < k ∨ L.length ≤ p + k
      · rw [if_pos hc, if_pos (by omega)]
      · rw [if_neg hc, if_neg (by omega)]
theorem revK_done {L M : List (Nat × Nat)} {k : Nat} (h : revK L k M) (hk : L.length ≤ 2 * k + 1) : M = L.reverse := by
  obtain ⟨h1, h2⟩ := h
  apply List.ext_getElem?
  intro p
  by_cases hp : p < L.length
  · rw [h2 p hp, List.getElem?_reverse hp]
    by_cases hc : p < k ∨ L.length ≤ p + k
    · rw [if_pos hc]
    · rw [if_neg hc]
      congr 1
      omega
  · rw [List.getElem?_eq_none (by omega), List.getElem?_eq_none (by simp; omega)]

theorem run_loadCells_mid {P : Program} (w : World) (g o : Nat) (cs : List Value) (h2 : cs.length = 2) (hr : w.rangeAt g o cs) : Sem.run P (loadCellsFrom ⟨g, o, none⟩ 0 2 #[]) w = .ok cs.toArray w := by
  have := run_loadCells_list (P := P) (w := w) ⟨g, o, none⟩ cs (fun j u hj => by rw [Addr.add_mid]; exact hr j u hj)
  rw [h2] at this
  exact this
theorem run_storeCells_mid {P : Program} (w : World) (g o : Nat) (cs : List Value) (ht : w.there g o cs.length) (h1 : ∀ u ∈ cs, u.oneCell' = true) : Sem.run P (storeCells ⟨g, o, none⟩ cs 0) w = .ok () (w.setCells g o cs) := by
  have := run_storeCells_cells (P := P) g o cs 0 w (fun j hj => by rw [Nat.add_zero]; exact (ht j hj).1) (fun j hj => by rw [Nat.add_zero]; exact (ht j hj).2) h1
  rwa [Nat.add_zero] at this

/-- the world, by which of the two stores have been done -/
def revU (wd w1 w2 : World) (b13 b15 : Bool) (u : World) : Prop := u = if b15 = true then w2 else if b13 = true then w1 else wd

theorem allB_len : ∀ (n : Nat) (l : List Bool), l ∈ allB n → l.length = n
  | 0, l, h => by simp [allB] at h; subst h; rfl
  | n + 1, l, h => by
    simp only [allB, List.mem_flatMap] at h
    obtain ⟨m, hm, hl⟩ := h
    have := allB_len n m hm
    simp at hl
    rcases hl with rfl | rfl <;> simp [this]
/-- each operation waits for earlier ones alone -/
def lowB (ops : Array Oper) : Bool := (List.range ops.size).all fun i => match ops[i]? with
  | some o => o.after.toList.all fun e => !Region.binds .any e || decide (e.on < i)
  | none => true
theorem first_false : ∀ l : List Bool, (l.all (· = true)) = true ∨ ∃ j : Nat, l[j]? = some false ∧ ∀ i : Nat, i < j → l[i]? = some true
  | [] => .inl rfl
  | false :: l => .inr ⟨0, rfl, fun i hi => by omega⟩
  | true :: l => by
    rcases first_false l with h | ⟨j, h1, h2⟩
    · left; simpa using h
    · refine .inr ⟨j + 1, by simpa using h1, fun i hi => ?_⟩
      cases i with
      | zero => rfl
      | succ i => simpa using h2 i (by omega)
theorem goesB_low {ops : Array Oper} (h : lowB ops = true) : goesB ops = true := by
  unfold goesB
  rw [List.all_eq_true]
  intro l hl
  have hlen := allB_len _ _ hl
  rcases first_false l with ha | ⟨j, h1, h2⟩
  · rw [ha]; rfl
  · have hjl : j < l.length := (List.getElem?_eq_some_iff.1 h1).1
    have hjo : j < ops.size := by omega
    have hm : j ∈ Region.ready .any ops l.toArray := by
      refine mem_ready.2 ⟨?_, ops[j], Array.getElem?_eq_getElem hjo, fun e he hb => ?_⟩
      · rw [Array.getD, dif_pos (by simpa using hjl)]
        have := (List.getElem?_eq_some_iff.1 h1).2
        simpa using this
      · unfold lowB at h
        have hh := List.all_eq_true.1 h j (List.mem_range.2 hjo)
        rw [Array.getElem?_eq_getElem hjo] at hh
        have hlt := List.all_eq_true.1 hh e (by simpa using he)
        rw [hb] at hlt
        have hlt : e.on < j := by simpa using hlt
        have h3 := h2 e.on hlt
        have hel : e.on < l.length := by omega
        rw [Array.getD, dif_pos (by simpa using hel)]
        have := (List.getElem?_eq_some_iff.1 h3).2
        simpa using this
    have : (Region.ready .any ops l.toArray).isEmpty = false := by
      cases hr : Region.ready .any ops l.toArray with
      | nil => rw [hr] at hm; cases hm
      | cons _ _ => rfl
    rw [this]
    simp

set_option maxHeartbeats 4000000 in
theorem reverse_any (v : Value) (L : List (Nat × Nat)) (w : World) (h : Recs pairC w 48 2 v L) (hn : L.length ≤ 100000) :
    Calls Try.prog 47 #[v] w fun e w' => (∃ x, e = .returned x) ∧ Recs pairC w' 48 2 v L.reverse ∧ Only (fun q => v.ownBlock = some q) w w' := by
  obtain ⟨a, cap, rfl, hc1, hc2⟩ := h.form
  have HR := Lib.hid h
  clear h
  generalize hnn : L.length = n at *
  have HN := Lib.hid hnn
  clear hnn
  unfold maxLen at hc2
  go_enter Try.func47, Try.ntmps47
  go_wp2
  go_loopw [2, 3] (fun x y wr => ∃ (k : Nat) (M : List (Nat × Nat)), 2 * k ≤ n + 1 ∧ x = .int .i64 k ∧ y = .int .i64 ((n : Int) - 1 - k) ∧ revK L k M ∧ Recs pairC wr 48 2 (.slice a n cap) M ∧ Only (fun q => (Value.slice a n cap).ownBlock = some q) w wr) (fun x _ _ => n - (intOf x).toNat)
  case atStart => exact ⟨0, L, by omega, rfl, by simp, revK_zero L, HR.out, Only.refl _ _⟩
  case round =>
    obtain ⟨k, M, hk, rfl, rfl, hrv, hr, ho⟩ := hrel
    have HRV := Lib.hid hrv
    have HRW := Lib.hid hr
    have HO := Lib.hid ho
    have hml := hr.came.1
    clear hrv ho HR
    by_cases hlt : 2 * k + 1 < n
    · obtain ⟨g, cg, hve, _, _, _⟩ := hr.form' (by omega)
      simp only [Value.slice.injEq] at hve
      obtain ⟨rfl, hnm, rfl⟩ := hve
      clear hnm
      obtain ⟨j, hj⟩ : ∃ j, n - 1 - k = j := ⟨_, rfl⟩
      have hji : (n : Int) - 1 - k = (j : Int) := by omega
      rw [hji] at *
      obtain ⟨x, hx⟩ : ∃ x, M[k]? = some x := ⟨_, List.getElem?_eq_getElem (by omega)⟩
      obtain ⟨y, hy⟩ : ∃ y, M[j]? = some y := ⟨_, List.getElem?_eq_getElem (by omega)⟩
      have hkj : (k : Int) < (j : Int) := by omega
      have hjn : (j : Int) < (n : Int) := by omega
      have hkn : (k : Int) < (n : Int) := by omega
      have hst := revK_step HRV.out (by rw [HN.out]; exact hlt) x y hx (by rw [HN.out, hj]; exact hy)
      rw [HN.out, hj] at hst
      have HST := Lib.hid hst
      have hrx := hr.rangeAt k x hx
      have hry := hr.rangeAt j y hy
      have HX := Lib.hid hx
      have HY := Lib.hid hy
      have HJK := Lib.hid (show j + k + 1 = n by omega)
      have HSX := Lib.hid (show (Try.prog.info? 48).map (·.size) = some (pairC x).toArray.size from sizePair)
      have HSY := Lib.hid (show (Try.prog.info? 48).map (·.size) = some (pairC y).toArray.size from sizePair)
      obtain ⟨wd, hwd⟩ : ∃ u, u = wr.drew := ⟨_, rfl⟩
      obtain ⟨hr1, hg1⟩ := Recs.put (w := wr.drew) (hr.below ((Below.refl _ _).drew)) k (by omega) y rfl (pairC_one y)
      have htk : wr.drew.there g (k * 2) 2 := hr.there k (by omega)
      have htj := hr1.there j (by rw [List.length_set]; omega)
      obtain ⟨hr2, hg2⟩ := Recs.put hr1 j (by rw [List.length_set]; omega) x rfl (pairC_one x)
      have hrx' : wr.drew.rangeAt g (k * 2) (pairC x) := hrx
      have hry' : wr.drew.rangeAt g (j * 2) (pairC y) := hry
      have hod : Only (fun q => (Value.slice (some ⟨g, 0, none⟩) n cap).ownBlock = some q) w wr.drew := HO.out.trans (Only.drew _) (fun _ _ h => h)
      rw [← hwd] at hr1 hg1 hg2 hr2 htk htj hrx' hry' hod
      obtain ⟨w1, hw1⟩ : ∃ u, u = wd.setCells g (k * 2) (pairC y) := ⟨_, rfl⟩
      rw [← hw1] at hg1 hr2 hg2 htj
      obtain ⟨w2, hw2⟩ : ∃ u, u = w1.setCells g (j * 2) (pairC x) := ⟨_, rfl⟩
      rw [← hw2] at hr2 hg2
      have HLI := Lib.hid hrx'
      have HLJ := Lib.hid hry'
      have HTK := Lib.hid (show wd.there g (k * 2) (pairC y).toArray.size from htk)
      have HTJ := Lib.hid (show w1.there g (j * 2) (pairC x).toArray.size from htj)
      have HW1 := Lib.hid (show wd.setCells g (k * 2) (pairC y).toArray.toList = w1 from hw1.symm)
      have HW2 := Lib.hid (show w1.setCells g (j * 2) (pairC x).toArray.toList = w2 from hw2.symm)
      have HR2 := Lib.hid hr2
      have HOF := Lib.hid (hod.trans (Only.of_grown (S := fun q => (Value.slice (some ⟨g, 0, none⟩) n cap).ownBlock = some q) (grown_trans hg1 hg2) (fun q e => e)) (fun _ _ h => h))
      clear hst hx hy hr1 hg1 htj htk hr2 hg2 hr hj hrx hry hrx' hry' hod hw1 hw2
      go_wp2_with fail
      refine region_inv (fun s act u => ∃ y14 y15 y16 y17 y18 y19 y20 y21 y22 y23 y24 y25 y26 y27, act = { tmps := #[.slice (some ⟨g, 0, none⟩) n cap, undef, .int .i64 (k : Int), .int .i64 (j : Int), .slice (some ⟨g, 0, none⟩) n cap, .int .i64 (n : Int), .int .i64 ((n : Int) - 1), .int .i64 (k : Int), .int .i64 (j : Int), .bool true, u10, u11, u12, u13, y14, y15, y16, y17, y18, y19, y20, y21, y22, y23, y24, y25, y26, y27], defers := [] } ∧ (s 0 = true → y14 = .slice (some ⟨g, 0, none⟩) n cap) ∧ (s 1 = true → y15 = .int .i64 (k : Int)) ∧ (s 2 = true → y16 = .slice (some ⟨g, 0, none⟩) n cap) ∧ (s 3 = true → y17 = .int .i64 (j : Int)) ∧ (s 4 = true → y18 = .slice (some ⟨g, 0, none⟩) n cap) ∧ (s 5 = true → y19 = .int .i64 (j : Int)) ∧ (s 6 = true → y20 = .pointer (some ⟨g, j * 2, none⟩)) ∧ (s 7 = true → y21 = .agg (pairC y).toArray) ∧ (s 8 = true → y22 = .slice (some ⟨g, 0, none⟩) n cap) ∧ (s 9 = true → y23 = .int .i64 (k : Int)) ∧ (s 10 = true → y24 = .pointer (some ⟨g, k * 2, none⟩)) ∧ (s 11 = true → y25 = .agg (pairC x).toArray) ∧ (s 12 = true → y26 = .pointer (some ⟨g, k * 2, none⟩)) ∧ (s 14 = true → y27 = .pointer (some ⟨g, j * 2, none⟩)) ∧ revU wd w1 w2 (s 13) (s 15) u ∧ (s 13 = true → s 7 = true ∧ s 11 = true) ∧ (s 15 = true → s 13 = true)) (by kernel_rfl) (goesB_low (by kernel_rfl)) ?start ?steps ?done
      case start => exact ⟨u14, u15, u16, u17, u18, u19, u20, u21, u22, u23, u24, u25, u26, u27, rfl, fun h => (by cases h), fun h => (by cases h), fun h => (by cases h), fun h => (by cases h), fun h => (by cases h), fun h => (by cases h), fun h => (by cases h), fun h => (by cases h), fun h => (by cases h), fun h => (by cases h), fun h => (by cases h), fun h => (by cases h), fun h => (by cases h), fun h => (by cases h), hwd.symm, fun h => (by cases h), fun h => (by cases h)⟩
      case steps =>
        refine ⟨?s0, ?s1, ?s2, ?s3, ?s4, ?s5, ?s6, ?s7, ?s8, ?s9, ?s10, ?s11, ?s12, ?s13, ?s14, ?s15, trivial⟩
        case s0 =>
          rintro s act u hs hd ⟨y14, y15, y16, y17, y18, y19, y20, y21, y22, y23, y24, y25, y26, y27, rfl, h0, h1, h2, h3, h4, h5, h6, h7, h8, h9, h10, h11, h12, h14, hu, i13, i15⟩ K hK
          rw [if_pos (by rfl)]
          go_simp
          exact hK _ _ ⟨_, y15, y16, y17, y18, y19, y20, y21, y22, y23, y24, y25, y26, y27, rfl, fun _ => rfl, h1, h2, h3, h4, h5, h6, h7, h8, h9, h10, h11, h12, h14, hu, i13, i15⟩
        case s1 =>
          rintro s act u hs hd ⟨y14, y15, y16, y17, y18, y19, y20, y21, y22, y23, y24, y25, y26, y27, rfl, h0, h1, h2, h3, h4, h5, h6, h7, h8, h9, h10, h11, h12, h14, hu, i13, i15⟩ K hK
          rw [if_pos (by rfl)]
          go_simp
          exact hK _ _ ⟨y14, _, y16, y17, y18, y19, y20, y21, y22, y23, y24, y25, y26, y27, rfl, h0, fun _ => rfl, h2, h3, h4, h5, h6, h7, h8, h9, h10, h11, h12, h14, hu, i13, i15⟩
        case s2 =>
          rintro s act u hs hd ⟨y14, y15, y16, y17, y18, y19, y20, y21, y22, y23, y24, y25, y26, y27, rfl, h0, h1, h2, h3, h4, h5, h6, h7, h8, h9, h10, h11, h12, h14, hu, i13, i15⟩ K hK
          rw [if_pos (by rfl)]
          go_simp
          exact hK _ _ ⟨y14, y15, _, y17, y18, y19, y20, y21, y22, y23, y24, y25, y26, y27, rfl, h0, h1, fun _ => rfl, h3, h4, h5, h6, h7, h8, h9, h10, h11, h12, h14, hu, i13, i15⟩
        case s3 =>
          rintro s act u hs hd ⟨y14, y15, y16, y17, y18, y19, y20, y21, y22, y23, y24, y25, y26, y27, rfl, h0, h1, h2, h3, h4, h5, h6, h7, h8, h9, h10, h11, h12, h14, hu, i13, i15⟩ K hK
          rw [if_pos (by rfl)]
          go_simp
          exact hK _ _ ⟨y14, y15, y16, _, y18, y19, y20, y21, y22, y23, y24, y25, y26, y27, rfl, h0, h1, h2, fun _ => rfl, h4, h5, h6, h7, h8, h9, h10, h11, h12, h14, hu, i13, i15⟩
        case s4 =>
          rintro s act u hs hd ⟨y14, y15, y16, y17, y18, y19, y20, y21, y22, y23, y24, y25, y26, y27, rfl, h0, h1, h2, h3, h4, h5, h6, h7, h8, h9, h10, h11, h12, h14, hu, i13, i15⟩ K hK
          rw [if_pos (by rfl)]
          go_simp
          exact hK _ _ ⟨y14, y15, y16, y17, _, y19, y20, y21, y22, y23, y24, y25, y26, y27, rfl, h0, h1, h2, h3, fun _ => rfl, h5, h6, h7, h8, h9, h10, h11, h12, h14, hu, i13, i15⟩
        case s5 =>
          rintro s act u hs hd ⟨y14, y15, y16, y17, y18, y19, y20, y21, y22, y23, y24, y25, y26, y27, rfl, h0, h1, h2, h3, h4, h5, h6, h7, h8, h9, h10, h11, h12, h14, hu, i13, i15⟩ K hK
          rw [if_pos (by rfl)]
          go_simp
          exact hK _ _ ⟨y14, y15, y16, y17, y18, _, y20, y21, y22, y23, y24, y25, y26, y27, rfl, h0, h1, h2, h3, h4, fun _ => rfl, h6, h7, h8, h9, h10, h11, h12, h14, hu, i13, i15⟩
        case s6 =>
          rintro s act u hs hd ⟨y14, y15, y16, y17, y18, y19, y20, y21, y22, y23, y24, y25, y26, y27, rfl, h0, h1, h2, h3, h4, h5, h6, h7, h8, h9, h10, h11, h12, h14, hu, i13, i15⟩ K hK
          rw [if_pos (by rfl)]
          have d4 : s 4 = true := by first | (revert hd; simp [Region.binds]; done) | (revert hd; simp [Region.binds]; intros; assumption)
          have d5 : s 5 = true := by first | (revert hd; simp [Region.binds]; done) | (revert hd; simp [Region.binds]; intros; assumption)
          have e4 := h4 d4
          have e5 := h5 d5
          subst e4
          subst e5
          go_simp
          exact hK _ _ ⟨y14, y15, y16, y17, _, _, _, y21, y22, y23, y24, y25, y26, y27, rfl, h0, h1, h2, h3, fun _ => rfl, fun _ => rfl, fun _ => rfl, h7, h8, h9, h10, h11, h12, h14, hu, i13, i15⟩
        case s7 =>
          rintro s act u hs hd ⟨y14, y15, y16, y17, y18, y19, y20, y21, y22, y23, y24, y25, y26, y27, rfl, h0, h1, h2, h3, h4, h5, h6, h7, h8, h9, h10, h11, h12, h14, hu, i13, i15⟩ K hK
          rw [if_pos (by rfl)]
          have d6 : s 6 = true := by first | (revert hd; simp [Region.binds]; done) | (revert hd; simp [Region.binds]; intros; assumption)
          have e6 := h6 d6
          subst e6
          have n13 : s 13 = false := by cases h : s 13 with | false => rfl | true => rw [(i13 h).1] at hs; cases hs
          have n15 : s 15 = false := by cases h : s 15 with | false => rfl | true => rw [i15 h] at n13; cases n13
          have hue : u = wd := by rw [n13, n15] at hu; exact hu
          subst hue
          refine wp_load_mid 48 _ rfl g (j * 2) rfl (pairC y) _ HLJ.out Try.underlying48 rfl sizePair ?_
          exact hK _ _ ⟨y14, y15, y16, y17, y18, y19, _, _, y22, y23, y24, y25, y26, y27, rfl, h0, h1, h2, h3, h4, h5, fun _ => rfl, fun _ => rfl, h8, h9, h10, h11, h12, h14, hu, fun h => (by have h' : s 13 = true := h; rw [n13] at h'; cases h'), i15⟩
        case s8 =>
          rintro s act u hs hd ⟨y14, y15, y16, y17, y18, y19, y20, y21, y22, y23, y24, y25, y26, y27, rfl, h0, h1, h2, h3, h4, h5, h6, h7, h8, h9, h10, h11, h12, h14, hu, i13, i15⟩ K hK
          rw [if_pos (by rfl)]
          go_simp
          exact hK _ _ ⟨y14, y15, y16, y17, y18, y19, y20, y21, _, y23, y24, y25, y26, y27, rfl, h0, h1, h2, h3, h4, h5, h6, h7, fun _ => rfl, h9, h10, h11, h12, h14, hu, i13, i15⟩
        case s9 =>
          rintro s act u hs hd ⟨y14, y15, y16, y17, y18, y19, y20, y21, y22, y23, y24, y25, y26, y27, rfl, h0, h1, h2, h3, h4, h5, h6, h7, h8, h9, h10, h11, h12, h14, hu, i13, i15⟩ K hK
          rw [if_pos (by rfl)]
          go_simp
          exact hK _ _ ⟨y14, y15, y16, y17, y18, y19, y20, y21, y22, _, y24, y25, y26, y27, rfl, h0, h1, h2, h3, h4, h5, h6, h7, h8, fun _ => rfl, h10, h11, h12, h14, hu, i13, i15⟩
        case s10 =>
          rintro s act u hs hd ⟨y14, y15, y16, y17, y18, y19, y20, y21, y22, y23, y24, y25, y26, y27, rfl, h0, h1, h2, h3, h4, h5, h6, h7, h8, h9, h10, h11, h12, h14, hu, i13, i15⟩ K hK
          rw [if_pos (by rfl)]
          have d8 : s 8 = true := by first | (revert hd; simp [Region.binds]; done) | (revert hd; simp [Region.binds]; intros; assumption)
          have d9 : s 9 = true := by first | (revert hd; simp [Region.binds]; done) | (revert hd; simp [Region.binds]; intros; assumption)
          have e8 := h8 d8
          have e9 := h9 d9
          subst e8
          subst e9
          go_simp
          exact hK _ _ ⟨y14, y15, y16, y17, y18, y19, y20, y21, _, _, _, y25, y26, y27, rfl, h0, h1, h2, h3, h4, h5, h6, h7, fun _ => rfl, fun _ => rfl, fun _ => rfl, h11, h12, h14, hu, i13, i15⟩
        case s11 =>
          rintro s act u hs hd ⟨y14, y15, y16, y17, y18, y19, y20, y21, y22, y23, y24, y25, y26, y27, rfl, h0, h1, h2, h3, h4, h5, h6, h7, h8, h9, h10, h11, h12, h14, hu, i13, i15⟩ K hK
          rw [if_pos (by rfl)]
          have d10 : s 10 = true := by first | (revert hd; simp [Region.binds]; done) | (revert hd; simp [Region.binds]; intros; assumption)
          have e10 := h10 d10
          subst e10
          have n13 : s 13 = false := by cases h : s 13 with | false => rfl | true => rw [(i13 h).2] at hs; cases hs
          have n15 : s 15 = false := by cases h : s 15 with | false => rfl | true => rw [i15 h] at n13; cases n13
          have hue : u = wd := by rw [n13, n15] at hu; exact hu
          subst hue
          refine wp_load_mid 48 _ rfl g (k * 2) rfl (pairC x) _ HLI.out Try.underlying48 rfl sizePair ?_
          exact hK _ _ ⟨y14, y15, y16, y17, y18, y19, y20, y21, y22, y23, _, _, y26, y27, rfl, h0, h1, h2, h3, h4, h5, h6, h7, h8, h9, fun _ => rfl, fun _ => rfl, h12, h14, hu, fun h => (by have h' : s 13 = true := h; rw [n13] at h'; cases h'), i15⟩
        case s12 =>
          rintro s act u hs hd ⟨y14, y15, y16, y17, y18, y19, y20, y21, y22, y23, y24, y25, y26, y27, rfl, h0, h1, h2, h3, h4, h5, h6, h7, h8, h9, h10, h11, h12, h14, hu, i13, i15⟩ K hK
          rw [if_pos (by rfl)]
          have d0 : s 0 = true := by first | (revert hd; simp [Region.binds]; done) | (revert hd; simp [Region.binds]; intros; assumption)
          have d1 : s 1 = true := by first | (revert hd; simp [Region.binds]; done) | (revert hd; simp [Region.binds]; intros; assumption)
          have e0 := h0 d0
          have e1 := h1 d1
          subst e0
          subst e1
          go_simp
          exact hK _ _ ⟨_, _, y16, y17, y18, y19, y20, y21, y22, y23, y24, y25, _, y27, rfl, fun _ => rfl, fun _ => rfl, h2, h3, h4, h5, h6, h7, h8, h9, h10, h11, fun _ => rfl, h14, hu, i13, i15⟩
        case s13 =>
          rintro s act u hs hd ⟨y14, y15, y16, y17, y18, y19, y20, y21, y22, y23, y24, y25, y26, y27, rfl, h0, h1, h2, h3, h4, h5, h6, h7, h8, h9, h10, h11, h12, h14, hu, i13, i15⟩ K hK
          rw [if_pos (by rfl)]
          have d12 : s 12 = true := by first | (revert hd; simp [Region.binds]; done) | (revert hd; simp [Region.binds]; intros; assumption)
          have d7 : s 7 = true := by first | (revert hd; simp [Region.binds]; done) | (revert hd; simp [Region.binds]; intros; assumption)
          have d11 : s 11 = true := by first | (revert hd; simp [Region.binds]; done) | (revert hd; simp [Region.binds]; intros; assumption)
          have e12 := h12 d12
          have e7 := h7 d7
          have e11 := h11 d11
          subst e12
          subst e7
          subst e11
          have n15 : s 15 = false := by cases h : s 15 with | false => rfl | true => rw [i15 h] at hs; cases hs
          have hue : u = wd := by rw [hs, n15] at hu; exact hu
          subst hue
          refine wp_store_mid 48 _ _ rfl g (k * 2) (pairC y).toArray rfl rfl HTK.out HSY.out (all_pairC y) ?_
          exact hK _ _ ⟨y14, y15, y16, y17, y18, y19, y20, _, y22, y23, y24, _, _, y27, rfl, h0, h1, h2, h3, h4, h5, h6, fun _ => rfl, h8, h9, h10, fun _ => rfl, fun _ => rfl, h14, (by show revU _ _ _ true (s 15) _; rw [n15]; exact HW1.out), fun _ => ⟨d7, d11⟩, fun _ => rfl⟩
        case s14 =>
          rintro s act u hs hd ⟨y14, y15, y16, y17, y18, y19, y20, y21, y22, y23, y24, y25, y26, y27, rfl, h0, h1, h2, h3, h4, h5, h6, h7, h8, h9, h10, h11, h12, h14, hu, i13, i15⟩ K hK
          rw [if_pos (by rfl)]
          have d2 : s 2 = true := by first | (revert hd; simp [Region.binds]; done) | (revert hd; simp [Region.binds]; intros; assumption)
          have d3 : s 3 = true := by first | (revert hd; simp [Region.binds]; done) | (revert hd; simp [Region.binds]; intros; assumption)
          have e2 := h2 d2
          have e3 := h3 d3
          subst e2
          subst e3
          go_simp
          exact hK _ _ ⟨y14, y15, _, _, y18, y19, y20, y21, y22, y23, y24, y25, y26, _, rfl, h0, h1, fun _ => rfl, fun _ => rfl, h4, h5, h6, h7, h8, h9, h10, h11, h12, fun _ => rfl, hu, i13, i15⟩
        case s15 =>
          rintro s act u hs hd ⟨y14, y15, y16, y17, y18, y19, y20, y21, y22, y23, y24, y25, y26, y27, rfl, h0, h1, h2, h3, h4, h5, h6, h7, h8, h9, h10, h11, h12, h14, hu, i13, i15⟩ K hK
          rw [if_pos (by rfl)]
          have d14 : s 14 = true := by first | (revert hd; simp [Region.binds]; done) | (revert hd; simp [Region.binds]; intros; assumption)
          have d11 : s 11 = true := by first | (revert hd; simp [Region.binds]; done) | (revert hd; simp [Region.binds]; intros; assumption)
          have d13 : s 13 = true := by first | (revert hd; simp [Region.binds]; done) | (revert hd; simp [Region.binds]; intros; assumption)
          have e14 := h14 d14
          have e11 := h11 d11
          subst e14
          subst e11
          have hue : u = w1 := by rw [hs, d13] at hu; exact hu
          subst hue
          refine wp_store_mid 48 _ _ rfl g (j * 2) (pairC x).toArray rfl rfl HTJ.out HSX.out (all_pairC x) ?_
          exact hK _ _ ⟨y14, y15, y16, y17, y18, y19, y20, y21, y22, y23, y24, _, y26, _, rfl, h0, h1, h2, h3, h4, h5, h6, h7, h8, h9, h10, fun _ => rfl, h12, fun _ => rfl, HW2.out, i13, fun _ => d13⟩
      case done =>
        rintro s act u hs ⟨y14, y15, y16, y17, y18, y19, y20, y21, y22, y23, y24, y25, y26, y27, rfl, h0, h1, h2, h3, h4, h5, h6, h7, h8, h9, h10, h11, h12, h14, hu, i13, i15⟩
        have hue : u = w2 := by rw [hs 13 (by decide), hs 15 (by decide)] at hu; exact hu
        subst hue
        clear hu i13 i15 h0 h1 h2 h3 h4 h5 h6 h7 h8 h9 h10 h11 h12 h14
        go_wp2
        go_roundw
        case rel => exact ⟨k + 1, _, by omega, by go_num, by have := HJK.out; congr 1; omega, HST.out, HR2.out, HOF.out⟩
        case measure => simp [intOf]; omega
    · have hd := revK_done HRV.out (by rw [HN.out]; omega)
      have hij : ¬ (k : Int) < (n : Int) - 1 - k := by omega
      subst hd
      have H := Lib.hid (And.intro HRW.out HO.out)
      clear hml hr
      go_wp2
      go_end0
      exact ⟨⟨_, rfl⟩, H.out⟩

end Go.Proofs.Ytflboggjbjfkjaa
