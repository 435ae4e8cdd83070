/-
  Recover, where the journal is read.
-/
import Derived.Test.YtinfgfgmijjhjaaJnI
namespace Go.Proofs.Ytinfgfgmijjhjaa
open Go.RowKit
set_option linter.unusedVariables false
set_option linter.unusedSimpArgs false

theorem field_put (i : Int) (a : Option Addr) (n cap : Nat) (u : World) : (Instr.field 69 (.agg #[.int .i64 i, .slice a n cap]) 1).run Try.prog u = .ok (.slice a n cap) u := by
  obtain ⟨i0, hi, _, hz1, _⟩ := info_parts infoSl
  simp [Instr.field, run_underlying Try.underlying69, asAgg, part, sizeOf, typeInfo, hi, hz1, go_sem]

set_option maxHeartbeats 4000000 in
set_option maxRecDepth 100000 in
theorem recover_none (g : Nat) (D : Dk) (S : Nat → Prop) (w : World) (h : DiskAt w S g D) (hs : 41 < D.secs.length) (hp : D.power = true) (hc : D.content 0 = sec 0) :
    Calls Try.prog 16 #[.pointer (some ⟨g, 0, none⟩)] w (RecTo S g (recoverOf D) w) := by
  rw [recoverOf_none hs hp hc]
  have hq := Lib.hid (show (D.content 0 == sec 0) = true by rw [hc]; simp)
  clear hc
  have CH := Lib.hid (home_yes g D S w h hs)
  have CR := Lib.hid (rows_yes g D S w h hs hp)
  have HD := Lib.hid h
  have hz : (0 : Int) < 41 := by omega
  have hfd := field_put
  have HS := Lib.hid hs
  clear h hp
  go_enter Try.func16, Try.ntmps16
  go_wp2_with fail
  refine (CH.out).mono ?_
  rintro e w1 ⟨rfl, rfl⟩
  go_wp2_with fail
  refine (CR.out).mono ?_
  rintro e w1 ⟨b, R, rfl, hR, hrw⟩
  have hL0 : ((rowsL D).getD 0 []).length = 128 := by rw [rowsL_head]; exact HD.out.ok.content 0 (by have := HS.out; omega)
  have HR := Lib.hid hR
  have HRW := Lib.hid hrw
  have HL0 := Lib.hid hL0
  have HB1 := Lib.hid hrw.below
  have HCS := Lib.hid (fun u (hb : Below w1.heap.size w1 u) => (hrw.carry hb).cell hR 0 (by omega))
  have HBY := Lib.hid (fun u (hb : Below w1.heap.size w1 u) => (hrw.carry hb).bytes 0 (by omega))
  rw [rowsL_head] at HBY
  clear hR hrw CR CH hL0 hs
  generalize R.getD 0 (none, 0, 0) = r at *
  obtain ⟨ra, rm, rc⟩ := r
  dsimp only at HCS HBY
  have hcs := HCS.out w1.drew ((Below.refl _ _).drew)
  go_wp2_with fail
  refine region_head 10 [0, 1, 2, 3, 4, 5, 6, 7, 8, 9] [6, 8] (fun u => u.cell? ⟨b, 0, none⟩ = some (.slice ra rm rc)) (by kernel_rfl) (by kernel_rfl) hcs ?_
  clear hcs
  simp only [pickO, List.append_eq, List.cons_append, List.nil_append, List.filterMap_cons, List.filterMap_nil, List.getElem?_cons_zero, List.getElem?_cons_succ, Option.map_some, List.drop_succ_cons, List.drop_zero]
  iterate 6
    refine seqH_readG _ rfl (by rfl) (by rintro u hu1; go_simp; with_reducible rfl) ?_
    try simp only [Act.put, List.setIfInBounds_toArray, List.set_cons_zero, List.set_cons_succ]
  refine seqH_moveG rfl (by rfl) (fun K hK => ?_)
  go_simp
  refine (empty_any _).mono ?_
  rintro e w2 ⟨b2, rfl, hy2, hb2, _, _⟩
  have HB2 := Lib.hid (((Below.refl _ _).drew).trans (hb2.mono (by simp)) : Below w1.heap.size w1 w2)
  have CE := Lib.hid (equal_any ra rm rc (D.content 0) (some ⟨b2, 0, none⟩) 128 128 (sec 0) w2 (HBY.out _ HB2.out) hy2)
  rw [hq.out] at CE
  refine hK _ _ (HCS.out _ HB2.out) ?_
  clear hK K hb2 hy2
  dsimp only [putV]
  try simp only [Act.put, List.setIfInBounds_toArray, List.set_cons_zero, List.set_cons_succ]
  refine seqH_readG _ rfl (by rfl) (by rintro u hu1; go_simp; with_reducible rfl) ?_
  try simp only [Act.put, List.setIfInBounds_toArray, List.set_cons_zero, List.set_cons_succ]
  refine seqH_moveG rfl (by rfl) (fun K hK => ?_)
  go_simp
  refine (CE.out).mono ?_
  rintro e w3 ⟨rfl, rfl⟩
  refine hK _ _ (HCS.out _ HB2.out) ?_
  clear hK K CE
  try simp only [Act.put, List.setIfInBounds_toArray, List.set_cons_zero, List.set_cons_succ]
  refine seqH_readG _ rfl (by rfl) (by rintro u hu1; go_simp; with_reducible rfl) ?_
  try simp only [Act.put, List.setIfInBounds_toArray, List.set_cons_zero, List.set_cons_succ]
  refine seqH_nil ?_
  have B2 := Lib.hid (HB1.out.trans (HB2.out.mono HB1.out.size) : Below w.heap.size w w2)
  go_wp2
  go_ret2
  exact ⟨rfl, S, HD.out.below B2.out, Only.of_below B2.out, fun k hk => .inl hk⟩

open Go.RowKit
theorem two_news {w : World} {B : Nat} {v0 v1 : Value} {t : TypeId} {fr : Nat × Nat} (h : w.heap[B]? = some (.cells #[v0, v1] t fr)) : ∀ j u, ([v0, v1].flatMap oneC)[j]? = some u → w.cell? ((⟨B, 0, none⟩ : Addr).add j) = some u := by
  intro j u hj
  rw [Addr.add_mid, Nat.zero_add, cell_of_row _ _ _ _ _ _ h]
  simpa [oneC] using hj
theorem func_one {bl bd g : Nat} (y : Value) (hy : y = writeV bl bd ∨ y = flushV g) : ∀ u ∈ oneC y, u.oneCell' = true := by
  intro u hu
  simp only [oneC, List.mem_singleton] at hu
  subst hu
  rcases hy with rfl | rfl <;> rfl

/-- the steps' list, where it was appended to -/
theorem steps_of_recs {w : World} {U : Nat → Prop} {g n cap : Nat} {a : Option Addr} {vs : List Value} {ts : List Stp} (h : Recs oneC w 86 1 (.slice a n cap) vs) (hU : ∀ k, U k → k < w.heap.size) (ha : ∀ p, a = some p → U p.block) (hts : ts.length = n)
    (hst : ∀ k, k < n → StepIs w U g (vs.getD k undef) (ts.getD k .flush)) : StepsIn w U g a n cap ts := ⟨hts, hU, vs, came_of_recs h, ha, hst⟩

def NF : Nat → Prop := fun _ => False
theorem NF.lt {w : World} : ∀ k, NF k → k < w.heap.size := fun _ h => h.elim

set_option maxHeartbeats 4000000 in
set_option maxRecDepth 100000 in
theorem recover_nil (g : Nat) (D : Dk) (S : Nat → Prop) (w : World) (h : DiskAt w S g D) (hs : 41 < D.secs.length) (hp : D.power = true) (hc : D.content 0 ≠ sec 0) (hA : begunL (rowsL D) D.secs.length = []) (hf : D.waits.length ≤ 1073741000) :
    Calls Try.prog 16 #[.pointer (some ⟨g, 0, none⟩)] w (RecTo S g (recoverOf D) w) := by
  rw [recoverOf_some hs hp hc, hA]
  have hq := Lib.hid (show (D.content 0 == sec 0) = false by simpa using hc)
  have HA := Lib.hid hA
  have hres : ∀ r : Int × Dk, plays (recR []) D = r → (if (plays (recR []) D).1 = 0 then ((([] : List Pt).length : Nat) : Int) else 0, plays (recR []) D) = (0, r) := fun r hr => by rw [hr]; simp
  rw [hres _ rfl, show recR [] = formatR from rfl]
  obtain ⟨r1, r2, hr⟩ : ∃ r1 r2, plays formatR D = (r1, r2) := ⟨_, _, rfl⟩
  rw [hr]
  have HRR := Lib.hid hr
  clear hr
  have hmany := h.ok.many
  clear hc hA hres
  have CH := Lib.hid (home_yes g D S w h hs)
  have CR := Lib.hid (rows_yes g D S w h hs hp)
  have HD := Lib.hid h
  have hz : (0 : Int) < 41 := by omega
  have hfd := field_put
  have HS := Lib.hid hs
  clear h hp
  go_enter Try.func16, Try.ntmps16
  go_wp2_with fail
  refine (CH.out).mono ?_
  rintro e w1 ⟨rfl, rfl⟩
  go_wp2_with fail
  refine (CR.out).mono ?_
  rintro e w1 ⟨b, R, rfl, hR, hrw⟩
  have hL0 : ((rowsL D).getD 0 []).length = 128 := by rw [rowsL_head]; exact HD.out.ok.content 0 (by have := HS.out; omega)
  have HR := Lib.hid hR
  have HRW := Lib.hid hrw
  have HL0 := Lib.hid hL0
  have HB1 := Lib.hid hrw.below
  have HCS := Lib.hid (fun u (hb : Below w1.heap.size w1 u) => (hrw.carry hb).cell hR 0 (by omega))
  have HBY := Lib.hid (fun u (hb : Below w1.heap.size w1 u) => (hrw.carry hb).bytes 0 (by omega))
  rw [rowsL_head] at HBY
  clear hR hrw CR CH hL0 hs
  generalize R.getD 0 (none, 0, 0) = r at *
  obtain ⟨ra, rm, rc⟩ := r
  dsimp only at HCS HBY
  have hcs := HCS.out w1.drew ((Below.refl _ _).drew)
  go_wp2_with fail
  refine region_head 10 [0, 1, 2, 3, 4, 5, 6, 7, 8, 9] [6, 8] (fun u => u.cell? ⟨b, 0, none⟩ = some (.slice ra rm rc)) (by kernel_rfl) (by kernel_rfl) hcs ?_
  clear hcs
  simp only [pickO, List.append_eq, List.cons_append, List.nil_append, List.filterMap_cons, List.filterMap_nil, List.getElem?_cons_zero, List.getElem?_cons_succ, Option.map_some, List.drop_succ_cons, List.drop_zero]
  iterate 6
    refine seqH_readG _ rfl (by rfl) (by rintro u hu1; go_simp; with_reducible rfl) ?_
    try simp only [Act.put, List.setIfInBounds_toArray, List.set_cons_zero, List.set_cons_succ]
  refine seqH_moveG rfl (by rfl) (fun K hK => ?_)
  go_simp
  refine (empty_any _).mono ?_
  rintro e w2 ⟨b2, rfl, hy2, hb2, _, _⟩
  have HB2 := Lib.hid (((Below.refl _ _).drew).trans (hb2.mono (by simp)) : Below w1.heap.size w1 w2)
  have CE := Lib.hid (equal_any ra rm rc (D.content 0) (some ⟨b2, 0, none⟩) 128 128 (sec 0) w2 (HBY.out _ HB2.out) hy2)
  rw [hq.out] at CE
  refine hK _ _ (HCS.out _ HB2.out) ?_
  clear hK K hb2 hy2
  dsimp only [putV]
  try simp only [Act.put, List.setIfInBounds_toArray, List.set_cons_zero, List.set_cons_succ]
  refine seqH_readG _ rfl (by rfl) (by rintro u hu1; go_simp; with_reducible rfl) ?_
  try simp only [Act.put, List.setIfInBounds_toArray, List.set_cons_zero, List.set_cons_succ]
  refine seqH_moveG rfl (by rfl) (fun K hK => ?_)
  go_simp
  refine (CE.out).mono ?_
  rintro e w3 ⟨rfl, rfl⟩
  refine hK _ _ (HCS.out _ HB2.out) ?_
  clear hK K CE
  try simp only [Act.put, List.setIfInBounds_toArray, List.set_cons_zero, List.set_cons_succ]
  refine seqH_readG _ rfl (by rfl) (by rintro u hu1; go_simp; with_reducible rfl) ?_
  try simp only [Act.put, List.setIfInBounds_toArray, List.set_cons_zero, List.set_cons_succ]
  refine seqH_nil ?_
  have B2 := Lib.hid (HB1.out.trans (HB2.out.mono HB1.out.size) : Below w.heap.size w w2)
  have CSZ := Lib.hid (fun u (hb : Below w.heap.size w u) => size_any g D S u (HD.out.below hb))
  have CBG := Lib.hid (begun_any b R (rowsL D) D.secs.length w w2 (HRW.out.carry HB2.out) HR.out HL0.out (by omega))
  rw [HA.out] at CBG
  clear HRW HL0 HB1 HCS HBY HB2 hz hfd hmany
  go_wp2_with fail
  refine (CSZ.out _ B2.out).mono ?_
  rintro e w3 ⟨rfl, rfl⟩
  go_wp2_with fail
  refine (CBG.out).mono ?_
  rintro e w4 ⟨U4, a4, n4, c4, M4, rfl, hp4, hM4, hb4, hU4⟩
  have hn4 : n4 = 0 := by rw [← hp4.mlen, ← List.length_map (f := PutM.pt), hM4]; rfl
  subst hn4
  have B4 := Lib.hid (B2.out.trans (hb4.mono B2.out.size))
  clear hp4 hM4 hb4 hU4 CBG CSZ B2
  go_wp2_with fail
  refine (empty_any w4).mono ?_
  rintro e w5 ⟨b5, rfl, hy5, hb5, hlo, hhi⟩
  have B5 := Lib.hid (B4.out.trans (hb5.mono B4.out.size))
  have Y5 := Lib.hid hy5
  have A5 := Lib.hid (show w.heap.size ≤ b5 ∧ b5 < w5.heap.size from ⟨Nat.le_trans B4.out.size hlo, hhi⟩)
  clear hy5 hb5 hlo hhi
  go_wp2_with (refine wpList_buildSliceV rfl 22 1 _ rfl #[(0, .agg (putV 0 (some ⟨b5, 0, none⟩) 128 128))] (by simp [go_sem]) _ _ (built_put 0 _ _ _ _) ?_)
  have hb6 : Below w5.heap.size w5 (w5.alloc (.cells (putV 0 (some ⟨b5, 0, none⟩) 128 128) 69)) := (Below.refl _ _).alloc (Nat.le_refl _) _
  have hbw6 : Below w.heap.size w (w5.alloc (.cells (putV 0 (some ⟨b5, 0, none⟩) 128 128) 69)) := B5.out.alloc B5.out.size _
  have P6 := Lib.hid (puts_one (U := NU NF w (w5.alloc (.cells (putV 0 (some ⟨b5, 0, none⟩) 128 128) 69))) (heap_alloc_new w5 (.cells (putV 0 (some ⟨b5, 0, none⟩) 128 128) 69)) (Y5.out.below hb6) (NU.lt NF.lt hbw6) (.inr ⟨B5.out.size, by simp⟩) (fun p hp => by cases hp; exact .inr ⟨A5.out.1, by have := A5.out.2; simp; omega⟩))
  have B6 := Lib.hid hbw6
  clear hb6 hbw6 Y5 A5
  generalize w5.alloc (.cells (putV 0 (some ⟨b5, 0, none⟩) 128 128) 69) = w6 at *
  refine (write_step g _ 1 1 w6).mono ?_
  rintro e w7 ⟨bl, bd, rfl, k1, k2, hb7, k3, k4, k5, k6⟩
  have V7 := Lib.hid (step_made P6.out NF.lt B6.out k1 k2 hb7 k3 k4 k5 k6)
  have B7 := Lib.hid (B6.out.trans (hb7.mono B6.out.size))
  clear k1 k2 hb7 k3 k4 k5 k6 P6
  have V8 := Lib.hid (step_carry V7.out NF.lt B7.out ((Below.refl _ _).alloc (Nat.le_refl _) (.cells #[writeV bl bd, flushV g] 86)))
  have B8 := Lib.hid (B7.out.alloc B7.out.size (.cells #[writeV bl bd, flushV g] 86))
  obtain ⟨i0, hi, hz0, hz1, hz2⟩ := info_parts infoStep
  go_wp2_with (first
    | (refine wpList_buildSliceV rfl 96 2 _ rfl #[(0, writeV bl bd), (1, flushV g)] (by simp [go_sem, writeV, flushV]) _ _ (built_steps [writeV bl bd, flushV g] (by simp [flushV_cells, writeV_cells]) (by simp) (by simp) _ rfl 2 rfl _) ?_)
    | (at_builtin; refine wpList_append_recs (f := oneC) rfl _ _ 96 rfl 86 i0 .nilFunc 1 8 Try.underlying96 hi hz0 hz1 hz2 rfl (by omega) (.slice none 0 0) [] rfl (Recs.nil _ _ _ _) ⟨w7.heap.size, 0, none⟩ 2 2 [writeV bl bd, flushV g] rfl rfl (fun y hy => rfl) (fun y hy => func_one y (by simpa using hy)) (two_news (heap_alloc_new w7 _)) (by unfold maxLen; simp) (by simp) ?_; intro v9 w9 hr9 hg9 hv9))
  obtain ⟨a9, c9, rfl, _, _⟩ := hr9.form
  have hb9 : Below (w7.alloc (.cells #[writeV bl bd, flushV g] 86)).heap.size (w7.alloc (.cells #[writeV bl bd, flushV g] 86)) w9 := (Below.refl _ _).grown hg9 (Nat.le_refl _) (fun k hk => by cases hk)
  have B9 := Lib.hid (B8.out.trans (hb9.mono B8.out.size))
  have V9 := step_carry V8.out NF.lt B8.out hb9
  have hown : ∀ p, a9 = some p → NU NF w w9 p.block := fun p hp => by
    subst hp
    have hlt := hr9.lt p.block rfl
    rcases hv9 with h1 | h1
    · simp [Value.ownBlock] at h1
    · simp only [Value.ownBlock, Option.some.injEq] at h1
      exact .inr ⟨by have := B8.out.size; omega, hlt⟩
  have CR := Lib.hid (run_any g D S (NU NF w w9) a9 2 c9 formatR w9 (HD.out.below B9.out) (fun k hk hS => hk.elim id fun h => by have := HD.out.lt k hS; omega)
    (steps_of_recs hr9 (NU.lt NF.lt B9.out) hown rfl (fun k hk => by
      match k, hk with
      | 0, _ => exact V9
      | 1, _ => exact rfl)) (by omega) (by rw [formatR_costs]; omega))
  rw [HRR.out] at CR
  clear hr9 hg9 hv9 hb9 V9 hown hi hz0 hz1 hz2 V8 B8 V7 B7
  simp only [List.nil_append, List.length_cons, List.length_nil, Nat.zero_add, Nat.reduceAdd]
  dsimp only at CR
  by_cases h0 : r1 = 0
  · subst h0
    go_wp2_with fail
    refine (CR.out).mono ?_
    rintro e w10 ⟨rfl, S10, hd10, ho10, hs10⟩
    go_wp2
    go_ret2
    exact ⟨rfl, S10, hd10, (Only.of_below B9.out).trans ho10 (fun _ _ h => h), fun k hk => (hs10 k hk).imp_right fun h => Nat.le_trans B9.out.size h⟩
  · have hb0 : (r1 == 0) = false := by simpa using h0
    have hb1 : (r1 != 0) = true := by simpa using h0
    clear h0
    go_wp2_with fail
    refine (CR.out).mono ?_
    rintro e w10 ⟨rfl, S10, hd10, ho10, hs10⟩
    go_wp2
    go_ret2
    exact ⟨rfl, S10, hd10, (Only.of_below B9.out).trans ho10 (fun _ _ h => h), fun k hk => (hs10 k hk).imp_right fun h => Nat.le_trans B9.out.size h⟩

open Go.RowKit
/-- a step whose memory is older than what is written -/
theorem step_grown {wa wb w1 w2 : World} {g : Nat} {v : Value} {s : Stp} {row : Option Nat} (h : StepIs w1 (NU NF wa wb) g v s) (hg : w1.grownBy w2 row) (hb : wb.heap.size ≤ w1.heap.size) (hr : ∀ k, row = some k → k < wa.heap.size ∨ wb.heap.size ≤ k) : StepIs w2 (NU NF wa wb) g v s :=
  h.keep hg.size fun k hk => hk.elim (fun x => x.elim) fun hk => hg.block k (by omega) (fun e => by rcases hr k e.symm with h | h <;> omega)
theorem step_below {w1 w2 wa wb : World} {g : Nat} {v : Value} {s : Stp} (h : StepIs w1 (NU NF wa wb) g v s) (hb : Below w1.heap.size w1 w2) (hs : wb.heap.size ≤ w1.heap.size) : StepIs w2 (NU NF wa wb) g v s :=
  h.keep hb.size fun k hk => hb.block k (hk.elim (fun x => x.elim) fun h => by omega)
theorem step_widen {w0 w1 wa wb : World} {g : Nat} {v : Value} {s : Stp} (h : StepIs w1 (NU NF wa wb) g v s) (h0 : w0.heap.size ≤ wa.heap.size) (hs : wb.heap.size ≤ w1.heap.size) : StepIs w1 (NU NF w0 w1) g v s :=
  h.more (fun k hk => hk.imp_right fun h => ⟨by omega, by omega⟩) (fun k hk => hk.elim (fun x => x.elim) fun h => h.2)

set_option maxHeartbeats 8000000 in
set_option maxRecDepth 100000 in
theorem recover_puts (g : Nat) (D : Dk) (S : Nat → Prop) (w : World) (h : DiskAt w S g D) (hs : 41 < D.secs.length) (hp : D.power = true) (hc : D.content 0 ≠ sec 0) (hA : begunL (rowsL D) D.secs.length ≠ []) (hf : D.waits.length ≤ 1073741000) :
    Calls Try.prog 16 #[.pointer (some ⟨g, 0, none⟩)] w (RecTo S g (recoverOf D) w) := by
  rw [recoverOf_some hs hp hc]
  have hq := Lib.hid (show (D.content 0 == sec 0) = false by simpa using hc)
  have hlen := begunL_length (rowsL D) D.secs.length
  have hcost := recR_costs (begunL (rowsL D) D.secs.length) hlen
  have hrec : recR (begunL (rowsL D) D.secs.length) = [.write (begunL (rowsL D) D.secs.length), .flush, .write [(0, sec 0)], .flush] := by unfold recR; rw [if_neg hA]; rfl
  have hpos : 0 < (begunL (rowsL D) D.secs.length).length := List.length_pos_iff.2 hA
  have hmany := h.ok.many
  obtain ⟨A, hAe⟩ : ∃ A, begunL (rowsL D) D.secs.length = A := ⟨_, rfl⟩
  rw [hAe] at hlen hcost hrec hpos ⊢
  have HA := Lib.hid hAe
  obtain ⟨r1, r2, hr⟩ : ∃ r1 r2, plays (recR A) D = (r1, r2) := ⟨_, _, rfl⟩
  rw [hr]
  dsimp only
  obtain ⟨N, hN⟩ : ∃ N : Int, (if r1 = 0 then (A.length : Int) else 0) = N := ⟨_, rfl⟩
  rw [hN]
  have HN := Lib.hid hN
  rw [hrec] at hr hcost
  have HRR := Lib.hid hr
  have HCO := Lib.hid hcost
  clear hc hA hr hrec hAe hcost hN
  have CH := Lib.hid (home_yes g D S w h hs)
  have CR := Lib.hid (rows_yes g D S w h hs hp)
  have HD := Lib.hid h
  have hz : (0 : Int) < 41 := by omega
  have hfd := field_put
  have HS := Lib.hid hs
  clear h hp
  go_enter Try.func16, Try.ntmps16
  go_wp2_with fail
  refine (CH.out).mono ?_
  rintro e w1 ⟨rfl, rfl⟩
  go_wp2_with fail
  refine (CR.out).mono ?_
  rintro e w1 ⟨b, R, rfl, hR, hrw⟩
  have hL0 : ((rowsL D).getD 0 []).length = 128 := by rw [rowsL_head]; exact HD.out.ok.content 0 (by have := HS.out; omega)
  have HR := Lib.hid hR
  have HRW := Lib.hid hrw
  have HL0 := Lib.hid hL0
  have HB1 := Lib.hid hrw.below
  have HCS := Lib.hid (fun u (hb : Below w1.heap.size w1 u) => (hrw.carry hb).cell hR 0 (by omega))
  have HBY := Lib.hid (fun u (hb : Below w1.heap.size w1 u) => (hrw.carry hb).bytes 0 (by omega))
  rw [rowsL_head] at HBY
  clear hR hrw CR CH hL0 hs
  generalize R.getD 0 (none, 0, 0) = r at *
  obtain ⟨ra, rm, rc⟩ := r
  dsimp only at HCS HBY
  have hcs := HCS.out w1.drew ((Below.refl _ _).drew)
  go_wp2_with fail
  refine region_head 10 [0, 1, 2, 3, 4, 5, 6, 7, 8, 9] [6, 8] (fun u => u.cell? ⟨b, 0, none⟩ = some (.slice ra rm rc)) (by kernel_rfl) (by kernel_rfl) hcs ?_
  clear hcs
  simp only [pickO, List.append_eq, List.cons_append, List.nil_append, List.filterMap_cons, List.filterMap_nil, List.getElem?_cons_zero, List.getElem?_cons_succ, Option.map_some, List.drop_succ_cons, List.drop_zero]
  iterate 6
    refine seqH_readG _ rfl (by rfl) (by rintro u hu1; go_simp; with_reducible rfl) ?_
    try simp only [Act.put, List.setIfInBounds_toArray, List.set_cons_zero, List.set_cons_succ]
  refine seqH_moveG rfl (by rfl) (fun K hK => ?_)
  go_simp
  refine (empty_any _).mono ?_
  rintro e w2 ⟨b2, rfl, hy2, hb2, _, _⟩
  have HB2 := Lib.hid (((Below.refl _ _).drew).trans (hb2.mono (by simp)) : Below w1.heap.size w1 w2)
  have CE := Lib.hid (equal_any ra rm rc (D.content 0) (some ⟨b2, 0, none⟩) 128 128 (sec 0) w2 (HBY.out _ HB2.out) hy2)
  rw [hq.out] at CE
  refine hK _ _ (HCS.out _ HB2.out) ?_
  clear hK K hb2 hy2
  dsimp only [putV]
  try simp only [Act.put, List.setIfInBounds_toArray, List.set_cons_zero, List.set_cons_succ]
  refine seqH_readG _ rfl (by rfl) (by rintro u hu1; go_simp; with_reducible rfl) ?_
  try simp only [Act.put, List.setIfInBounds_toArray, List.set_cons_zero, List.set_cons_succ]
  refine seqH_moveG rfl (by rfl) (fun K hK => ?_)
  go_simp
  refine (CE.out).mono ?_
  rintro e w3 ⟨rfl, rfl⟩
  refine hK _ _ (HCS.out _ HB2.out) ?_
  clear hK K CE
  try simp only [Act.put, List.setIfInBounds_toArray, List.set_cons_zero, List.set_cons_succ]
  refine seqH_readG _ rfl (by rfl) (by rintro u hu1; go_simp; with_reducible rfl) ?_
  try simp only [Act.put, List.setIfInBounds_toArray, List.set_cons_zero, List.set_cons_succ]
  refine seqH_nil ?_
  have B2 := Lib.hid (HB1.out.trans (HB2.out.mono HB1.out.size) : Below w.heap.size w w2)
  have CSZ := Lib.hid (fun u (hb : Below w.heap.size w u) => size_any g D S u (HD.out.below hb))
  have CBG := Lib.hid (begun_any b R (rowsL D) D.secs.length w w2 (HRW.out.carry HB2.out) HR.out HL0.out (by omega))
  rw [HA.out] at CBG
  clear HRW HL0 HB1 HCS HBY HB2 hz hfd hmany
  go_wp2_with fail
  refine (CSZ.out _ B2.out).mono ?_
  rintro e w3 ⟨rfl, rfl⟩
  go_wp2_with fail
  refine (CBG.out).mono ?_
  rintro e w4 ⟨U4, a4, n4, c4, M4, rfl, hp4, hM4, hb4, hU4⟩
  have hn4 : n4 = A.length := by rw [← hp4.mlen, ← List.length_map (f := PutM.pt), hM4]
  subst hn4
  have hposI : (0 : Int) < (A.length : Int) := by omega
  have B4 := Lib.hid (B2.out.trans (hb4.mono B2.out.size))
  have P4 := Lib.hid (show PutsIn w4 (NU NF w w4) a4 A.length c4 M4 from hp4.more (fun k hk => .inr ⟨(hU4 k hk).elim id fun h => Nat.le_trans B2.out.size h, hp4.lt k hk⟩) (NU.lt NF.lt B4.out))
  have HM4 := Lib.hid hM4
  clear hp4 hM4 hb4 hU4 CBG CSZ B2
  obtain ⟨i0, hi, hz0, hz1, hz2⟩ := info_parts infoStep
  -- the first two steps
  go_wp2_with fail
  refine (write_step g a4 A.length c4 w4).mono ?_
  rintro e w5 ⟨bl1, bd1, rfl, k1, k2, hb5, k3, k4, k5, k6⟩
  have hS5 := step_made P4.out NF.lt B4.out k1 k2 hb5 k3 k4 k5 k6
  rw [HM4.out] at hS5
  have B5 := Lib.hid (B4.out.trans (hb5.mono B4.out.size))
  have hb6 : Below w5.heap.size w5 (w5.alloc (.cells #[writeV bl1 bd1, flushV g] 86)) := (Below.refl _ _).alloc (Nat.le_refl _) _
  have S6 := Lib.hid (step_below hS5 hb6 (Nat.le_refl _))
  have B6 := Lib.hid (B5.out.alloc B5.out.size (.cells #[writeV bl1 bd1, flushV g] 86))
  clear k1 k2 hb5 k3 k4 k5 k6 hS5 hb6 P4 HM4
  go_wp2_with (first
    | (refine wpList_buildSliceV rfl 96 2 _ rfl #[(0, writeV bl1 bd1), (1, flushV g)] (by simp [go_sem, writeV, flushV]) _ _ (built_steps [writeV bl1 bd1, flushV g] (by simp [flushV_cells, writeV_cells]) (by simp) (by simp) _ rfl 2 rfl _) ?_)
    | (at_builtin; refine wpList_append_recs (f := oneC) rfl _ _ 96 rfl 86 i0 .nilFunc 1 8 Try.underlying96 hi hz0 hz1 hz2 rfl (by omega) (.slice none 0 0) [] rfl (Recs.nil _ _ _ _) ⟨w5.heap.size, 0, none⟩ 2 2 [writeV bl1 bd1, flushV g] rfl rfl (fun y hy => rfl) (fun y hy => func_one y (by simpa using hy)) (two_news (heap_alloc_new w5 _)) (by unfold maxLen; simp) (by simp) ?_; intro v7 w7 hr7 hg7 hv7))
  rw [List.nil_append] at hr7
  obtain ⟨vb, c7, rfl, _, _, hvb⟩ := hr7.form' (by simp)
  have hvb2 : w5.heap.size ≤ vb := by
    rcases hv7 with h1 | h1
    · simp [Value.ownBlock] at h1
    · simp only [Value.ownBlock, Option.some.injEq] at h1
      rw [h1]; simp
  have hb7 : Below (w5.alloc (.cells #[writeV bl1 bd1, flushV g] 86)).heap.size (w5.alloc (.cells #[writeV bl1 bd1, flushV g] 86)) w7 := (Below.refl _ _).grown hg7 (Nat.le_refl _) (fun k hk => by cases hk)
  have B7 := Lib.hid (B6.out.trans (hb7.mono B6.out.size))
  have S7 := Lib.hid (step_below S6.out hb7 (by simp))
  have R7 := Lib.hid hr7
  have HVB := Lib.hid (show w5.heap.size ≤ vb ∧ vb < w7.heap.size from ⟨hvb2, hvb⟩)
  have Z57 := Lib.hid (show w5.heap.size ≤ w7.heap.size from Nat.le_trans (by simp) hb7.size)
  clear hr7 hg7 hv7 hvb hvb2 hb7 S6 B6
  simp only [List.length_cons, List.length_nil, Nat.zero_add, Nat.reduceAdd]
  -- the empty head
  go_wp2_with fail
  refine (empty_any w7).mono ?_
  rintro e w8 ⟨b8, rfl, hy8, hb8, hlo, hhi⟩
  have C8 := Lib.hid hb8
  have Y8 := Lib.hid hy8
  have A8 := Lib.hid (show w7.heap.size ≤ b8 ∧ b8 < w8.heap.size from ⟨hlo, hhi⟩)
  clear hy8 hb8 hlo hhi
  go_wp2_with (refine wpList_buildSliceV rfl 22 1 _ rfl #[(0, .agg (putV 0 (some ⟨b8, 0, none⟩) 128 128))] (by simp [go_sem]) _ _ (built_put 0 _ _ _ _) ?_)
  have hb9 : Below w8.heap.size w8 (w8.alloc (.cells (putV 0 (some ⟨b8, 0, none⟩) 128 128) 69)) := (Below.refl _ _).alloc (Nat.le_refl _) _
  have hbw9 : Below w7.heap.size w7 (w8.alloc (.cells (putV 0 (some ⟨b8, 0, none⟩) 128 128) 69)) := C8.out.alloc C8.out.size _
  have P9 := Lib.hid (puts_one (U := NU NF w7 (w8.alloc (.cells (putV 0 (some ⟨b8, 0, none⟩) 128 128) 69))) (heap_alloc_new w8 (.cells (putV 0 (some ⟨b8, 0, none⟩) 128 128) 69)) (Y8.out.below hb9) (NU.lt NF.lt hbw9) (.inr ⟨C8.out.size, by simp⟩) (fun p hp => by cases hp; exact .inr ⟨A8.out.1, by have := A8.out.2; simp; omega⟩))
  have C9 := Lib.hid hbw9
  clear hb9 hbw9 Y8 A8 C8
  generalize w8.alloc (.cells (putV 0 (some ⟨b8, 0, none⟩) 128 128) 69) = w9 at *
  refine (write_step g _ 1 1 w9).mono ?_
  rintro e w10 ⟨bl2, bd2, rfl, k1, k2, hb10, k3, k4, k5, k6⟩
  have V10 := Lib.hid (step_made P9.out NF.lt C9.out k1 k2 hb10 k3 k4 k5 k6)
  have C10 := Lib.hid (C9.out.trans (hb10.mono C9.out.size))
  have hb11 : Below w10.heap.size w10 (w10.alloc (.cells #[writeV bl2 bd2, flushV g] 86)) := (Below.refl _ _).alloc (Nat.le_refl _) _
  have C11 := Lib.hid (C10.out.alloc C10.out.size (.cells #[writeV bl2 bd2, flushV g] 86))
  have V11 := Lib.hid (step_below V10.out hb11 (Nat.le_refl _))
  have S11 := Lib.hid (step_below S7.out C11.out Z57.out)
  have R11 := Lib.hid (R7.out.below C11.out)
  clear k1 k2 hb10 k3 k4 k5 k6 P9 hb11 V10 S7 R7
  go_wp2_with (first
    | (refine wpList_buildSliceV rfl 96 2 _ rfl #[(0, writeV bl2 bd2), (1, flushV g)] (by simp [go_sem, writeV, flushV]) _ _ (built_steps [writeV bl2 bd2, flushV g] (by simp [flushV_cells, writeV_cells]) (by simp) (by simp) _ rfl 2 rfl _) ?_)
    | (at_builtin; refine wpList_append_recs (f := oneC) rfl _ _ 96 rfl 86 i0 .nilFunc 1 8 Try.underlying96 hi hz0 hz1 hz2 rfl (by omega) (.slice (some ⟨vb, 0, none⟩) 2 c7) [writeV bl1 bd1, flushV g] rfl R11.out ⟨w10.heap.size, 0, none⟩ 2 2 [writeV bl2 bd2, flushV g] rfl rfl (fun y hy => rfl) (fun y hy => func_one y (by simpa using hy)) (two_news (heap_alloc_new w10 _)) (by unfold maxLen; simp) (by simp) ?_; intro v12 w12 hr12 hg12 hv12))
  obtain ⟨a12, c12, rfl, _, _⟩ := hr12.form
  have hw7 := HVB.out
  have hrow : ∀ k, (Value.slice (some ⟨vb, 0, none⟩) 2 c7).ownBlock = some k → k = vb := fun k hk => by simp [Value.ownBlock] at hk; exact hk.symm
  have B12 := Lib.hid (show Below w.heap.size w w12 from (B7.out.trans (C11.out.mono B7.out.size)).grown hg12 (Nat.le_trans B7.out.size C11.out.size) (fun k hk => by rw [hrow k hk]; have := B5.out.size; omega))
  have hz12 : w10.heap.size + 1 ≤ w12.heap.size := by simpa using hg12.size
  have hz7 := C10.out.size
  have hz5 := Z57.out
  have hw5 := B5.out.size
  have V12 := step_widen (w0 := w) (step_grown V11.out hg12 (by simp) (fun k hk => .inl (by rw [hrow k hk]; exact hw7.2))) (by omega) (by omega)
  have S12 := step_widen (w0 := w) (step_grown S11.out hg12 (by simp; omega) (fun k hk => .inr (by rw [hrow k hk]; exact hw7.1))) (Nat.le_refl _) (by omega)
  have hown : ∀ p, a12 = some p → NU NF w w12 p.block := fun p hp => by
    subst hp
    have hlt := hr12.lt p.block rfl
    rcases hv12 with h1 | h1
    · exact .inr ⟨by rw [hrow p.block h1.symm]; omega, hlt⟩
    · simp only [Value.ownBlock, Option.some.injEq] at h1
      exact .inr ⟨by rw [h1]; simp; omega, hlt⟩
  have CR := Lib.hid (run_any g D S (NU NF w w12) a12 4 c12 [.write A, .flush, .write [(0, sec 0)], .flush] w12 (HD.out.below B12.out) (fun k hk hS => hk.elim id fun h => by have := HD.out.lt k hS; omega)
    (steps_of_recs hr12 (NU.lt NF.lt B12.out) hown rfl (fun k hk => by
      match k, hk with
      | 0, _ => exact S12
      | 1, _ => exact rfl
      | 2, _ => exact V12
      | 3, _ => exact rfl)) (by omega) (by have := HCO.out; omega))
  rw [HRR.out] at CR
  clear hr12 hg12 hv12 V12 S12 hown hi hz0 hz1 hz2 V11 S11 R11 C11 C10 C9 B7 B5 B4 hw7 hrow hz12 hz7 hz5 hw5 HVB Z57
  simp only [List.cons_append, List.nil_append, List.length_cons, List.length_nil, Nat.zero_add, Nat.reduceAdd]
  dsimp only at CR
  by_cases h0 : r1 = 0
  · subst h0
    obtain rfl : N = (A.length : Int) := by simpa using HN.out.symm
    clear HN
    go_wp2_with fail
    refine (CR.out).mono ?_
    rintro e w13 ⟨rfl, S13, hd13, ho13, hs13⟩
    go_wp2
    go_ret2
    exact ⟨rfl, S13, hd13, (Only.of_below B12.out).trans ho13 (fun _ _ h => h), fun k hk => (hs13 k hk).imp_right fun h => Nat.le_trans B12.out.size h⟩
  · have hb0 : (r1 == 0) = false := by simpa using h0
    have hb1 : (r1 != 0) = true := by simpa using h0
    obtain rfl : N = 0 := by simpa [h0] using HN.out.symm
    clear h0 HN
    go_wp2_with fail
    refine (CR.out).mono ?_
    rintro e w13 ⟨rfl, S13, hd13, ho13, hs13⟩
    go_wp2
    go_ret2
    exact ⟨rfl, S13, hd13, (Only.of_below B12.out).trans ho13 (fun _ _ h => h), fun k hk => (hs13 k hk).imp_right fun h => Nat.le_trans B12.out.size h⟩

theorem recover_any (g : Nat) (D : Dk) (S : Nat → Prop) (w : World) (h : DiskAt w S g D) (hf : D.waits.length ≤ 1073741000) :
    Calls Try.prog 16 #[.pointer (some ⟨g, 0, none⟩)] w (RecTo S g (recoverOf D) w) := by
  by_cases hs : 41 < D.secs.length
  · cases hp : D.power with
    | false => exact recover_off g D S w h hs hp
    | true =>
      by_cases hc : D.content 0 = sec 0
      · exact recover_none g D S w h hs hp hc
      · by_cases hA : begunL (rowsL D) D.secs.length = []
        · exact recover_nil g D S w h hs hp hc hA hf
        · exact recover_puts g D S w h hs hp hc hA hf
  · exact recover_small g D S w h hs

end Go.Proofs.Ytinfgfgmijjhjaa
