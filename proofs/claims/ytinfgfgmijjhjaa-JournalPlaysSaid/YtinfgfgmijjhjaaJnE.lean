/-
  Format, Commit: the steps' list, in memory.
-/
import Derived.Test.YtinfgfgmijjhjaaJnD
import Derived.Test.YtinfgfgmijjhjaaJnRun
namespace Go.Proofs.Ytinfgfgmijjhjaa
open Go.RowKit
set_option linter.unusedVariables false
set_option linter.unusedSimpArgs false

def copyM (x : PutM × Nat) : PutM := ⟨1 + (x.2 : Int), x.1.a, x.1.n, x.1.cap, x.1.b⟩
def copiesM (M : List PutM) : List PutM := M.zipIdx.map copyM
theorem copiesM_length (M : List PutM) : (copiesM M).length = M.length := by simp [copiesM]
theorem copiesM_pt (M : List PutM) : (copiesM M).map PutM.pt = copiesL (M.map PutM.pt) := by
  simp [copiesM, copiesL, List.zipIdx_map, copyM, PutM.pt, Function.comp_def]
theorem copiesM_at (M : List PutM) (k : Nat) (hk : k < M.length) : (copiesM M)[k]? = some (copyM (M.getD k default, k)) := by
  simp [copiesM, List.getElem?_zipIdx, List.getElem?_eq_getElem hk]

/-- puts, in a slice of new memory; their octets lie in U -/
def CopiesTo (U : Nat → Prop) (L : List Pt) (w : World) (e : Ending) (w' : World) : Prop :=
  ∃ (U' : Nat → Prop) (a : Option Addr) (n cap : Nat) (M : List PutM), e = .returned (.slice a n cap) ∧ PutsIn w' U' a n cap M ∧ M.map PutM.pt = L ∧ Below w.heap.size w w' ∧ ∀ k, U' k → U k ∨ w.heap.size ≤ k

set_option maxHeartbeats 1000000 in
set_option maxRecDepth 100000 in
theorem copies_any (U : Nat → Prop) (a : Option Addr) (n cap : Nat) (M : List PutM) (w : World) (h : PutsIn w U a n cap M) (hn : n ≤ 40) :
    Calls Try.prog 46 #[.slice a n cap] w (CopiesTo U (copiesL (M.map PutM.pt)) w) := by
  have HP := Lib.hid h
  have HML := Lib.hid h.mlen
  have HCL := Lib.hid ((copiesM_length M).trans h.mlen)
  obtain ⟨i0, hi, hz0, hz1, hz2⟩ := info_parts infoPut
  have hb1 : Hid (i0.bytes * n ≤ 281474976710656) := by unfold Hid; rw [hz2]; omega
  have hb2 : Hid (n ≤ maxLen) := by unfold Hid maxLen; omega
  clear h
  go_enter Try.func46, Try.ntmps46
  go_wp2_with (at_make; refine wpList_make_full _ rfl _ _ 22 rfl 0 69 i0 (.agg #[.int .i64 0, .slice none 0 0]) 2 Try.underlying22 hi hz0 hz1 .i64 .i64 _ _ n rfl rfl rfl rfl hb1.out hb2.out (Nat.zero_le _) ?_; intro w1 hown hgrow)
  have hr0 : Recs putC w1 69 2 (.slice (some ⟨w.heap.size, 0, none⟩) n n) (List.replicate n ⟨0, none, 0, 0, []⟩) := recs_made _ #[.int .i64 0, .slice none 0 0] rfl (putC_one _) (by simp) hown
  have hbel : Below w.heap.size w w1 := (Below.refl _ _).grown hgrow (Nat.le_refl _) (fun k hk => by cases hk)
  have HR0 := Lib.hid hr0
  have HB0 := Lib.hid hbel
  clear hown hgrow hr0 hbel hi hz0 hz1 hz2
  go_wp2
  go_loopw [11] (fun i wr => ∃ k : Nat, k ≤ n ∧ i = .int .i64 k ∧ Recs putC wr 69 2 (.slice (some ⟨w.heap.size, 0, none⟩) n n) ((copiesM M).take k ++ List.replicate (n - k) ⟨0, none, 0, 0, []⟩) ∧ Below w.heap.size w wr) (fun i _ => n - (intOf i).toNat)
  case atStart => exact ⟨0, Nat.zero_le _, rfl, HR0.out, HB0.out⟩
  case round =>
    obtain ⟨k, hk, rfl, hr, hb⟩ := hrel
    have HR := Lib.hid hr
    have HB := Lib.hid hb
    clear hr hb
    by_cases hlt : k < n
    · obtain ⟨b, off, rfl, hUb, hcell⟩ := (HP.out.below HB.out).at (by omega)
      obtain ⟨_, _, hrg⟩ := hcell k hlt
      have HRG := Lib.hid hrg
      have HX := Lib.hid (copiesM_at M k (by rw [HML.out]; exact hlt))
      have hki : (k : Int) < (n : Int) := by omega
      have hln : ((copiesM M).take k ++ List.replicate (n - k) (⟨0, none, 0, 0, []⟩ : PutM)).length = n := by rw [List.length_append, List.length_take, List.length_replicate, HCL.out]; omega
      have HLN := Lib.hid hln
      clear hcell hrg hln
      generalize M.getD k default = x at *
      obtain ⟨xi, xa, xn, xc, xb⟩ := x
      dsimp only [copyM] at HX
      have hra : Recs putC (wr.alloc (.cells #[.int .i64 xi, .slice xa xn xc] 69)) 69 2 (.slice (some ⟨w.heap.size, 0, none⟩) n n) ((copiesM M).take k ++ List.replicate (n - k) ⟨0, none, 0, 0, []⟩) := HR.out.below ((Below.refl _ _).alloc (Nat.le_refl _) _)
      have HT := Lib.hid (hra.there k (by rw [HLN.out]; exact hlt))
      have HRA := Lib.hid hra
      clear hra
      go_wp2_with (first
        | (refine wpList_load_mid rfl 69 _ rfl b (off + k * 2) rfl [.int .i64 xi, .slice xa xn xc] _ HRG.out Try.underlying69 rfl sizePut ?_)
        | (refine wpList_store_mid rfl 69 _ _ rfl w.heap.size (k * 2) #[.int .i64 (1 + (k : Int)), .slice xa xn xc] rfl rfl (by simpa using HT.out) sizePut (by simp [Value.oneCell']) ?_))
      go_roundw
      case rel =>
        have hput := HRA.out.put k (by rw [HLN.out]; exact hlt) ⟨1 + (k : Int), xa, xn, xc, xb⟩ rfl (putC_one _)
        rw [fill_next (copiesM M) ⟨0, none, 0, 0, []⟩ _ n k HCL.out hlt HX.out] at hput
        exact ⟨k + 1, by omega, by go_num, hput.1, (HB.out.alloc HB.out.size _).grown hput.2 (by have := HB.out.size; simp; omega) (fun q hq => by simp at hq; omega)⟩
      case measure => simp [intOf]; omega
    · obtain rfl : k = n := by omega
      go_wp2
      go_ret
      have hr := HR.out
      rw [Nat.sub_self, List.replicate_zero, List.append_nil, List.take_of_length_le (by rw [HCL.out]; omega)] at hr
      have hpw := HP.out.below HB.out
      refine ⟨fun j => U j ∨ j = w.heap.size, _, _, _, copiesM M, rfl, ⟨came_of_recs hr, ?_, fun p hp => by cases hp; exact .inr rfl, ?_, ?_⟩, copiesM_pt M, HB.out, fun j hj => hj.imp_right fun h => by omega⟩
      · rintro j (hj | rfl)
        · exact hpw.lt j hj
        · exact hr.lt _ rfl
      · intro y hy
        obtain ⟨z, hz, rfl⟩ := List.mem_map.1 hy
        exact hpw.bytes z.1 (List.fst_mem_of_mem_zipIdx hz)
      · intro y hy p hp
        obtain ⟨z, hz, rfl⟩ := List.mem_map.1 hy
        exact .inl (hpw.inB z.1 (List.fst_mem_of_mem_zipIdx hz) p hp)

open Go.RowKit
/-- what was there, and what is new since w -/
def NU (U : Nat → Prop) (w wi : World) (k : Nat) : Prop := U k ∨ (w.heap.size ≤ k ∧ k < wi.heap.size)

section
variable {U : Nat → Prop} {w wi wj : World} {g : Nat}
theorem NU.lt (hU : ∀ k, U k → k < w.heap.size) (hb : Below w.heap.size w wi) : ∀ k, NU U w wi k → k < wi.heap.size := fun k hk => hk.elim (fun h => Nat.lt_of_lt_of_le (hU k h) hb.size) (fun h => h.2)
theorem NU.more (hs : wi.heap.size ≤ wj.heap.size) : ∀ k, NU U w wi k → NU U w wj k := fun k hk => hk.imp_right fun h => ⟨h.1, Nat.lt_of_lt_of_le h.2 hs⟩
theorem step_carry {v : Value} {s : Stp} (h : StepIs wi (NU U w wi) g v s) (hU : ∀ k, U k → k < w.heap.size) (hb : Below w.heap.size w wi) (hj : Below wi.heap.size wi wj) : StepIs wj (NU U w wj) g v s :=
  (h.keep hj.size fun k hk => hj.block k (NU.lt hU hb k hk)).more (NU.more hj.size) (NU.lt hU (hb.trans (hj.mono hb.size)))
theorem puts_carry {a : Option Addr} {n cap : Nat} {M : List PutM} (h : PutsIn wi (NU U w wi) a n cap M) (hU : ∀ k, U k → k < w.heap.size) (hb : Below w.heap.size w wi) (hj : Below wi.heap.size wi wj) : PutsIn wj (NU U w wj) a n cap M :=
  (h.below hj).more (NU.more hj.size) (NU.lt hU (hb.trans (hj.mono hb.size)))
/-- a step that writes, made -/
theorem step_made {a : Option Addr} {n cap bl bd : Nat} {M : List PutM} (h : PutsIn wi (NU U w wi) a n cap M) (hU : ∀ k, U k → k < w.heap.size) (hb : Below w.heap.size w wi)
    (h1 : wj.heap[bl]? = some (.cells #[.slice a n cap] 22 (0, 0))) (h2 : wj.heap[bd]? = some (.cells #[.pointer (some ⟨g, 0, none⟩)] 33 (0, 0))) (hj : Below wi.heap.size wi wj)
    (h3 : wi.heap.size ≤ bl) (h4 : bl < wj.heap.size) (h5 : wi.heap.size ≤ bd) (h6 : bd < wj.heap.size) :
    StepIs wj (NU U w wj) g (.func (.func 75) #[] #[.pointer (some ⟨bl, 0, none⟩), .pointer (some ⟨bd, 0, none⟩)]) (.write (M.map PutM.pt)) :=
  ⟨bl, bd, a, n, cap, M, rfl, .inr ⟨Nat.le_trans hb.size h3, h4⟩, .inr ⟨Nat.le_trans hb.size h5, h6⟩, h1, h2, puts_carry h hU hb hj, rfl⟩
end

/-- one put in a slice of its own -/
theorem puts_one {w : World} {U : Nat → Prop} {B : Nat} {i : Int} {a : Option Addr} {n cap : Nat} {l : List UInt8} (h : w.heap[B]? = some (.cells (putV i a n cap) 69 (0, 0))) (hb : BytesAt w a n cap l) (hU : ∀ k, U k → k < w.heap.size) (hB : U B) (ha : ∀ p, a = some p → U p.block) :
    PutsIn w U (some ⟨B, 0, none⟩) 1 1 [⟨i, a, n, cap, l⟩] := by
  refine ⟨⟨rfl, Nat.le_refl _, by unfold maxLen; omega, fun x hx => rfl, .inr ⟨_, rfl, fun k j x hk hj => ?_⟩⟩, hU, fun p hp => by cases hp; exact hB, fun x hx => ?_, fun x hx p hp => ?_⟩
  · have hk0 : k = 0 := by have := (List.getElem?_eq_some_iff.1 hk).1; simp at this; exact this
    subst hk0
    simp only [List.getElem?_cons_zero, Option.some.injEq] at hk
    subst hk
    rw [Addr.add_mid, Nat.zero_add, Nat.zero_mul, Nat.zero_add, cell_of_row _ _ _ _ _ _ h]
    match j, hj with
    | 0, _ => rfl
    | 1, _ => rfl
  · simp only [List.mem_singleton] at hx; subst hx; exact hb
  · simp only [List.mem_singleton] at hx; subst hx; exact ha p hp

/-- steps side by side in a block -/
theorem steps_mk {w : World} {U : Nat → Prop} {g B : Nat} {vs : List Value} {ts : List Stp} (h : w.heap[B]? = some (.cells vs.toArray 86 (0, 0))) (hU : ∀ k, U k → k < w.heap.size) (hB : U B) (hl : vs.length ≤ 1000) (hts : ts.length = vs.length)
    (hst : ∀ k, k < vs.length → StepIs w U g (vs.getD k undef) (ts.getD k .flush)) : StepsIn w U g (some ⟨B, 0, none⟩) vs.length vs.length ts := by
  refine ⟨hts, hU, vs, ⟨rfl, Nat.le_refl _, by unfold maxLen; omega, fun x hx => rfl, .inr ⟨_, rfl, fun k j x hk hj => ?_⟩⟩, fun p hp => by cases hp; exact hB, hst⟩
  obtain rfl : j = 0 := by omega
  rw [Addr.add_mid, Nat.zero_add, Nat.mul_one, Nat.add_zero, cell_of_row _ _ _ _ _ _ h, ← Array.getElem?_toList, List.toList_toArray, hk]
  rfl

theorem built_put (i : Int) (a : Option Addr) (n cap : Nat) : ∀ w : World, (Instr.buildSlice 22 1 #[(0, .agg (putV i a n cap))]).run Try.prog w = .ok (.slice (some ⟨w.heap.size, 0, none⟩) 1 1) (w.alloc (.cells (putV i a n cap) 69)) := fun w => by
  obtain ⟨i0, hi, hz0, hz1, hz2⟩ := info_parts infoPut
  exact run_buildSlice_one w _ _ _ i0 _ 2 Try.underlying22 hi hz0 hz1 rfl (by omega) (by omega)

theorem infoStep : (Try.prog.info? 86).map (fun i => (i.zero, i.size, i.bytes)) = some (some .nilFunc, 1, 8) := by kernel_rfl
theorem steps_side (vs : List Value) (h : ∀ v ∈ vs, v.cells = #[v]) : ∀ o, SideBy (fun i => some (i * 1, 1)) o (vs.zipIdx o |>.map fun x => (x.2, x.1)) := by
  induction vs with
  | nil => intro o; trivial
  | cons v vs ih =>
    intro o
    have hv : v.cells.size = 1 := by rw [h v (by simp)]; rfl
    refine ⟨show some (o * 1, 1) = some (o, v.cells.size) by rw [hv, Nat.mul_one], ?_⟩
    rw [hv]
    exact ih (fun u hu => h u (by simp [hu])) (o + 1)
theorem steps_flat (vs : List Value) (h : ∀ v ∈ vs, v.cells = #[v]) : ∀ o, ((vs.zipIdx o).map fun x => (x.2, x.1)).flatMap (fun x => x.2.cells.toList) = vs := by
  induction vs with
  | nil => intro o; rfl
  | cons v vs ih =>
    intro o
    have := ih (fun u hu => h u (by simp [hu])) (o + 1)
    simp only [List.zipIdx_cons, List.map_cons, List.flatMap_cons, h v (by simp), this]
    rfl
theorem built_steps (vs : List Value) (h : ∀ v ∈ vs, v.cells = #[v]) (h1 : 1 ≤ vs.length) (h2 : vs.length ≤ 1000) (ps : Array (Nat × Value)) (hps : ps.toList = (vs.zipIdx 0).map fun x => (x.2, x.1)) (n : Nat) (hn : n = vs.length) :
    ∀ w : World, (Instr.buildSlice 96 n ps).run Try.prog w = .ok (.slice (some ⟨w.heap.size, 0, none⟩) n n) (w.alloc (.cells vs.toArray 86)) := fun w => by
  subst hn
  obtain ⟨i0, hi, hz0, hz1, hz2⟩ := info_parts infoStep
  refine run_buildSlice w _ _ _ ps _ i0 _ Try.underlying96 hi hz0 (by rw [hz1]; omega) (by rw [hz1]; omega) ?_
  rw [hz1, hps]
  have := fill_whole (fun i => some (i * 1, 1)) ((Array.range (vs.length * 1)).map fun x => (Value.nilFunc).cells[x % (Value.nilFunc).cells.size]!) ((vs.zipIdx 0).map fun x => (x.2, x.1)) (steps_side vs h 0) (by rw [steps_flat vs h 0]; simp)
  rw [steps_flat vs h 0] at this
  exact this

def flushV (g : Nat) : Value := .func (.func 28) #[.pointer (some ⟨g, 0, none⟩)] #[]
def writeV (bl bd : Nat) : Value := .func (.func 75) #[] #[.pointer (some ⟨bl, 0, none⟩), .pointer (some ⟨bd, 0, none⟩)]
theorem flushV_cells (g : Nat) : (flushV g).cells = #[flushV g] := rfl
theorem writeV_cells (bl bd : Nat) : (writeV bl bd).cells = #[writeV bl bd] := rfl

set_option maxHeartbeats 1000000 in
set_option maxRecDepth 100000 in
theorem format_any (g : Nat) (D : Dk) (S : Nat → Prop) (w : World) (h : DiskAt w S g D) (hf : D.waits.length ≤ 1073741000) :
    Calls Try.prog 24 #[.pointer (some ⟨g, 0, none⟩)] w (DiskTo (.int .i64 (formatOf D).1) S g (formatOf D).2 w) := by
  unfold formatOf
  by_cases hs : 41 < D.secs.length
  · rw [if_pos hs]
    have CH := Lib.hid (home_yes g D S w h hs)
    have HD := Lib.hid h
    clear h hs
    go_enter Try.func24, Try.ntmps24
    go_wp2_with fail
    refine (CH.out).mono ?_
    rintro e w1 ⟨rfl, rfl⟩
    go_wp2_with fail
    refine (empty_any _).mono ?_
    rintro e w2 ⟨b, rfl, hby, hb2, hlo, hhi⟩
    go_wp2_with (refine wpList_buildSliceV rfl 22 1 _ rfl #[(0, .agg (putV 0 (some ⟨b, 0, none⟩) 128 128))] (by simp [go_sem]) _ _ (built_put 0 _ _ _ _) ?_)
    have hbw2 : Below w.heap.size w (w2.alloc (.cells (putV 0 (some ⟨b, 0, none⟩) 128 128) 69)) := hb2.alloc hb2.size _
    have hp := puts_one (U := NU (fun _ => False) w (w2.alloc (.cells (putV 0 (some ⟨b, 0, none⟩) 128 128) 69))) (heap_alloc_new w2 (.cells (putV 0 (some ⟨b, 0, none⟩) 128 128) 69)) (hby.below ((Below.refl _ _).alloc (Nat.le_refl _) _)) (NU.lt (by simp) hbw2) (.inr ⟨hb2.size, by simp⟩) (fun p hp => by cases hp; exact .inr ⟨hlo, by simp; omega⟩)
    have HP := Lib.hid hp
    have HBW := Lib.hid hbw2
    clear hp hbw2 hby hlo hhi hb2
    refine (write_step g _ 1 1 _).mono ?_
    rintro e w4 ⟨bl, bd, rfl, k1, k2, hb4, k3, k4, k5, k6⟩
    have hs1 := step_made HP.out (by simp) HBW.out k1 k2 hb4 k3 k4 k5 k6
    have hb4' : Below w.heap.size w w4 := HBW.out.trans (hb4.mono HBW.out.size)
    have HS1 := Lib.hid hs1
    have HB4 := Lib.hid hb4'
    clear hs1 k1 k2 hb4 k3 k4 k5 k6 hb4' HP HBW
    go_wp2_with (refine wpList_buildSliceV rfl 96 2 _ rfl #[(0, writeV bl bd), (1, flushV g)] (by simp [go_sem, writeV, flushV]) _ _ (built_steps [writeV bl bd, flushV g] (by simp [flushV_cells, writeV_cells]) (by simp) (by simp) _ rfl 2 rfl _) ?_)
    have hb5 : Below w4.heap.size w4 (w4.alloc (.cells #[writeV bl bd, flushV g] 86)) := (Below.refl _ _).alloc (Nat.le_refl _) _
    have hb5' : Below w.heap.size w (w4.alloc (.cells #[writeV bl bd, flushV g] 86)) := HB4.out.alloc HB4.out.size _
    have hs2 := step_carry HS1.out (by simp) HB4.out hb5
    have CR := Lib.hid (run_any g D S (NU (fun _ => False) w (w4.alloc (.cells #[writeV bl bd, flushV g] 86))) (some ⟨w4.heap.size, 0, none⟩) 2 2 formatR _ (HD.out.below hb5')
      (fun k hk hS => hk.elim id fun h => by have := HD.out.lt k hS; omega)
      (steps_mk (vs := [writeV bl bd, flushV g]) (heap_alloc_new w4 _) (NU.lt (by simp) hb5') (.inr ⟨HB4.out.size, by simp⟩) (by simp) rfl (fun k hk => by
        match k, hk with
        | 0, _ => exact hs2
        | 1, _ => exact rfl)) (by omega) (by rw [formatR_costs]; omega))
    have HB5 := Lib.hid hb5'
    clear hb5 hb5' hs2
    refine (CR.out).mono ?_
    rintro e w6 ⟨rfl, S6, hd6, ho6, hs6⟩
    go_wp2
    go_ret
    exact ⟨rfl, S6, hd6, (Only.of_below HB5.out).trans ho6 (fun _ _ h => h), fun k hk => (hs6 k hk).imp_right fun h => Nat.le_trans HB5.out.size h⟩
  · rw [if_neg hs]
    have CH := Lib.hid (home_no g D S w h hs)
    have HD := Lib.hid h
    clear h hs
    go_enter Try.func24, Try.ntmps24
    go_wp2_with fail
    refine (CH.out).mono ?_
    rintro e w1 ⟨rfl, rfl⟩
    go_wp2
    go_ret
    exact diskTo_same _ HD.out

set_option maxHeartbeats 4000000 in
set_option maxRecDepth 100000 in
theorem commit_any (g : Nat) (D : Dk) (S U : Nat → Prop) (a : Option Addr) (n cap : Nat) (M : List PutM) (w : World) (h : DiskAt w S g D) (hU : ∀ k, U k → ¬ S k) (hp : PutsIn w U a n cap M) (hf : D.waits.length ≤ 1073741000) :
    Calls Try.prog 15 #[.pointer (some ⟨g, 0, none⟩), .slice a n cap] w (DiskTo (.int .i64 (commitOf D (M.map PutM.pt)).1) S g (commitOf D (M.map PutM.pt)).2 w) := by
  have CS := Lib.hid (size_any g D S w h)
  have CV := Lib.hid (valid_any U a n cap M D.secs.length w hp)
  unfold commitOf
  cases hm : mayB (M.map PutM.pt) D.secs.length with
  | false =>
    rw [hm] at CV
    have HD := Lib.hid h
    clear hm h hp hU
    go_enter Try.func15, Try.ntmps15
    go_wp2_with fail
    refine (CS.out).mono ?_
    rintro e w1 ⟨rfl, rfl⟩
    go_wp2_with fail
    refine (CV.out).mono ?_
    rintro e w1 ⟨rfl, hb1⟩
    go_wp2
    go_ret
    exact ⟨rfl, S, HD.out.below hb1, Only.of_below hb1, fun k hk => .inl hk⟩
  | true =>
    obtain ⟨hfew, hat⟩ := may_at hm (by have := h.ok.many; omega)
    have hn := hp.mlen
    have hUlt := hp.lt
    have HAT := Lib.hid hat
    have HD := Lib.hid h
    have HU := Lib.hid hU
    have HP := Lib.hid hp
    have HUL := Lib.hid hUlt
    have HN := Lib.hid (show n ≤ 40 by omega)
    have HHL := Lib.hid (hdL_length (M.map PutM.pt) (by rw [List.length_map]; exact hfew))
    have HCO := Lib.hid (commitR_costs (M.map PutM.pt) (by rw [List.length_map]; exact hfew))
    rw [hm] at CV
    simp only [if_true]
    clear hm hat h hU hp hUlt hfew hn
    go_enter Try.func15, Try.ntmps15
    go_wp2_with fail
    refine (CS.out).mono ?_
    rintro e w1 ⟨rfl, rfl⟩
    go_wp2_with fail
    refine (CV.out).mono ?_
    rintro e w1 ⟨rfl, hb1⟩
    have B1 := Lib.hid hb1
    clear hb1 CS CV
    -- the copies
    go_wp2_with fail
    refine (copies_any U a n cap M w1 (HP.out.below B1.out) HN.out).mono ?_
    rintro e w2 ⟨U2, a2, n2, c2, M2, rfl, hp2, hm2, hb2, hU2⟩
    have B2 := Lib.hid (B1.out.trans (hb2.mono B1.out.size))
    have P2 := Lib.hid (show PutsIn w2 (NU U w w2) a2 n2 c2 M2 from hp2.more (fun k hk => (hU2 k hk).imp_right fun h => ⟨Nat.le_trans B1.out.size h, hp2.lt k hk⟩) (NU.lt HUL.out B2.out))
    clear hp2 hb2 hU2
    go_wp2_with fail
    refine (write_step g a2 n2 c2 w2).mono ?_
    rintro e w3 ⟨bl1, bd1, rfl, k1, k2, hb3, k3, k4, k5, k6⟩
    have S3 := Lib.hid (step_made P2.out HUL.out B2.out k1 k2 hb3 k3 k4 k5 k6)
    rw [hm2] at S3
    have B3 := Lib.hid (B2.out.trans (hb3.mono B2.out.size))
    clear k1 k2 hb3 k3 k4 k5 k6 hm2 P2
    -- the head
    go_wp2_with fail
    refine (headof_any U a n cap M w3 (HP.out.below B3.out) HN.out HAT.out).mono ?_
    rintro e w4 ⟨a4, c4, rfl, ho4, hb4⟩
    have B4 := Lib.hid (B3.out.trans (hb4.mono B3.out.size))
    have S4 := Lib.hid (step_carry S3.out HUL.out B3.out hb4)
    have Y4 := Lib.hid (BytesAt.owned ho4)
    have A4 := Lib.hid (show ∀ p, a4 = some p → w.heap.size ≤ p.block ∧ p.block < w4.heap.size from fun p hp => by
      subst hp
      have h1 := ho4.lt p.block rfl
      exact ⟨Nat.le_trans B3.out.size h1.1, h1.2⟩)
    clear ho4 hb4 S3
    dsimp only [id]
    go_wp2_with fail
    refine (head_any a4 128 c4 w4).mono ?_
    rintro e w5 ⟨rfl, hb5⟩
    have B5 := Lib.hid (B4.out.trans (hb5.mono B4.out.size))
    have S5 := Lib.hid (step_carry S4.out HUL.out B4.out hb5)
    have Y5 := Lib.hid (Y4.out.below hb5)
    have A5 := Lib.hid (show ∀ p, a4 = some p → w.heap.size ≤ p.block ∧ p.block < w5.heap.size from fun p hp => ⟨(A4.out p hp).1, Nat.lt_of_lt_of_le (A4.out p hp).2 hb5.size⟩)
    clear hb5 S4 Y4 A4
    go_wp2_with (refine wpList_buildSliceV rfl 22 1 _ rfl #[(0, .agg (putV 0 a4 128 c4))] (by simp [go_sem]) _ _ (built_put 0 _ _ _ _) ?_)
    have hb6 : Below w5.heap.size w5 (w5.alloc (.cells (putV 0 a4 128 c4) 69)) := (Below.refl _ _).alloc (Nat.le_refl _) _
    have hbw6 : Below w.heap.size w (w5.alloc (.cells (putV 0 a4 128 c4) 69)) := B5.out.alloc B5.out.size _
    have hp6 := puts_one (U := NU U w (w5.alloc (.cells (putV 0 a4 128 c4) 69))) (heap_alloc_new w5 (.cells (putV 0 a4 128 c4) 69)) (Y5.out.below hb6) (NU.lt HUL.out hbw6) (.inr ⟨B5.out.size, by simp⟩) (fun p hp => .inr ⟨(A5.out p hp).1, by have := (A5.out p hp).2; simp; omega⟩)
    have P6 := Lib.hid hp6
    have S6 := Lib.hid (step_carry S5.out HUL.out B5.out hb6)
    have B6 := Lib.hid hbw6
    clear hb6 hbw6 hp6 S5 Y5 A5
    generalize w5.alloc (.cells (putV 0 a4 128 c4) 69) = w6 at *
    refine (write_step g _ 1 1 w6).mono ?_
    rintro e w7 ⟨bl2, bd2, rfl, k1, k2, hb7, k3, k4, k5, k6⟩
    have T7 := Lib.hid (step_made P6.out HUL.out B6.out k1 k2 hb7 k3 k4 k5 k6)
    have S7 := Lib.hid (step_carry S6.out HUL.out B6.out hb7)
    have B7 := Lib.hid (B6.out.trans (hb7.mono B6.out.size))
    clear k1 k2 hb7 k3 k4 k5 k6 S6 P6
    -- home
    go_wp2_with fail
    refine (write_step g a n cap w7).mono ?_
    rintro e w8 ⟨bl3, bd3, rfl, k1, k2, hb8, k3, k4, k5, k6⟩
    have R8 := Lib.hid (step_made ((HP.out.below B7.out).more (fun k hk => .inl hk) (NU.lt HUL.out B7.out)) HUL.out B7.out k1 k2 hb8 k3 k4 k5 k6)
    have T8 := Lib.hid (step_carry T7.out HUL.out B7.out hb8)
    have S8 := Lib.hid (step_carry S7.out HUL.out B7.out hb8)
    have B8 := Lib.hid (B7.out.trans (hb8.mono B7.out.size))
    clear k1 k2 hb8 k3 k4 k5 k6 S7 T7
    -- the empty head
    go_wp2_with fail
    refine (empty_any w8).mono ?_
    rintro e w9 ⟨b9, rfl, hy9, hb9, hlo, hhi⟩
    have B9 := Lib.hid (B8.out.trans (hb9.mono B8.out.size))
    have Y9 := Lib.hid hy9
    have A9 := Lib.hid (show w.heap.size ≤ b9 ∧ b9 < w9.heap.size from ⟨Nat.le_trans B8.out.size hlo, hhi⟩)
    have R9 := Lib.hid (step_carry R8.out HUL.out B8.out hb9)
    have T9 := Lib.hid (step_carry T8.out HUL.out B8.out hb9)
    have S9 := Lib.hid (step_carry S8.out HUL.out B8.out hb9)
    clear hy9 hb9 hlo hhi R8 T8 S8
    go_wp2_with (refine wpList_buildSliceV rfl 22 1 _ rfl #[(0, .agg (putV 0 (some ⟨b9, 0, none⟩) 128 128))] (by simp [go_sem]) _ _ (built_put 0 _ _ _ _) ?_)
    have hb10 : Below w9.heap.size w9 (w9.alloc (.cells (putV 0 (some ⟨b9, 0, none⟩) 128 128) 69)) := (Below.refl _ _).alloc (Nat.le_refl _) _
    have hbw10 : Below w.heap.size w (w9.alloc (.cells (putV 0 (some ⟨b9, 0, none⟩) 128 128) 69)) := B9.out.alloc B9.out.size _
    have hp10 := puts_one (U := NU U w (w9.alloc (.cells (putV 0 (some ⟨b9, 0, none⟩) 128 128) 69))) (heap_alloc_new w9 (.cells (putV 0 (some ⟨b9, 0, none⟩) 128 128) 69)) (Y9.out.below hb10) (NU.lt HUL.out hbw10) (.inr ⟨B9.out.size, by simp⟩) (fun p hp => by cases hp; exact .inr ⟨A9.out.1, by have := A9.out.2; simp; omega⟩)
    have P10 := Lib.hid hp10
    have R10 := Lib.hid (step_carry R9.out HUL.out B9.out hb10)
    have T10 := Lib.hid (step_carry T9.out HUL.out B9.out hb10)
    have S10 := Lib.hid (step_carry S9.out HUL.out B9.out hb10)
    have B10 := Lib.hid hbw10
    clear hb10 hbw10 hp10 R9 T9 S9 Y9 A9
    generalize w9.alloc (.cells (putV 0 (some ⟨b9, 0, none⟩) 128 128) 69) = w10 at *
    refine (write_step g _ 1 1 w10).mono ?_
    rintro e w11 ⟨bl4, bd4, rfl, k1, k2, hb11, k3, k4, k5, k6⟩
    have V11 := Lib.hid (step_made P10.out HUL.out B10.out k1 k2 hb11 k3 k4 k5 k6)
    have R11 := Lib.hid (step_carry R10.out HUL.out B10.out hb11)
    have T11 := Lib.hid (step_carry T10.out HUL.out B10.out hb11)
    have S11 := Lib.hid (step_carry S10.out HUL.out B10.out hb11)
    have B11 := Lib.hid (B10.out.trans (hb11.mono B10.out.size))
    clear k1 k2 hb11 k3 k4 k5 k6 R10 T10 S10 P10
    -- the list
    go_wp2_with (refine wpList_buildSliceV rfl 96 8 _ rfl #[(0, writeV bl1 bd1), (1, flushV g), (2, writeV bl2 bd2), (3, flushV g), (4, writeV bl3 bd3), (5, flushV g), (6, writeV bl4 bd4), (7, flushV g)] (by simp [go_sem, writeV, flushV]) _ _ (built_steps [writeV bl1 bd1, flushV g, writeV bl2 bd2, flushV g, writeV bl3 bd3, flushV g, writeV bl4 bd4, flushV g] (by simp [flushV_cells, writeV_cells]) (by simp) (by simp) _ rfl 8 rfl _) ?_)
    have hb12 : Below w11.heap.size w11 (w11.alloc (.cells #[writeV bl1 bd1, flushV g, writeV bl2 bd2, flushV g, writeV bl3 bd3, flushV g, writeV bl4 bd4, flushV g] 86)) := (Below.refl _ _).alloc (Nat.le_refl _) _
    have hbw12 : Below w.heap.size w (w11.alloc (.cells #[writeV bl1 bd1, flushV g, writeV bl2 bd2, flushV g, writeV bl3 bd3, flushV g, writeV bl4 bd4, flushV g] 86)) := B11.out.alloc B11.out.size _
    have hV := step_carry V11.out HUL.out B11.out hb12
    have hR := step_carry R11.out HUL.out B11.out hb12
    have hT := step_carry T11.out HUL.out B11.out hb12
    have hS := step_carry S11.out HUL.out B11.out hb12
    have CR := Lib.hid (run_any g D S (NU U w (w11.alloc (.cells #[writeV bl1 bd1, flushV g, writeV bl2 bd2, flushV g, writeV bl3 bd3, flushV g, writeV bl4 bd4, flushV g] 86))) (some ⟨w11.heap.size, 0, none⟩) 8 8 (commitR (M.map PutM.pt)) _ (HD.out.below hbw12)
      (fun k hk hS => hk.elim (fun h => HU.out k h hS) fun h => by have := HD.out.lt k hS; omega)
      (steps_mk (vs := [writeV bl1 bd1, flushV g, writeV bl2 bd2, flushV g, writeV bl3 bd3, flushV g, writeV bl4 bd4, flushV g]) (heap_alloc_new w11 _) (NU.lt HUL.out hbw12) (.inr ⟨B11.out.size, by simp⟩) (by simp) rfl (fun k hk => by
        match k, hk with
        | 0, _ => exact hS
        | 1, _ => exact rfl
        | 2, _ => exact hT
        | 3, _ => exact rfl
        | 4, _ => exact hR
        | 5, _ => exact rfl
        | 6, _ => exact hV
        | 7, _ => exact rfl)) (by omega) (by have := HCO.out; omega))
    have B12 := Lib.hid hbw12
    clear hb12 hbw12 hV hR hT hS
    refine (CR.out).mono ?_
    rintro e w13 ⟨rfl, S13, hd13, ho13, hs13⟩
    go_wp2
    go_ret
    exact ⟨rfl, S13, hd13, (Only.of_below B12.out).trans ho13 (fun _ _ h => h), fun k hk => (hs13 k hk).imp_right fun h => Nat.le_trans B12.out.size h⟩

end Go.Proofs.Ytinfgfgmijjhjaa
