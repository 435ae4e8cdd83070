/-
  Package limit: merge.
-/
import Derived.Test.YtklfoafbgniogaaLkB
import Derived.Deep.DeepCutAuto
import Derived.Deep.CutBlock
namespace Go.Proofs.Ytklfoafbgniogaa
open Go.RowKit Go.Deep
set_option linter.unusedVariables false
set_option linter.unusedSimpArgs false
set_option maxRecDepth 100000

/-- a coin in memory: its symbol, its count -/
def cnC (x : Itm) : List Value := [.int .i64 (idxI x : Int), .int .i64 (x.w : Int)]
theorem cnC_one (x : Itm) : ∀ u ∈ cnC x, u.oneCell' = true := by
  intro u hu; simp only [cnC, List.mem_cons, List.not_mem_nil, or_false] at hu; rcases hu with rfl | rfl <;> rfl
theorem infoCn : (Try.prog.info? 40).map (fun i => (i.zero, i.size, i.bytes)) = some (some (.agg #[.int .i64 0, .int .i64 0]), 2, 16) := by kernel_rfl
theorem sizeCn : (Try.prog.info? 40).map (·.size) = some 2 := by kernel_rfl
abbrev CnI := OwnI cnC 40 2
abbrev FreshCn := FreshI8 cnC 40 2
abbrev CnAt := CameAt cnC 2
theorem CnAt.cells {w : World} {a : Option Addr} {n cap : Nat} {L : List Itm} (h : CnAt w a n cap L) (hn : 0 < n) :
    ∃ b off, a = some ⟨b, off, none⟩ ∧ b < w.heap.size ∧ ∀ i, i < n → w.rangeAt b (off + i * 2) (cnC (L.getD i default)) := by
  obtain ⟨b, off, h1, h2, h3⟩ := CameAt.at h hn (by omega)
  refine ⟨b, off, h1, h2, fun i hi => ?_⟩
  have hx : L[i]? = some (L.getD i default) := by rw [List.getD, List.getElem?_eq_getElem (by have := h.1; omega)]; rfl
  intro j u hu
  have hj : j < 2 := (List.getElem?_eq_some_iff.1 hu).1
  rw [Nat.add_assoc, h3 i j _ hx hj, hu]

/-- records laid behind a row of the call's own, whatever slice they come from -/
theorem wpList_append_came {α : Type} {f : α → List Value} {P : Program} {w : World} {ops : Array Oper} {rest : List Oper} {o : Oper} {a : Act} {Q : Exit → Act → World → Prop} (hgd : o.guard = none) (s x : Operand) (t : TypeId)
    (ho : o.op = .call { callee := .builtin .append, args := #[s, x], argTypes := #[t, t] })
    (e : TypeId) (i : TypeInfo) (z : Value) (size bytes : Nat) (ht : P.underlying t = some (.slice e)) (hi : P.info? e = some i) (hz : i.zero = some z)
    (hsize : i.size = size) (hby : i.bytes = bytes) (hzs : z.cells.size = size) (hsz : 0 < size)
    (v : Value) (L : List α) (hs : a.eval s = v) (hown : Recs f w e size v L)
    (sa : Option Addr) (m c : Nat) (M : List α) (hx : a.eval x = .slice sa m c) (hsrc : CameAt f size w sa m c M) (hM1 : ∀ y ∈ M, ∀ u ∈ f y, u.oneCell' = true)
    (h63 : L.length + m ≤ maxLen) (hbytes : (L.length + m) * bytes ≤ 140737488355328)
    (h : ∀ v' w', Recs f w' e size v' (L ++ M) → w.grownBy w' v.ownBlock → (v'.ownBlock = v.ownBlock ∨ v'.ownBlock = some w.heap.size) → wpList P ops Q rest (a.put o.dst v') w') : wpList P ops Q (o :: rest) a w := by
  have hsrc' := hsrc
  obtain ⟨h1, h2, h3, h4, h5⟩ := hsrc
  rcases h5 with ⟨rfl, rfl, rfl⟩ | ⟨ad, rfl, hc⟩
  · have : M = [] := List.eq_nil_of_length_eq_zero h1
    subst this
    have hrun := run_append_owned_none (P := P) (w := w) 0 t o.type e i size ht hi v L.length (L.flatMap f) hown.2.2
    refine wpList_plain hgd fun K hK => ?_
    unfold Oper.wp execOp
    simp only [ho, resolve, invoke, builtin, Sem.run_bind, Sem.run_pure, Result.andThen_ok, List.map_toArray, List.map_cons, List.map_nil, hs, hx, hrun]
    exact hK _ _ (h v w (by rw [List.append_nil]; exact hown) (World.grownBy.refl _ _) (.inl rfl))
  · exact wpList_append_recs hgd s x t ho e i z size bytes ht hi hz hsize hby hzs hsz v L hs hown ad m c M hx h1 h4 hM1 (CameAt.read hsrc' hsz) h63 hbytes h

/-- behind the first -/
theorem elm_tail (ob off n cap : Nat) (hk : 1 ≤ n) (hc : n ≤ cap) : ∃ off2 : Nat,
    (∀ u, (Instr.slice 55 (.slice (some ⟨ob, off, none⟩) n cap) (some (.int .i64 1)) none none).run Try.prog u = .ok (.slice (some ⟨ob, off2, none⟩) (n - 1) (cap - 1)) u) ∧
    ∀ v Z, ElmAt v (some ⟨ob, off, none⟩) n cap Z → ElmAt v (some ⟨ob, off2, none⟩) (n - 1) (cap - 1) (Z.drop 1) := by
  obtain ⟨i0, hi, hz0, hz1, hz2⟩ := info_parts infoElm
  have he : Try.prog.elem 55 = 68 := by kernel_rfl
  have hrun : ∀ u, (Instr.slice 55 (.slice (some ⟨ob, off, none⟩) n cap) (some (.int .i64 (1 : Nat))) none none).run Try.prog u = .ok (sliced (some ⟨ob, off, none⟩) 1 n cap 2) u := fun u => by
    rw [run_slice_l (t := 55) (ht := by rw [he]; exact Try.underlying55) (h0 := by omega) (h1 := by omega), he]
    simp [sizeOf, typeInfo, hi, hz1, Result.andThen]
  by_cases hck : cap = 1
  · refine ⟨off, fun u => by rw [show (1 : Int) = ((1 : Nat) : Int) from rfl, hrun u]; simp [sliced, hck], fun v Z h => ?_⟩
    obtain ⟨h1, h2, h3, h4, h5⟩ := h
    refine ⟨by rw [List.length_drop]; omega, by omega, by omega, fun x hx => h4 x (List.mem_of_mem_drop hx), .inr ⟨_, rfl, fun i j x hi hj => ?_⟩⟩
    have := (List.getElem?_eq_some_iff.1 hi).1
    rw [List.length_drop] at this; omega
  · refine ⟨off + 2, fun u => by rw [show (1 : Int) = ((1 : Nat) : Int) from rfl, hrun u]; simp [sliced, hck, Addr.add_mid], fun v Z h => ?_⟩
    obtain ⟨h1, h2, h3, h4, h5⟩ := h
    refine ⟨by rw [List.length_drop]; omega, by omega, by omega, fun x hx => h4 x (List.mem_of_mem_drop hx), .inr ⟨_, rfl, fun i j x hi hj => ?_⟩⟩
    rcases h5 with ⟨h5, _⟩ | ⟨q, hq, hc2⟩
    · cases h5
    · injection hq with hq
      subst hq
      rw [List.getElem?_drop] at hi
      have := hc2 (1 + i) j x hi hj
      rw [Addr.add_mid] at this
      rw [Addr.add_mid, ← this]
      congr 2
      rw [Nat.add_mul]; omega
theorem mrgI_pack (x : Itm) (C : List Itm) (p : Itm) (P : List Itm) (h : p.w < x.w) : mrgI (x :: C) (p :: P) = p :: mrgI (x :: C) P := by rw [mrgI_cons, if_neg (by omega)]
theorem mrgI_coin (x : Itm) (C : List Itm) (p : Itm) (P : List Itm) (h : ¬ p.w < x.w) : mrgI (x :: C) (p :: P) = x :: mrgI C (p :: P) := by rw [mrgI_cons, if_pos (by omega)]
theorem mrgI_coin0 (x : Itm) (C : List Itm) : mrgI (x :: C) [] = x :: mrgI C [] := by rw [mrgI_nil_right, mrgI_nil_right]
theorem mrgI_len : ∀ (C P : List Itm), (mrgI C P).length = C.length + P.length
  | [], P => by rw [mrgI_nil_left]; simp
  | x :: C, [] => by rw [mrgI_nil_right]; simp
  | x :: C, p :: P => by
    rw [mrgI_cons]
    split
    · rw [List.length_cons, mrgI_len C (p :: P)]; simp; omega
    · rw [List.length_cons, mrgI_len (x :: C) P]; simp; omega
termination_by C P => C.length + P.length
/-- is a package next? -/
def NextP (x : Itm) (C2 PP : List Itm) (bb : Bool) : Prop := (bb = true → 0 < PP.length ∧ (PP.getD 0 default).w < x.w) ∧ (bb = false → mrgI (x :: C2) PP = x :: mrgI C2 PP)
theorem next_drop {PP : List Itm} (h : 0 < PP.length) : PP = PP.getD 0 default :: PP.drop 1 := by
  cases PP with
  | nil => simp at h
  | cons p P => rfl
theorem next_yes {x : Itm} {C2 PP O R : List Itm} (h : NextP x C2 PP true) (hm : O ++ mrgI (x :: C2) PP = R) : (O ++ [PP.getD 0 default]) ++ mrgI (x :: C2) (PP.drop 1) = R := by
  obtain ⟨h1, h2⟩ := h.1 rfl
  rw [← hm]
  conv => rhs; rw [next_drop h1, mrgI_pack _ _ _ _ h2]
  simp
theorem next_no {x : Itm} {C2 PP O R : List Itm} (h : NextP x C2 PP false) (hm : O ++ mrgI (x :: C2) PP = R) : (O ++ [x]) ++ mrgI C2 PP = R := by
  rw [← hm, h.2 rfl]; simp
set_option maxHeartbeats 8000000 in
theorem lkMerge_any (ca : Option Addr) (cn cc : Nat) (C : List Itm) (pa : Option Addr) (pn pc : Nat) (P : List Itm) (w : World) (hC : CnAt w ca cn cc C) (hP : ElmAt w pa pn pc P) (hn : cn ≤ 1000000) (hp : pn ≤ 1000000) (h1 : ∀ x ∈ C, pkdI x = false) :
    Calls Try.prog 25 #[.slice ca cn cc, .slice pa pn pc] w (FreshE (mrgI C P) w) := by
  obtain ⟨i0, hi0, hz0, hz1, hz2⟩ := info_parts infoElm
  have hl : C.length = cn := hC.1
  have hlp : P.length = pn := hP.1
  have HC := Lib.hid hC
  have HP := Lib.hid hP
  have HCX := Lib.hid (fun i (hi : i < cn) => show C.drop i = C.getD i default :: C.drop (i + 1) ∧ pkdI (C.getD i default) = false from by
    have hil : i < C.length := by rw [hl]; exact hi
    refine ⟨by rw [List.drop_eq_getElem_cons hil, List.getD, List.getElem?_eq_getElem hil]; rfl, h1 _ ?_⟩
    rw [List.getD, List.getElem?_eq_getElem hil]; exact List.getElem_mem _)
  have HCE := Lib.hid (show C.drop cn = [] from List.drop_of_length_le (by rw [hl]; exact Nat.le_refl _))
  obtain ⟨R, hR⟩ : ∃ R, R = mrgI C P := ⟨_, rfl⟩
  have HRL := Lib.hid (show R.length = cn + pn by rw [hR, mrgI_len, hl, hlp])
  have HST := Lib.hid (show [] ++ mrgI (C.drop 0) P = R by rw [hR]; rfl)
  rw [← hR]
  clear hC hP h1 hl hlp hR
  go_enter Try.func25, Try.ntmps25
  go_wp2
  go_loopw [1, 5, 10] (fun sp so si wr => ∃ (i : Nat) (qa : Option Addr) (qn qc : Nat) (oa : Option Addr) (on oc : Nat) (PP O : List Itm), i ≤ cn ∧ si = .int .i64 (i : Int) ∧ sp = .slice qa qn qc ∧ so = .slice oa on oc ∧ ElmAt w qa qn qc PP ∧ ElmI w wr oa on oc O ∧ O ++ mrgI (C.drop i) PP = R) (fun _ _ si _ => cn - (intOf si).toNat)
  case atStart => exact ⟨0, pa, pn, pc, none, 0, 0, P, [], Nat.zero_le _, rfl, rfl, rfl, HP.out, OwnI.nil w, HST.out⟩
  case round =>
    obtain ⟨i, qa, qn, qc, oa, on, oc, PP, O, hi, rfl, rfl, rfl, hq, ho, hm⟩ := hrel
    rename World => wr
    have HQ := Lib.hid hq
    have HO := Lib.hid ho
    have HM := Lib.hid hm
    have HB := Lib.hid ho.2.2.2
    clear hq ho hm HST
    by_cases hlt : i < cn
    · have hii : (i : Int) < cn := by omega
      obtain ⟨tb, toff, rfl, _, hc⟩ := CnAt.cells (CameAt.below HC.out (by omega) HB.out) (by omega)
      have hrange := hc i hlt
      obtain ⟨hd, hpk⟩ := HCX.out i hlt
      clear hc
      generalize C.getD i default = x at *
      obtain ⟨C2, hC2⟩ : ∃ C2, C2 = C.drop (i + 1) := ⟨_, rfl⟩
      rw [← hC2] at hd
      have HC2 := Lib.hid hC2
      clear hC2
      have HD := Lib.hid hd
      have HPK := Lib.hid hpk
      have HRA := Lib.hid hrange
      clear hd hpk hrange HCX
      have hst := run_storeCells_new (P := Try.prog) wr 40 #[.int .i64 0, .int .i64 0] (cnC x).toArray sizeCn rfl (all_oneCell_toArray (cnC_one x))
      rw [List.toList_toArray] at hst
      obtain ⟨w2, hw2⟩ : ∃ u, u = wr.alloc (.cells (cnC x).toArray 40) := ⟨_, rfl⟩
      rw [← hw2] at hst
      have HB2 := Lib.hid (show Below wr.heap.size wr w2 by rw [hw2]; exact (Below.refl _ _).alloc (Nat.le_refl _) _)
      have hrow : w2.heap[wr.heap.size]? = some (.cells (cnC x).toArray 40 (0, 0)) := by rw [hw2]; exact heap_alloc_new wr _
      have HROW := Lib.hid hrow
      clear hw2 hrow
      go_upto_region 5 with (refine wpList_load_mid rfl 40 _ rfl tb (toff + i * 2) rfl (cnC x) _ HRA.out Try.underlying40 rfl sizeCn ?_)
      clear hst
      obtain ⟨q, hq⟩ : ∃ q, q = wr.heap.size := ⟨_, rfl⟩
      rw [← hq] at HROW ⊢
      have HI2 := Lib.hid (HO.out.below HB2.out)
      have HMX := Lib.hid (show O ++ mrgI (x :: C2) PP = R by rw [← HD.out]; exact HM.out)
      clear hq HD HM HB2 HO
      go_loopw [1, 5] (fun sp so wx => ∃ (qa : Option Addr) (qn qc : Nat) (oa : Option Addr) (on oc : Nat) (PP O : List Itm), sp = .slice qa qn qc ∧ so = .slice oa on oc ∧ ElmAt w qa qn qc PP ∧ ElmI w wx oa on oc O ∧ O ++ mrgI (x :: C2) PP = R ∧ wx.heap[q]? = some (.cells (cnC x).toArray 40 (0, 0))) (fun sp _ _ => slLen sp)
      case atStart => exact ⟨_, _, _, _, _, _, PP, O, rfl, rfl, HQ.out, HI2.out, HMX.out, HROW.out⟩
      case round =>
        clear HROW HI2 HMX HQ PP O HB
        obtain ⟨qa, qn, qc, oa, on, oc, PP, O, rfl, rfl, hq, ho, hm, hrow⟩ := hrel
        rename World => wx
        have HQ := Lib.hid hq
        have HO := Lib.hid ho
        have HM := Lib.hid hm
        have HB := Lib.hid ho.2.2.2
        have HROW := Lib.hid hrow
        have y1 := cell_of_row _ q 1 _ _ _ hrow
        change World.cell? _ ⟨q, 1, none⟩ = some (.int .i64 (x.w : Int)) at y1
        have HOL := Lib.hid (show on + qn ≤ 2000000 by
          have h1 := congrArg List.length hm
          rw [List.length_append, HRL.out, mrgI_len, HQ.out.1, ho.2.1] at h1; omega)
        have hlen : PP.length = qn := hq.1
        clear hq ho hm hrow
        go_upto_region 5 with (fail)
        go_cut [25] (fun s25 wy => Below wx.heap.size wx wy ∧ ∃ bb, s25 = .bool bb ∧ NextP x C2 PP bb)
        case first =>
          by_cases hq0 : qn = 0
          · subst hq0
            have hq0i : ¬ (0 : Int) < ((0 : Nat) : Int) := by omega
            have HN := Lib.hid (show NextP x C2 PP false from ⟨fun h => by simp at h, fun _ => by rw [List.eq_nil_of_length_eq_zero hlen]; exact mrgI_coin0 x C2⟩)
            clear hlen y1
            go_wp2
            go_quiet (fail)
            go_wp2
            go_meet
            exact ⟨below_drewN (Below.refl _ _) nq, false, rfl, HN.out⟩
          · have hq0p : 0 < qn := by omega
            have hqi : (0 : Int) < (qn : Int) := by omega
            have hqd : decide (0 < qn) = true := decide_eq_true hq0p
            obtain ⟨pb, poff, rfl, _, hpc⟩ := ElmAt.cells (CameAt.below HQ.out (by omega) HB.out) hq0p
            have x1 := hpc 0 hq0p 0 _ rfl
            simp only [Nat.zero_mul, Nat.add_zero] at x1
            have HNN := Lib.hid (show ∀ bb, (bb = decide ((PP.getD 0 default).w < x.w)) → NextP x C2 PP bb from fun bb hb => by
              constructor
              · intro h; rw [h] at hb; exact ⟨by omega, of_decide_eq_true hb.symm⟩
              · intro h; rw [h] at hb
                have := of_decide_eq_false hb.symm
                conv => lhs; rw [next_drop (show 0 < PP.length by omega)]
                rw [mrgI_coin _ _ _ _ this, ← next_drop (show 0 < PP.length by omega)])
            generalize (PP.getD 0 default).w = pw at *
            clear hpc hlen
            by_cases hlt2 : pw < x.w
            · have hli : (pw : Int) < (x.w : Int) := by omega
              have HK9 := Lib.hid (HNN.out true (decide_eq_true hlt2).symm)
              have hld : decide (pw < x.w) = true := decide_eq_true hlt2
              clear HNN hlt2
              go_wp2
              go_quiet (fail)
              go_wp2
              go_meet
              exact ⟨below_drewN (Below.refl _ _) nq, true, rfl, HK9.out⟩
            · have hli : ¬ (pw : Int) < (x.w : Int) := by omega
              have hld : decide (pw < x.w) = false := decide_eq_false hlt2
              have HK9 := Lib.hid (HNN.out false (decide_eq_false hlt2).symm)
              clear HNN hlt2
              go_wp2
              go_quiet (fail)
              go_wp2
              go_meet
              exact ⟨below_drewN (Below.refl _ _) nq, false, rfl, HK9.out⟩
        case rest =>
        obtain ⟨hwy, bb, rfl, hnx⟩ := hcut
        rename World => wy
        have HOY := Lib.hid (HO.out.below hwy)
        have HBY := Lib.hid HOY.out.2.2.2
        have hql : q < wx.heap.size := (Array.getElem?_eq_some_iff.1 HROW.out).1
        have hrowy := (hwy.block q hql).trans HROW.out
        have HRY := Lib.hid hrowy
        have HON := Lib.hid HO.out.2.1
        have hqy : q < wy.heap.size := by have := hwy.size; omega
        have hnb := HO.out.1.ne_of HROW.out (by decide)
        have HNB := Lib.hid hnb
        have HQY := Lib.hid hqy
        clear hwy hql hrowy HROW HO HB y1 hqy hnb
        cases bb with
        | true =>
          have HNX := Lib.hid hnx
          have hpos := (hnx.1 rfl).1
          rw [hlen] at hpos
          have hqi : (0 : Int) < (qn : Int) := by omega
          have hq1 : (1 : Int) ≤ (qn : Int) := by omega
          obtain ⟨pb, poff, rfl, _, hpc⟩ := ElmAt.cells (CameAt.below HQ.out (by omega) HBY.out) hpos
          have hr0 := hpc 0 hpos
          rw [Nat.zero_mul, Nat.add_zero] at hr0
          obtain ⟨off2, hsl, hsl2⟩ := elm_tail pb poff qn qc (by omega) HQ.out.2.1
          have HQ2 := Lib.hid (hsl2 w PP HQ.out)
          have HMN := Lib.hid (next_yes hnx HM.out)
          have HR0 := Lib.hid hr0
          generalize hy : PP.getD 0 default = y at *
          have HONE := Lib.hid (one_rec (f := elmC) (x := y) (w := wy.alloc (.cells (elmC y).toArray 68)) (B := wy.heap.size) (t := 68) (fr := (0, 0)) (heap_alloc_new wy _))
          have HBA := Lib.hid ((Below.refl wy.heap.size wy).alloc (Nat.le_refl _) (.cells (elmC y).toArray 68))
          have HRA2 := Lib.hid (HOY.out.1.below HBA.out)
          have hb1 := built_elm (elmC y).toArray rfl wy
          have hel : (elmC y).length = 2 := rfl
          clear hr0 hsl2 hpc hnx hy hlen HM HRA
          go_upto_region 7 with (first
            | (refine wpList_load_mid rfl 68 _ rfl pb poff rfl (elmC y) _ HR0.out Try.underlying68 rfl sizeElm ?_)
            | (at_builtin; refine wpList_append_recs (f := elmC) rfl _ _ 55 rfl 68 i0 _ 2 16 Try.underlying55 hi0 hz0 hz1 hz2 rfl (by omega) _ O rfl HRA2.out ⟨wy.heap.size, 0, none⟩ 1 1 [y] rfl rfl (fun _ _ => rfl) (fun z _ => elmC_one z) HONE.out (by have := HOL.out; rw [HON.out]; unfold maxLen; omega) (by have := HOL.out; rw [HON.out]; omega) ?_; intro v' w3 hr hg hbk; obtain ⟨a3, c3, hv, hI⟩ := OwnI.more HOY.out hr hg hbk; rw [show ([y] : List Itm).length = 1 from rfl] at hv hI; subst hv; have hrow3 := (hg.block q (by have := HQY.out; simp; omega) (fun e => HNB.out q e.symm rfl)).trans ((HBA.out.block q HQY.out).trans HRY.out); have HI := Lib.hid hI; have HR3 := Lib.hid hrow3; clear hr hg hbk hI hrow3))
          clear hb1
          go_wp2
          exact ⟨⟨_, _, _, _, _, _, PP.drop 1, O ++ [y], rfl, rfl, HQ2.out, HI.out, HMN.out, HR3.out⟩, by show qn - 1 < qn; omega⟩
        | false =>
          have HMN := Lib.hid (next_no hnx HM.out)
          clear hnx hlen HM HRA
          have y1 := cell_of_row _ q 1 _ _ _ HRY.out
          change World.cell? _ ⟨q, 1, none⟩ = some (.int .i64 (x.w : Int)) at y1
          have HEC := Lib.hid (show elmC x = [.int .i64 (x.w : Int), .bool false] by unfold elmC; rw [HPK.out])
          have hbc := build_coin0 (x.w : Int) wy
          have hb1 := built_elm #[.int .i64 (x.w : Int), .bool false] rfl wy
          have HONE := Lib.hid (one_rec (f := elmC) (x := x) (w := wy.alloc (.cells #[.int .i64 (x.w : Int), .bool false] 68)) (B := wy.heap.size) (t := 68) (fr := (0, 0)) (by rw [HEC.out]; exact heap_alloc_new wy _))
          have HBA := Lib.hid ((Below.refl wy.heap.size wy).alloc (Nat.le_refl _) (.cells #[.int .i64 (x.w : Int), .bool false] 68))
          have HRA2 := Lib.hid (HOY.out.1.below HBA.out)
          go_wp2_with (at_builtin; refine wpList_append_recs (f := elmC) rfl _ _ 55 rfl 68 i0 _ 2 16 Try.underlying55 hi0 hz0 hz1 hz2 rfl (by omega) _ O rfl HRA2.out ⟨wy.heap.size, 0, none⟩ 1 1 [x] rfl rfl (fun _ _ => rfl) (fun z _ => elmC_one z) HONE.out (by have := HOL.out; rw [HON.out]; unfold maxLen; omega) (by have := HOL.out; rw [HON.out]; omega) ?_; intro v' w3 hr hg hbk; obtain ⟨a3, c3, hv, hI⟩ := OwnI.more HOY.out hr hg hbk; rw [show ([x] : List Itm).length = 1 from rfl] at hv hI; subst hv; have HI := Lib.hid hI; clear hr hg hbk hI)
          go_roundw
          case rel => exact ⟨i + 1, _, _, _, _, _, _, PP, O ++ [x], by omega, by go_num, rfl, rfl, HQ.out, HI.out, by rw [← HC2.out]; exact HMN.out⟩
          case measure => simp [intOf]; omega
    · obtain rfl : i = cn := by omega
      have hii : ¬ (i : Int) < i := by omega
      have hm := HM.out
      rw [HCE.out, mrgI_nil_left] at hm
      have HFI := Lib.hid hm
      have HOL := Lib.hid (show O.length + qn ≤ 2000000 by have h1 := congrArg List.length hm; rw [List.length_append, HRL.out, HQ.out.1] at h1; omega)
      have HQ2 := Lib.hid (CameAt.below HQ.out (by omega) HB.out)
      clear hm
      go_wp2_with (at_builtin; refine wpList_append_came (f := elmC) rfl _ _ 55 rfl 68 i0 _ 2 16 Try.underlying55 hi0 hz0 hz1 hz2 rfl (by omega) _ O rfl HO.out.1 qa qn qc PP rfl HQ2.out (fun y _ => elmC_one y) (by have := HOL.out; unfold maxLen; omega) (by have := HOL.out; omega) ?_; intro v' w2 hr hg hbk; obtain ⟨a2, c2, hv, hI⟩ := OwnI.more0 HO.out hr hg hbk; subst hv; have HI := Lib.hid hI; clear hr hg hbk hI)
      go_ret
      exact ⟨_, _, _, rfl, by rw [← HFI.out]; exact HI.out⟩
end Go.Proofs.Ytklfoafbgniogaa
