/-
  A piece of the proof, laid together by program: JnI JnJ HtJ HtK HtL.
-/
import Derived.Test.YtjcmphjjkeigjaaGreatPbB
import Derived.Test.YtjcmphjjkeigjaaGreatPbE
import Derived.Test.YtjcmphjjkeigjaaGreatPbG
import Derived.Test.YtjcmphjjkeigjaaGreatPbH
import Derived.Test.YtjcmphjjkeigjaaGreatPbJ
import Derived.Test.YtjcmphjjkeigjaaGreatPbK

namespace Go.Proofs.YtjcmphjjkeigjaaGreat
open Go.RowKit
set_option linter.unusedVariables false
set_option linter.unusedSimpArgs false

theorem CopiesTo.empty {U : Nat → Prop} {w w' : World} (hb : Below w.heap.size w w') : CopiesTo U [] w (.returned (.slice none 0 0)) w' :=
  ⟨fun _ => False, none, 0, 0, [], rfl, PutsIn.nil _ _ (by simp), rfl, hb, by simp⟩

def pickL (q : Bool) (A : List Pt) : List Pt := if q then A else []
theorem begunL_pick (L : List (List UInt8)) (size : Int) : begunL L size = pickL (mayB (namedL L) size && hdL (namedL L) == L.getD 0 []) (namedL L) := rfl
theorem pick_no (A : List Pt) : pickL false A = [] := rfl
theorem pick_yes (A : List Pt) : pickL true A = A := rfl

set_option maxHeartbeats 2000000 in
set_option maxRecDepth 100000 in
theorem begun_any (b : Nat) (R : List (Option Addr × Nat × Nat)) (L : List (List UInt8)) (size : Int) (w0 w : World) (h : RowsIn w0 w b R L 41) (hR : R.length = 41) (hL : (L.getD 0 []).length = 128) (hs : size ≤ 2048) :
    Calls Tryz.prog 119 #[.slice (some ⟨b, 0, none⟩) 41 41, .int .i64 size] w (CopiesTo (fun k => w0.heap.size ≤ k) (begunL L size) w) := by
  have CN := Lib.hid (named_any b R L w0 w h hR hL)
  have HCS := Lib.hid (fun u (hb : Below w.heap.size w u) => (h.carry hb).cell hR 0 (by omega))
  have HBY := Lib.hid (fun u (hb : Below w.heap.size w u) => (h.carry hb).bytes 0 (by omega))
  rw [begunL_pick]
  clear h hR hL
  generalize R.getD 0 (none, 0, 0) = r at *
  obtain ⟨ra, rm, rc⟩ := r
  dsimp only at HCS HBY
  generalize L.getD 0 [] = l0 at *
  have hz : (0 : Int) < 41 := by omega
  cases hm : mayB (namedL L) size with
  | false =>
    rw [Bool.false_and, pick_no]
    go_enter Tryz.func119, Tryz.ntmps119
    go_wp2_with fail
    refine (CN.out).mono ?_
    rintro e w1 ⟨U, a, n, cap, M, rfl, hp, hM, hb1, hU⟩
    have CV := Lib.hid (valid_any U a n cap M size w1.drew (hp.below ((Below.refl _ _).drew)))
    rw [hM, hm] at CV
    have HB1 := Lib.hid hb1
    clear hp hM hb1 hU hm CN
    go_wp2_with fail
    refine region_head 11 [0, 1, 2, 3, 4, 6, 7, 8, 5, 9, 10] [2, 5, 9] (fun u => True) (by kernel_rfl) (by kernel_rfl) trivial ?_
    simp only [pickO, List.append_eq, List.cons_append, List.nil_append, List.filterMap_cons, List.filterMap_nil, List.getElem?_cons_zero, List.getElem?_cons_succ, Option.map_some, List.drop_succ_cons, List.drop_zero]
    iterate 2
      refine seqH_readG _ rfl (by rfl) (by rintro u hu1; go_simp; with_reducible rfl) ?_
      try simp only [Act.put, List.setIfInBounds_toArray, List.set_cons_zero, List.set_cons_succ]
    refine seqH_moveG rfl (by rfl) (fun K hK => ?_)
    go_simp
    refine (CV.out).mono ?_
    rintro e w2 ⟨rfl, hb2⟩
    have HB2 := Lib.hid (HB1.out.trans (((Below.refl _ _).drew).trans (hb2.mono (by simp)) |>.mono HB1.out.size) : Below w.heap.size w w2)
    refine hK _ _ trivial ?_
    clear hK K hb2 CV
    try simp only [Act.put, List.setIfInBounds_toArray, List.set_cons_zero, List.set_cons_succ]
    refine seqH_readG _ rfl (by rfl) (by rintro u hu1; go_simp; with_reducible rfl) ?_
    try simp only [Act.put, List.setIfInBounds_toArray, List.set_cons_zero, List.set_cons_succ]
    iterate 4
      refine seqH_skip rfl (by rfl) ?_
      try simp only [Act.put, List.setIfInBounds_toArray, List.set_cons_zero, List.set_cons_succ]
    iterate 2
      refine seqH_moveSkip rfl (by rfl) trivial ?_
      try simp only [Act.put, List.setIfInBounds_toArray, List.set_cons_zero, List.set_cons_succ]
    refine seqH_readG _ rfl (by rfl) (by rintro u hu1; go_simp; with_reducible rfl) ?_
    try simp only [Act.put, List.setIfInBounds_toArray, List.set_cons_zero, List.set_cons_succ]
    refine seqH_nil ?_
    go_wp2
    go_ret
    exact CopiesTo.empty HB2.out
  | true =>
    obtain ⟨hfew, hat⟩ : (namedL L).length ≤ 40 ∧ ∀ x ∈ namedL L, 0 ≤ x.1 ∧ x.1 < 65536 := by
      have := (may_iff _ _).1 hm
      exact ⟨this.few, fun x hx => by have := this.at x hx; omega⟩
    rw [Bool.true_and]
    have hpk : ∀ q : Bool, pickL q (namedL L) = if q = true then namedL L else [] := fun q => rfl
    cases hq : (hdL (namedL L) == l0)
    case' false => rw [pick_no]
    case' true => rw [pick_yes]
    all_goals
      clear hpk
      have hq := Lib.hid hq
      go_enter Tryz.func119, Tryz.ntmps119
      go_wp2_with fail
      refine (CN.out).mono ?_
      rintro e w1 ⟨U, a, n, cap, M, rfl, hp, hM, hb1, hU⟩
      have CV := Lib.hid (valid_any U a n cap M size w1.drew (hp.below ((Below.refl _ _).drew)))
      rw [hM, hm] at CV
      have hn : n ≤ 40 := by rw [← hp.mlen, ← List.length_map (f := PutM.pt), hM]; exact hfew
      have CHD := Lib.hid (fun u (hb : Below w1.heap.size w1 u) => headof_any U a n cap M u (hp.below hb) hn (fun x hx => hat x.pt (by rw [← hM]; exact List.mem_map.2 ⟨x, hx, rfl⟩)))
      rw [hM] at CHD
      have HP := Lib.hid hp
      have HM := Lib.hid hM
      have HU := Lib.hid hU
      have HB1 := Lib.hid hb1
      have HCS1 := Lib.hid (fun u (hb : Below w1.heap.size w1 u) => HCS.out u (HB1.out.trans (hb.mono HB1.out.size)))
      have HBY1 := Lib.hid (fun u (hb : Below w1.heap.size w1 u) => HBY.out u (HB1.out.trans (hb.mono HB1.out.size)))
      clear hp hM hb1 hU hm CN hfew hat hn HCS HBY
      have hcs := HCS1.out w1.drew ((Below.refl _ _).drew)
      go_wp2_with fail
      refine region_head 11 [0, 1, 2, 3, 4, 6, 7, 8, 5, 9, 10] [2, 5, 9] (fun u => u.cell? ⟨b, 0, none⟩ = some (.slice ra rm rc)) (by kernel_rfl) (by kernel_rfl) hcs ?_
      clear hcs
      simp only [pickO, List.append_eq, List.cons_append, List.nil_append, List.filterMap_cons, List.filterMap_nil, List.getElem?_cons_zero, List.getElem?_cons_succ, Option.map_some, List.drop_succ_cons, List.drop_zero]
      iterate 2
        refine seqH_readG _ rfl (by rfl) (by rintro u hu1; go_simp; with_reducible rfl) ?_
        try simp only [Act.put, List.setIfInBounds_toArray, List.set_cons_zero, List.set_cons_succ]
      refine seqH_moveG rfl (by rfl) (fun K hK => ?_)
      go_simp
      refine (CV.out).mono ?_
      rintro e w2 ⟨rfl, hb2⟩
      have HB2 := Lib.hid (((Below.refl _ _).drew).trans (hb2.mono (by simp)) : Below w1.heap.size w1 w2)
      refine hK _ _ (HCS1.out _ HB2.out) ?_
      clear hK K hb2 CV
      try simp only [Act.put, List.setIfInBounds_toArray, List.set_cons_zero, List.set_cons_succ]
      iterate 5
        refine seqH_readG _ rfl (by rfl) (by rintro u hu1; go_simp; with_reducible rfl) ?_
        try simp only [Act.put, List.setIfInBounds_toArray, List.set_cons_zero, List.set_cons_succ]
      refine seqH_moveG rfl (by rfl) (fun K hK => ?_)
      go_simp
      refine (CHD.out _ HB2.out).mono ?_
      rintro e w3 ⟨a3, cap3, rfl, ho3, hb3⟩
      have HB3 := Lib.hid (HB2.out.trans (hb3.mono HB2.out.size))
      have CE := Lib.hid (equal_any a3 128 cap3 (hdL (namedL L)) ra rm rc l0 w3 (BytesAt.owned ho3) (HBY1.out _ HB3.out))
      rw [hq.out] at CE
      refine hK _ _ (HCS1.out _ HB3.out) ?_
      clear hK K hb3 CHD ho3
      dsimp only [id]
      try simp only [Act.put, List.setIfInBounds_toArray, List.set_cons_zero, List.set_cons_succ]
      refine seqH_moveG rfl (by rfl) (fun K hK => ?_)
      go_simp
      refine (CE.out).mono ?_
      rintro e w4 ⟨rfl, rfl⟩
      refine hK _ _ (HCS1.out _ HB3.out) ?_
      clear hK K CE
      try simp only [Act.put, List.setIfInBounds_toArray, List.set_cons_zero, List.set_cons_succ]
      refine seqH_readG _ rfl (by rfl) (by rintro u hu1; go_simp; with_reducible rfl) ?_
      try simp only [Act.put, List.setIfInBounds_toArray, List.set_cons_zero, List.set_cons_succ]
      refine seqH_nil ?_
      go_wp2
      go_ret
      first
        | exact CopiesTo.empty (HB1.out.trans (HB3.out.mono HB1.out.size))
        | exact ⟨U, a, n, cap, M, rfl, HP.out.below HB3.out, HM.out, HB1.out.trans (HB3.out.mono HB1.out.size), fun k hk => (HU.out k hk).imp_right id⟩

theorem recoverOf_small {D : Dk} (h : ¬ 41 < D.secs.length) : recoverOf D = (0, 1, D) := by unfold recoverOf; rw [if_pos h]
theorem recoverOf_off {D : Dk} (h : 41 < D.secs.length) (hp : D.power = false) : recoverOf D = (0, 10, D) := by unfold recoverOf; rw [if_neg (by omega), if_pos hp]
theorem recoverOf_none {D : Dk} (h : 41 < D.secs.length) (hp : D.power = true) (hc : D.content 0 = sec 0) : recoverOf D = (0, 0, D) := by unfold recoverOf; rw [if_neg (by omega), if_neg (by rw [hp]; simp), if_pos hc]
theorem recoverOf_some {D : Dk} (h : 41 < D.secs.length) (hp : D.power = true) (hc : D.content 0 ≠ sec 0) :
    recoverOf D = (if (plays (recR (begunL (rowsL D) D.secs.length)) D).1 = 0 then ((begunL (rowsL D) D.secs.length).length : Int) else 0, plays (recR (begunL (rowsL D) D.secs.length)) D) := by
  unfold recoverOf; rw [if_neg (by omega), if_neg (by rw [hp]; simp), if_neg hc]
theorem rowsL_head (D : Dk) : (rowsL D).getD 0 [] = D.content 0 := by simp [rowsL, List.getD]

def RecTo (S : Nat → Prop) (g : Nat) (x : Int × Int × Dk) (w : World) : Ending → World → Prop := DiskTo (.tuple #[.int .i64 x.1, .int .i64 x.2.1]) S g x.2.2 w

set_option maxHeartbeats 2000000 in
set_option maxRecDepth 100000 in
theorem recover_small (g : Nat) (D : Dk) (S : Nat → Prop) (w : World) (h : DiskAt w S g D) (hs : ¬ 41 < D.secs.length) :
    Calls Tryz.prog 78 #[.pointer (some ⟨g, 0, none⟩)] w (RecTo S g (recoverOf D) w) := by
  rw [recoverOf_small hs]
  have CH := Lib.hid (home_no g D S w h hs)
  have HD := Lib.hid h
  clear h hs
  go_enter Tryz.func78, Tryz.ntmps78
  go_wp2_with fail
  refine (CH.out).mono ?_
  rintro e w1 ⟨rfl, rfl⟩
  go_wp2
  go_ret2
  exact diskTo_same _ HD.out

set_option maxHeartbeats 2000000 in
set_option maxRecDepth 100000 in
theorem recover_off (g : Nat) (D : Dk) (S : Nat → Prop) (w : World) (h : DiskAt w S g D) (hs : 41 < D.secs.length) (hp : D.power = false) :
    Calls Tryz.prog 78 #[.pointer (some ⟨g, 0, none⟩)] w (RecTo S g (recoverOf D) w) := by
  rw [recoverOf_off hs hp]
  have CH := Lib.hid (home_yes g D S w h hs)
  have CR := Lib.hid (rows_off g D S w h hs hp)
  have HD := Lib.hid h
  clear h hs hp
  go_enter Tryz.func78, Tryz.ntmps78
  go_wp2_with fail
  refine (CH.out).mono ?_
  rintro e w1 ⟨rfl, rfl⟩
  go_wp2_with fail
  refine (CR.out).mono ?_
  rintro e w1 ⟨rfl, hb1⟩
  have HB1 := Lib.hid hb1
  clear hb1 CR CH
  go_wp2_with fail
  refine region_head 10 [0, 1, 2, 3, 4, 5, 6, 7, 8, 9] [6, 8] (fun u => True) (by kernel_rfl) (by kernel_rfl) trivial ?_
  simp only [pickO, List.append_eq, List.cons_append, List.nil_append, List.filterMap_cons, List.filterMap_nil, List.getElem?_cons_zero, List.getElem?_cons_succ, Option.map_some, List.drop_succ_cons, List.drop_zero]
  iterate 3
    refine seqH_readG _ rfl (by rfl) (by rintro u hu1; go_simp; with_reducible rfl) ?_
    try simp only [Act.put, List.setIfInBounds_toArray, List.set_cons_zero, List.set_cons_succ]
  iterate 3
    refine seqH_skip rfl (by rfl) ?_
    try simp only [Act.put, List.setIfInBounds_toArray, List.set_cons_zero, List.set_cons_succ]
  refine seqH_moveSkip rfl (by rfl) trivial ?_
  try simp only [Act.put, List.setIfInBounds_toArray, List.set_cons_zero, List.set_cons_succ]
  refine seqH_skip rfl (by rfl) ?_
  try simp only [Act.put, List.setIfInBounds_toArray, List.set_cons_zero, List.set_cons_succ]
  refine seqH_moveSkip rfl (by rfl) trivial ?_
  try simp only [Act.put, List.setIfInBounds_toArray, List.set_cons_zero, List.set_cons_succ]
  refine seqH_readG _ rfl (by rfl) (by rintro u hu1; go_simp; with_reducible rfl) ?_
  try simp only [Act.put, List.setIfInBounds_toArray, List.set_cons_zero, List.set_cons_succ]
  refine seqH_nil ?_
  go_wp2
  go_ret2
  exact ⟨rfl, S, HD.out.below (HB1.out.drew), Only.of_below HB1.out.drew, fun k hk => .inl hk⟩

end Go.Proofs.YtjcmphjjkeigjaaGreat

namespace Go.Proofs.YtjcmphjjkeigjaaGreat
open Go.RowKit
set_option linter.unusedVariables false
set_option linter.unusedSimpArgs false

theorem field_put (i : Int) (a : Option Addr) (n cap : Nat) (u : World) : (Instr.field 118 (.agg #[.int .i64 i, .slice a n cap]) 1).run Tryz.prog u = .ok (.slice a n cap) u := by
  obtain ⟨i0, hi, _, hz1, _⟩ := info_parts infoSl
  simp [Instr.field, run_underlying Tryz.underlying118, asAgg, part, sizeOf, typeInfo, hi, hz1, go_sem]

set_option maxHeartbeats 4000000 in
set_option maxRecDepth 100000 in
theorem recover_none (g : Nat) (D : Dk) (S : Nat → Prop) (w : World) (h : DiskAt w S g D) (hs : 41 < D.secs.length) (hp : D.power = true) (hc : D.content 0 = sec 0) :
    Calls Tryz.prog 78 #[.pointer (some ⟨g, 0, none⟩)] w (RecTo S g (recoverOf D) w) := by
  rw [recoverOf_none hs hp hc]
  have hq := Lib.hid (show (D.content 0 == sec 0) = true by rw [hc]; simp)
  clear hc
  have CH := Lib.hid (home_yes g D S w h hs)
  have CR := Lib.hid (rows_yes g D S w h hs hp)
  have HD := Lib.hid h
  have hz : (0 : Int) < 41 := by omega
  have hfd := field_put
  have HS := Lib.hid hs
  clear h hp
  go_enter Tryz.func78, Tryz.ntmps78
  go_wp2_with fail
  refine (CH.out).mono ?_
  rintro e w1 ⟨rfl, rfl⟩
  go_wp2_with fail
  refine (CR.out).mono ?_
  rintro e w1 ⟨b, R, rfl, hR, hrw⟩
  have hL0 : ((rowsL D).getD 0 []).length = 128 := by rw [rowsL_head]; exact HD.out.ok.content 0 (by have := HS.out; omega)
  have HR := Lib.hid hR
  have HRW := Lib.hid hrw
  have HL0 := Lib.hid hL0
  have HB1 := Lib.hid hrw.below
  have HCS := Lib.hid (fun u (hb : Below w1.heap.size w1 u) => (hrw.carry hb).cell hR 0 (by omega))
  have HBY := Lib.hid (fun u (hb : Below w1.heap.size w1 u) => (hrw.carry hb).bytes 0 (by omega))
  rw [rowsL_head] at HBY
  clear hR hrw CR CH hL0 hs
  generalize R.getD 0 (none, 0, 0) = r at *
  obtain ⟨ra, rm, rc⟩ := r
  dsimp only at HCS HBY
  have hcs := HCS.out w1.drew ((Below.refl _ _).drew)
  go_wp2_with fail
  refine region_head 10 [0, 1, 2, 3, 4, 5, 6, 7, 8, 9] [6, 8] (fun u => u.cell? ⟨b, 0, none⟩ = some (.slice ra rm rc)) (by kernel_rfl) (by kernel_rfl) hcs ?_
  clear hcs
  simp only [pickO, List.append_eq, List.cons_append, List.nil_append, List.filterMap_cons, List.filterMap_nil, List.getElem?_cons_zero, List.getElem?_cons_succ, Option.map_some, List.drop_succ_cons, List.drop_zero]
  iterate 6
    refine seqH_readG _ rfl (by rfl) (by rintro u hu1; go_simp; with_reducible rfl) ?_
    try simp only [Act.put, List.setIfInBounds_toArray, List.set_cons_zero, List.set_cons_succ]
  refine seqH_moveG rfl (by rfl) (fun K hK => ?_)
  go_simp
  refine (empty_any _).mono ?_
  rintro e w2 ⟨b2, rfl, hy2, hb2, _, _⟩
  have HB2 := Lib.hid (((Below.refl _ _).drew).trans (hb2.mono (by simp)) : Below w1.heap.size w1 w2)
  have CE := Lib.hid (equal_any ra rm rc (D.content 0) (some ⟨b2, 0, none⟩) 128 128 (sec 0) w2 (HBY.out _ HB2.out) hy2)
  rw [hq.out] at CE
  refine hK _ _ (HCS.out _ HB2.out) ?_
  clear hK K hb2 hy2
  dsimp only [putV]
  try simp only [Act.put, List.setIfInBounds_toArray, List.set_cons_zero, List.set_cons_succ]
  refine seqH_readG _ rfl (by rfl) (by rintro u hu1; go_simp; with_reducible rfl) ?_
  try simp only [Act.put, List.setIfInBounds_toArray, List.set_cons_zero, List.set_cons_succ]
  refine seqH_moveG rfl (by rfl) (fun K hK => ?_)
  go_simp
  refine (CE.out).mono ?_
  rintro e w3 ⟨rfl, rfl⟩
  refine hK _ _ (HCS.out _ HB2.out) ?_
  clear hK K CE
  try simp only [Act.put, List.setIfInBounds_toArray, List.set_cons_zero, List.set_cons_succ]
  refine seqH_readG _ rfl (by rfl) (by rintro u hu1; go_simp; with_reducible rfl) ?_
  try simp only [Act.put, List.setIfInBounds_toArray, List.set_cons_zero, List.set_cons_succ]
  refine seqH_nil ?_
  have B2 := Lib.hid (HB1.out.trans (HB2.out.mono HB1.out.size) : Below w.heap.size w w2)
  go_wp2
  go_ret2
  exact ⟨rfl, S, HD.out.below B2.out, Only.of_below B2.out, fun k hk => .inl hk⟩

open Go.RowKit
theorem two_news {w : World} {B : Nat} {v0 v1 : Value} {t : TypeId} {fr : Nat × Nat} (h : w.heap[B]? = some (.cells #[v0, v1] t fr)) : ∀ j u, ([v0, v1].flatMap oneC)[j]? = some u → w.cell? ((⟨B, 0, none⟩ : Addr).add j) = some u := by
  intro j u hj
  rw [Addr.add_mid, Nat.zero_add, cell_of_row _ _ _ _ _ _ h]
  simpa [oneC] using hj
theorem func_one {bl bd g : Nat} (y : Value) (hy : y = writeV bl bd ∨ y = flushV g) : ∀ u ∈ oneC y, u.oneCell' = true := by
  intro u hu
  simp only [oneC, List.mem_singleton] at hu
  subst hu
  rcases hy with rfl | rfl <;> rfl

/-- the steps' list, where it was appended to -/
theorem steps_of_recs {w : World} {U : Nat → Prop} {g n cap : Nat} {a : Option Addr} {vs : List Value} {ts : List Stp} (h : Recs oneC w 156 1 (.slice a n cap) vs) (hU : ∀ k, U k → k < w.heap.size) (ha : ∀ p, a = some p → U p.block) (hts : ts.length = n)
    (hst : ∀ k, k < n → StepIs w U g (vs.getD k undef) (ts.getD k .flush)) : StepsIn w U g a n cap ts := ⟨hts, hU, vs, came_of_recs h, ha, hst⟩

def NF : Nat → Prop := fun _ => False
theorem NF.lt {w : World} : ∀ k, NF k → k < w.heap.size := fun _ h => h.elim

set_option maxHeartbeats 4000000 in
set_option maxRecDepth 100000 in
theorem recover_nil (g : Nat) (D : Dk) (S : Nat → Prop) (w : World) (h : DiskAt w S g D) (hs : 41 < D.secs.length) (hp : D.power = true) (hc : D.content 0 ≠ sec 0) (hA : begunL (rowsL D) D.secs.length = []) (hf : D.waits.length ≤ 1073741000) :
    Calls Tryz.prog 78 #[.pointer (some ⟨g, 0, none⟩)] w (RecTo S g (recoverOf D) w) := by
  rw [recoverOf_some hs hp hc, hA]
  have hq := Lib.hid (show (D.content 0 == sec 0) = false by simpa using hc)
  have HA := Lib.hid hA
  have hres : ∀ r : Int × Dk, plays (recR []) D = r → (if (plays (recR []) D).1 = 0 then ((([] : List Pt).length : Nat) : Int) else 0, plays (recR []) D) = (0, r) := fun r hr => by rw [hr]; simp
  rw [hres _ rfl, show recR [] = formatR from rfl]
  obtain ⟨r1, r2, hr⟩ : ∃ r1 r2, plays formatR D = (r1, r2) := ⟨_, _, rfl⟩
  rw [hr]
  have HRR := Lib.hid hr
  clear hr
  have hmany := h.ok.many
  clear hc hA hres
  have CH := Lib.hid (home_yes g D S w h hs)
  have CR := Lib.hid (rows_yes g D S w h hs hp)
  have HD := Lib.hid h
  have hz : (0 : Int) < 41 := by omega
  have hfd := field_put
  have HS := Lib.hid hs
  clear h hp
  go_enter Tryz.func78, Tryz.ntmps78
  go_wp2_with fail
  refine (CH.out).mono ?_
  rintro e w1 ⟨rfl, rfl⟩
  go_wp2_with fail
  refine (CR.out).mono ?_
  rintro e w1 ⟨b, R, rfl, hR, hrw⟩
  have hL0 : ((rowsL D).getD 0 []).length = 128 := by rw [rowsL_head]; exact HD.out.ok.content 0 (by have := HS.out; omega)
  have HR := Lib.hid hR
  have HRW := Lib.hid hrw
  have HL0 := Lib.hid hL0
  have HB1 := Lib.hid hrw.below
  have HCS := Lib.hid (fun u (hb : Below w1.heap.size w1 u) => (hrw.carry hb).cell hR 0 (by omega))
  have HBY := Lib.hid (fun u (hb : Below w1.heap.size w1 u) => (hrw.carry hb).bytes 0 (by omega))
  rw [rowsL_head] at HBY
  clear hR hrw CR CH hL0 hs
  generalize R.getD 0 (none, 0, 0) = r at *
  obtain ⟨ra, rm, rc⟩ := r
  dsimp only at HCS HBY
  have hcs := HCS.out w1.drew ((Below.refl _ _).drew)
  go_wp2_with fail
  refine region_head 10 [0, 1, 2, 3, 4, 5, 6, 7, 8, 9] [6, 8] (fun u => u.cell? ⟨b, 0, none⟩ = some (.slice ra rm rc)) (by kernel_rfl) (by kernel_rfl) hcs ?_
  clear hcs
  simp only [pickO, List.append_eq, List.cons_append, List.nil_append, List.filterMap_cons, List.filterMap_nil, List.getElem?_cons_zero, List.getElem?_cons_succ, Option.map_some, List.drop_succ_cons, List.drop_zero]
  iterate 6
    refine seqH_readG _ rfl (by rfl) (by rintro u hu1; go_simp; with_reducible rfl) ?_
    try simp only [Act.put, List.setIfInBounds_toArray, List.set_cons_zero, List.set_cons_succ]
  refine seqH_moveG rfl (by rfl) (fun K hK => ?_)
  go_simp
  refine (empty_any _).mono ?_
  rintro e w2 ⟨b2, rfl, hy2, hb2, _, _⟩
  have HB2 := Lib.hid (((Below.refl _ _).drew).trans (hb2.mono (by simp)) : Below w1.heap.size w1 w2)
  have CE := Lib.hid (equal_any ra rm rc (D.content 0) (some ⟨b2, 0, none⟩) 128 128 (sec 0) w2 (HBY.out _ HB2.out) hy2)
  rw [hq.out] at CE
  refine hK _ _ (HCS.out _ HB2.out) ?_
  clear hK K hb2 hy2
  dsimp only [putV]
  try simp only [Act.put, List.setIfInBounds_toArray, List.set_cons_zero, List.set_cons_succ]
  refine seqH_readG _ rfl (by rfl) (by rintro u hu1; go_simp; with_reducible rfl) ?_
  try simp only [Act.put, List.setIfInBounds_toArray, List.set_cons_zero, List.set_cons_succ]
  refine seqH_moveG rfl (by rfl) (fun K hK => ?_)
  go_simp
  refine (CE.out).mono ?_
  rintro e w3 ⟨rfl, rfl⟩
  refine hK _ _ (HCS.out _ HB2.out) ?_
  clear hK K CE
  try simp only [Act.put, List.setIfInBounds_toArray, List.set_cons_zero, List.set_cons_succ]
  refine seqH_readG _ rfl (by rfl) (by rintro u hu1; go_simp; with_reducible rfl) ?_
  try simp only [Act.put, List.setIfInBounds_toArray, List.set_cons_zero, List.set_cons_succ]
  refine seqH_nil ?_
  have B2 := Lib.hid (HB1.out.trans (HB2.out.mono HB1.out.size) : Below w.heap.size w w2)
  have CSZ := Lib.hid (fun u (hb : Below w.heap.size w u) => size_any g D S u (HD.out.below hb))
  have CBG := Lib.hid (begun_any b R (rowsL D) D.secs.length w w2 (HRW.out.carry HB2.out) HR.out HL0.out (by omega))
  rw [HA.out] at CBG
  clear HRW HL0 HB1 HCS HBY HB2 hz hfd hmany
  go_wp2_with fail
  refine (CSZ.out _ B2.out).mono ?_
  rintro e w3 ⟨rfl, rfl⟩
  go_wp2_with fail
  refine (CBG.out).mono ?_
  rintro e w4 ⟨U4, a4, n4, c4, M4, rfl, hp4, hM4, hb4, hU4⟩
  have hn4 : n4 = 0 := by rw [← hp4.mlen, ← List.length_map (f := PutM.pt), hM4]; rfl
  subst hn4
  have B4 := Lib.hid (B2.out.trans (hb4.mono B2.out.size))
  clear hp4 hM4 hb4 hU4 CBG CSZ B2
  go_wp2_with fail
  refine (empty_any w4).mono ?_
  rintro e w5 ⟨b5, rfl, hy5, hb5, hlo, hhi⟩
  have B5 := Lib.hid (B4.out.trans (hb5.mono B4.out.size))
  have Y5 := Lib.hid hy5
  have A5 := Lib.hid (show w.heap.size ≤ b5 ∧ b5 < w5.heap.size from ⟨Nat.le_trans B4.out.size hlo, hhi⟩)
  clear hy5 hb5 hlo hhi
  go_wp2_with (refine wpList_buildSliceV rfl 104 1 _ rfl #[(0, .agg (putV 0 (some ⟨b5, 0, none⟩) 128 128))] (by simp [go_sem]) _ _ (built_put 0 _ _ _ _) ?_)
  have hb6 : Below w5.heap.size w5 (w5.alloc (.cells (putV 0 (some ⟨b5, 0, none⟩) 128 128) 118)) := (Below.refl _ _).alloc (Nat.le_refl _) _
  have hbw6 : Below w.heap.size w (w5.alloc (.cells (putV 0 (some ⟨b5, 0, none⟩) 128 128) 118)) := B5.out.alloc B5.out.size _
  have P6 := Lib.hid (puts_one (U := NU NF w (w5.alloc (.cells (putV 0 (some ⟨b5, 0, none⟩) 128 128) 118))) (heap_alloc_new w5 (.cells (putV 0 (some ⟨b5, 0, none⟩) 128 128) 118)) (Y5.out.below hb6) (NU.lt NF.lt hbw6) (.inr ⟨B5.out.size, by simp⟩) (fun p hp => by cases hp; exact .inr ⟨A5.out.1, by have := A5.out.2; simp; omega⟩))
  have B6 := Lib.hid hbw6
  clear hb6 hbw6 Y5 A5
  generalize w5.alloc (.cells (putV 0 (some ⟨b5, 0, none⟩) 128 128) 118) = w6 at *
  refine (write_step g _ 1 1 w6).mono ?_
  rintro e w7 ⟨bl, bd, rfl, k1, k2, hb7, k3, k4, k5, k6⟩
  have V7 := Lib.hid (step_made P6.out NF.lt B6.out k1 k2 hb7 k3 k4 k5 k6)
  have B7 := Lib.hid (B6.out.trans (hb7.mono B6.out.size))
  clear k1 k2 hb7 k3 k4 k5 k6 P6
  have V8 := Lib.hid (step_carry V7.out NF.lt B7.out ((Below.refl _ _).alloc (Nat.le_refl _) (.cells #[writeV bl bd, flushV g] 156)))
  have B8 := Lib.hid (B7.out.alloc B7.out.size (.cells #[writeV bl bd, flushV g] 156))
  obtain ⟨i0, hi, hz0, hz1, hz2⟩ := info_parts infoStep
  go_wp2_with (first
    | (refine wpList_buildSliceV rfl 195 2 _ rfl #[(0, writeV bl bd), (1, flushV g)] (by simp [go_sem, writeV, flushV]) _ _ (built_steps [writeV bl bd, flushV g] (by simp [flushV_cells, writeV_cells]) (by simp) (by simp) _ rfl 2 rfl _) ?_)
    | (at_builtin; refine wpList_append_recs (f := oneC) rfl _ _ 195 rfl 156 i0 .nilFunc 1 8 Tryz.underlying195 hi hz0 hz1 hz2 rfl (by omega) (.slice none 0 0) [] rfl (Recs.nil _ _ _ _) ⟨w7.heap.size, 0, none⟩ 2 2 [writeV bl bd, flushV g] rfl rfl (fun y hy => rfl) (fun y hy => func_one y (by simpa using hy)) (two_news (heap_alloc_new w7 _)) (by unfold maxLen; simp) (by simp) ?_; intro v9 w9 hr9 hg9 hv9))
  obtain ⟨a9, c9, rfl, _, _⟩ := hr9.form
  have hb9 : Below (w7.alloc (.cells #[writeV bl bd, flushV g] 156)).heap.size (w7.alloc (.cells #[writeV bl bd, flushV g] 156)) w9 := (Below.refl _ _).grown hg9 (Nat.le_refl _) (fun k hk => by cases hk)
  have B9 := Lib.hid (B8.out.trans (hb9.mono B8.out.size))
  have V9 := step_carry V8.out NF.lt B8.out hb9
  have hown : ∀ p, a9 = some p → NU NF w w9 p.block := fun p hp => by
    subst hp
    have hlt := hr9.lt p.block rfl
    rcases hv9 with h1 | h1
    · simp [Value.ownBlock] at h1
    · simp only [Value.ownBlock, Option.some.injEq] at h1
      exact .inr ⟨by have := B8.out.size; omega, hlt⟩
  have CR := Lib.hid (run_any g D S (NU NF w w9) a9 2 c9 formatR w9 (HD.out.below B9.out) (fun k hk hS => hk.elim id fun h => by have := HD.out.lt k hS; omega)
    (steps_of_recs hr9 (NU.lt NF.lt B9.out) hown rfl (fun k hk => by
      match k, hk with
      | 0, _ => exact V9
      | 1, _ => exact rfl)) (by omega) (by rw [formatR_costs]; omega))
  rw [HRR.out] at CR
  clear hr9 hg9 hv9 hb9 V9 hown hi hz0 hz1 hz2 V8 B8 V7 B7
  simp only [List.nil_append, List.length_cons, List.length_nil, Nat.zero_add, Nat.reduceAdd]
  dsimp only at CR
  by_cases h0 : r1 = 0
  · subst h0
    go_wp2_with fail
    refine (CR.out).mono ?_
    rintro e w10 ⟨rfl, S10, hd10, ho10, hs10⟩
    go_wp2
    go_ret2
    exact ⟨rfl, S10, hd10, (Only.of_below B9.out).trans ho10 (fun _ _ h => h), fun k hk => (hs10 k hk).imp_right fun h => Nat.le_trans B9.out.size h⟩
  · have hb0 : (r1 == 0) = false := by simpa using h0
    have hb1 : (r1 != 0) = true := by simpa using h0
    clear h0
    go_wp2_with fail
    refine (CR.out).mono ?_
    rintro e w10 ⟨rfl, S10, hd10, ho10, hs10⟩
    go_wp2
    go_ret2
    exact ⟨rfl, S10, hd10, (Only.of_below B9.out).trans ho10 (fun _ _ h => h), fun k hk => (hs10 k hk).imp_right fun h => Nat.le_trans B9.out.size h⟩

open Go.RowKit
/-- a step whose memory is older than what is written -/
theorem step_grown {wa wb w1 w2 : World} {g : Nat} {v : Value} {s : Stp} {row : Option Nat} (h : StepIs w1 (NU NF wa wb) g v s) (hg : w1.grownBy w2 row) (hb : wb.heap.size ≤ w1.heap.size) (hr : ∀ k, row = some k → k < wa.heap.size ∨ wb.heap.size ≤ k) : StepIs w2 (NU NF wa wb) g v s :=
  h.keep hg.size fun k hk => hk.elim (fun x => x.elim) fun hk => hg.block k (by omega) (fun e => by rcases hr k e.symm with h | h <;> omega)
theorem step_below {w1 w2 wa wb : World} {g : Nat} {v : Value} {s : Stp} (h : StepIs w1 (NU NF wa wb) g v s) (hb : Below w1.heap.size w1 w2) (hs : wb.heap.size ≤ w1.heap.size) : StepIs w2 (NU NF wa wb) g v s :=
  h.keep hb.size fun k hk => hb.block k (hk.elim (fun x => x.elim) fun h => by omega)
theorem step_widen {w0 w1 wa wb : World} {g : Nat} {v : Value} {s : Stp} (h : StepIs w1 (NU NF wa wb) g v s) (h0 : w0.heap.size ≤ wa.heap.size) (hs : wb.heap.size ≤ w1.heap.size) : StepIs w1 (NU NF w0 w1) g v s :=
  h.more (fun k hk => hk.imp_right fun h => ⟨by omega, by omega⟩) (fun k hk => hk.elim (fun x => x.elim) fun h => h.2)

set_option maxHeartbeats 8000000 in
set_option maxRecDepth 100000 in
theorem recover_puts (g : Nat) (D : Dk) (S : Nat → Prop) (w : World) (h : DiskAt w S g D) (hs : 41 < D.secs.length) (hp : D.power = true) (hc : D.content 0 ≠ sec 0) (hA : begunL (rowsL D) D.secs.length ≠ []) (hf : D.waits.length ≤ 1073741000) :
    Calls Tryz.prog 78 #[.pointer (some ⟨g, 0, none⟩)] w (RecTo S g (recoverOf D) w) := by
  rw [recoverOf_some hs hp hc]
  have hq := Lib.hid (show (D.content 0 == sec 0) = false by simpa using hc)
  have hlen := begunL_length (rowsL D) D.secs.length
  have hcost := recR_costs (begunL (rowsL D) D.secs.length) hlen
  have hrec : recR (begunL (rowsL D) D.secs.length) = [.write (begunL (rowsL D) D.secs.length), .flush, .write [(0, sec 0)], .flush] := by unfold recR; rw [if_neg hA]; rfl
  have hpos : 0 < (begunL (rowsL D) D.secs.length).length := List.length_pos_iff.2 hA
  have hmany := h.ok.many
  obtain ⟨A, hAe⟩ : ∃ A, begunL (rowsL D) D.secs.length = A := ⟨_, rfl⟩
  rw [hAe] at hlen hcost hrec hpos ⊢
  have HA := Lib.hid hAe
  obtain ⟨r1, r2, hr⟩ : ∃ r1 r2, plays (recR A) D = (r1, r2) := ⟨_, _, rfl⟩
  rw [hr]
  dsimp only
  obtain ⟨N, hN⟩ : ∃ N : Int, (if r1 = 0 then (A.length : Int) else 0) = N := ⟨_, rfl⟩
  rw [hN]
  have HN := Lib.hid hN
  rw [hrec] at hr hcost
  have HRR := Lib.hid hr
  have HCO := Lib.hid hcost
  clear hc hA hr hrec hAe hcost hN
  have CH := Lib.hid (home_yes g D S w h hs)
  have CR := Lib.hid (rows_yes g D S w h hs hp)
  have HD := Lib.hid h
  have hz : (0 : Int) < 41 := by omega
  have hfd := field_put
  have HS := Lib.hid hs
  clear h hp
  go_enter Tryz.func78, Tryz.ntmps78
  go_wp2_with fail
  refine (CH.out).mono ?_
  rintro e w1 ⟨rfl, rfl⟩
  go_wp2_with fail
  refine (CR.out).mono ?_
  rintro e w1 ⟨b, R, rfl, hR, hrw⟩
  have hL0 : ((rowsL D).getD 0 []).length = 128 := by rw [rowsL_head]; exact HD.out.ok.content 0 (by have := HS.out; omega)
  have HR := Lib.hid hR
  have HRW := Lib.hid hrw
  have HL0 := Lib.hid hL0
  have HB1 := Lib.hid hrw.below
  have HCS := Lib.hid (fun u (hb : Below w1.heap.size w1 u) => (hrw.carry hb).cell hR 0 (by omega))
  have HBY := Lib.hid (fun u (hb : Below w1.heap.size w1 u) => (hrw.carry hb).bytes 0 (by omega))
  rw [rowsL_head] at HBY
  clear hR hrw CR CH hL0 hs
  generalize R.getD 0 (none, 0, 0) = r at *
  obtain ⟨ra, rm, rc⟩ := r
  dsimp only at HCS HBY
  have hcs := HCS.out w1.drew ((Below.refl _ _).drew)
  go_wp2_with fail
  refine region_head 10 [0, 1, 2, 3, 4, 5, 6, 7, 8, 9] [6, 8] (fun u => u.cell? ⟨b, 0, none⟩ = some (.slice ra rm rc)) (by kernel_rfl) (by kernel_rfl) hcs ?_
  clear hcs
  simp only [pickO, List.append_eq, List.cons_append, List.nil_append, List.filterMap_cons, List.filterMap_nil, List.getElem?_cons_zero, List.getElem?_cons_succ, Option.map_some, List.drop_succ_cons, List.drop_zero]
  iterate 6
    refine seqH_readG _ rfl (by rfl) (by rintro u hu1; go_simp; with_reducible rfl) ?_
    try simp only [Act.put, List.setIfInBounds_toArray, List.set_cons_zero, List.set_cons_succ]
  refine seqH_moveG rfl (by rfl) (fun K hK => ?_)
  go_simp
  refine (empty_any _).mono ?_
  rintro e w2 ⟨b2, rfl, hy2, hb2, _, _⟩
  have HB2 := Lib.hid (((Below.refl _ _).drew).trans (hb2.mono (by simp)) : Below w1.heap.size w1 w2)
  have CE := Lib.hid (equal_any ra rm rc (D.content 0) (some ⟨b2, 0, none⟩) 128 128 (sec 0) w2 (HBY.out _ HB2.out) hy2)
  rw [hq.out] at CE
  refine hK _ _ (HCS.out _ HB2.out) ?_
  clear hK K hb2 hy2
  dsimp only [putV]
  try simp only [Act.put, List.setIfInBounds_toArray, List.set_cons_zero, List.set_cons_succ]
  refine seqH_readG _ rfl (by rfl) (by rintro u hu1; go_simp; with_reducible rfl) ?_
  try simp only [Act.put, List.setIfInBounds_toArray, List.set_cons_zero, List.set_cons_succ]
  refine seqH_moveG rfl (by rfl) (fun K hK => ?_)
  go_simp
  refine (CE.out).mono ?_
  rintro e w3 ⟨rfl, rfl⟩
  refine hK _ _ (HCS.out _ HB2.out) ?_
  clear hK K CE
  try simp only [Act.put, List.setIfInBounds_toArray, List.set_cons_zero, List.set_cons_succ]
  refine seqH_readG _ rfl (by rfl) (by rintro u hu1; go_simp; with_reducible rfl) ?_
  try simp only [Act.put, List.setIfInBounds_toArray, List.set_cons_zero, List.set_cons_succ]
  refine seqH_nil ?_
  have B2 := Lib.hid (HB1.out.trans (HB2.out.mono HB1.out.size) : Below w.heap.size w w2)
  have CSZ := Lib.hid (fun u (hb : Below w.heap.size w u) => size_any g D S u (HD.out.below hb))
  have CBG := Lib.hid (begun_any b R (rowsL D) D.secs.length w w2 (HRW.out.carry HB2.out) HR.out HL0.out (by omega))
  rw [HA.out] at CBG
  clear HRW HL0 HB1 HCS HBY HB2 hz hfd hmany
  go_wp2_with fail
  refine (CSZ.out _ B2.out).mono ?_
  rintro e w3 ⟨rfl, rfl⟩
  go_wp2_with fail
  refine (CBG.out).mono ?_
  rintro e w4 ⟨U4, a4, n4, c4, M4, rfl, hp4, hM4, hb4, hU4⟩
  have hn4 : n4 = A.length := by rw [← hp4.mlen, ← List.length_map (f := PutM.pt), hM4]
  subst hn4
  have hposI : (0 : Int) < (A.length : Int) := by omega
  have B4 := Lib.hid (B2.out.trans (hb4.mono B2.out.size))
  have P4 := Lib.hid (show PutsIn w4 (NU NF w w4) a4 A.length c4 M4 from hp4.more (fun k hk => .inr ⟨(hU4 k hk).elim id fun h => Nat.le_trans B2.out.size h, hp4.lt k hk⟩) (NU.lt NF.lt B4.out))
  have HM4 := Lib.hid hM4
  clear hp4 hM4 hb4 hU4 CBG CSZ B2
  obtain ⟨i0, hi, hz0, hz1, hz2⟩ := info_parts infoStep
  -- the first two steps
  go_wp2_with fail
  refine (write_step g a4 A.length c4 w4).mono ?_
  rintro e w5 ⟨bl1, bd1, rfl, k1, k2, hb5, k3, k4, k5, k6⟩
  have hS5 := step_made P4.out NF.lt B4.out k1 k2 hb5 k3 k4 k5 k6
  rw [HM4.out] at hS5
  have B5 := Lib.hid (B4.out.trans (hb5.mono B4.out.size))
  have hb6 : Below w5.heap.size w5 (w5.alloc (.cells #[writeV bl1 bd1, flushV g] 156)) := (Below.refl _ _).alloc (Nat.le_refl _) _
  have S6 := Lib.hid (step_below hS5 hb6 (Nat.le_refl _))
  have B6 := Lib.hid (B5.out.alloc B5.out.size (.cells #[writeV bl1 bd1, flushV g] 156))
  clear k1 k2 hb5 k3 k4 k5 k6 hS5 hb6 P4 HM4
  go_wp2_with (first
    | (refine wpList_buildSliceV rfl 195 2 _ rfl #[(0, writeV bl1 bd1), (1, flushV g)] (by simp [go_sem, writeV, flushV]) _ _ (built_steps [writeV bl1 bd1, flushV g] (by simp [flushV_cells, writeV_cells]) (by simp) (by simp) _ rfl 2 rfl _) ?_)
    | (at_builtin; refine wpList_append_recs (f := oneC) rfl _ _ 195 rfl 156 i0 .nilFunc 1 8 Tryz.underlying195 hi hz0 hz1 hz2 rfl (by omega) (.slice none 0 0) [] rfl (Recs.nil _ _ _ _) ⟨w5.heap.size, 0, none⟩ 2 2 [writeV bl1 bd1, flushV g] rfl rfl (fun y hy => rfl) (fun y hy => func_one y (by simpa using hy)) (two_news (heap_alloc_new w5 _)) (by unfold maxLen; simp) (by simp) ?_; intro v7 w7 hr7 hg7 hv7))
  rw [List.nil_append] at hr7
  obtain ⟨vb, c7, rfl, _, _, hvb⟩ := hr7.form' (by simp)
  have hvb2 : w5.heap.size ≤ vb := by
    rcases hv7 with h1 | h1
    · simp [Value.ownBlock] at h1
    · simp only [Value.ownBlock, Option.some.injEq] at h1
      rw [h1]; simp
  have hb7 : Below (w5.alloc (.cells #[writeV bl1 bd1, flushV g] 156)).heap.size (w5.alloc (.cells #[writeV bl1 bd1, flushV g] 156)) w7 := (Below.refl _ _).grown hg7 (Nat.le_refl _) (fun k hk => by cases hk)
  have B7 := Lib.hid (B6.out.trans (hb7.mono B6.out.size))
  have S7 := Lib.hid (step_below S6.out hb7 (by simp))
  have R7 := Lib.hid hr7
  have HVB := Lib.hid (show w5.heap.size ≤ vb ∧ vb < w7.heap.size from ⟨hvb2, hvb⟩)
  have Z57 := Lib.hid (show w5.heap.size ≤ w7.heap.size from Nat.le_trans (by simp) hb7.size)
  clear hr7 hg7 hv7 hvb hvb2 hb7 S6 B6
  simp only [List.length_cons, List.length_nil, Nat.zero_add, Nat.reduceAdd]
  -- the empty head
  go_wp2_with fail
  refine (empty_any w7).mono ?_
  rintro e w8 ⟨b8, rfl, hy8, hb8, hlo, hhi⟩
  have C8 := Lib.hid hb8
  have Y8 := Lib.hid hy8
  have A8 := Lib.hid (show w7.heap.size ≤ b8 ∧ b8 < w8.heap.size from ⟨hlo, hhi⟩)
  clear hy8 hb8 hlo hhi
  go_wp2_with (refine wpList_buildSliceV rfl 104 1 _ rfl #[(0, .agg (putV 0 (some ⟨b8, 0, none⟩) 128 128))] (by simp [go_sem]) _ _ (built_put 0 _ _ _ _) ?_)
  have hb9 : Below w8.heap.size w8 (w8.alloc (.cells (putV 0 (some ⟨b8, 0, none⟩) 128 128) 118)) := (Below.refl _ _).alloc (Nat.le_refl _) _
  have hbw9 : Below w7.heap.size w7 (w8.alloc (.cells (putV 0 (some ⟨b8, 0, none⟩) 128 128) 118)) := C8.out.alloc C8.out.size _
  have P9 := Lib.hid (puts_one (U := NU NF w7 (w8.alloc (.cells (putV 0 (some ⟨b8, 0, none⟩) 128 128) 118))) (heap_alloc_new w8 (.cells (putV 0 (some ⟨b8, 0, none⟩) 128 128) 118)) (Y8.out.below hb9) (NU.lt NF.lt hbw9) (.inr ⟨C8.out.size, by simp⟩) (fun p hp => by cases hp; exact .inr ⟨A8.out.1, by have := A8.out.2; simp; omega⟩))
  have C9 := Lib.hid hbw9
  clear hb9 hbw9 Y8 A8 C8
  generalize w8.alloc (.cells (putV 0 (some ⟨b8, 0, none⟩) 128 128) 118) = w9 at *
  refine (write_step g _ 1 1 w9).mono ?_
  rintro e w10 ⟨bl2, bd2, rfl, k1, k2, hb10, k3, k4, k5, k6⟩
  have V10 := Lib.hid (step_made P9.out NF.lt C9.out k1 k2 hb10 k3 k4 k5 k6)
  have C10 := Lib.hid (C9.out.trans (hb10.mono C9.out.size))
  have hb11 : Below w10.heap.size w10 (w10.alloc (.cells #[writeV bl2 bd2, flushV g] 156)) := (Below.refl _ _).alloc (Nat.le_refl _) _
  have C11 := Lib.hid (C10.out.alloc C10.out.size (.cells #[writeV bl2 bd2, flushV g] 156))
  have V11 := Lib.hid (step_below V10.out hb11 (Nat.le_refl _))
  have S11 := Lib.hid (step_below S7.out C11.out Z57.out)
  have R11 := Lib.hid (R7.out.below C11.out)
  clear k1 k2 hb10 k3 k4 k5 k6 P9 hb11 V10 S7 R7
  go_wp2_with (first
    | (refine wpList_buildSliceV rfl 195 2 _ rfl #[(0, writeV bl2 bd2), (1, flushV g)] (by simp [go_sem, writeV, flushV]) _ _ (built_steps [writeV bl2 bd2, flushV g] (by simp [flushV_cells, writeV_cells]) (by simp) (by simp) _ rfl 2 rfl _) ?_)
    | (at_builtin; refine wpList_append_recs (f := oneC) rfl _ _ 195 rfl 156 i0 .nilFunc 1 8 Tryz.underlying195 hi hz0 hz1 hz2 rfl (by omega) (.slice (some ⟨vb, 0, none⟩) 2 c7) [writeV bl1 bd1, flushV g] rfl R11.out ⟨w10.heap.size, 0, none⟩ 2 2 [writeV bl2 bd2, flushV g] rfl rfl (fun y hy => rfl) (fun y hy => func_one y (by simpa using hy)) (two_news (heap_alloc_new w10 _)) (by unfold maxLen; simp) (by simp) ?_; intro v12 w12 hr12 hg12 hv12))
  obtain ⟨a12, c12, rfl, _, _⟩ := hr12.form
  have hw7 := HVB.out
  have hrow : ∀ k, (Value.slice (some ⟨vb, 0, none⟩) 2 c7).ownBlock = some k → k = vb := fun k hk => by simp [Value.ownBlock] at hk; exact hk.symm
  have B12 := Lib.hid (show Below w.heap.size w w12 from (B7.out.trans (C11.out.mono B7.out.size)).grown hg12 (Nat.le_trans B7.out.size C11.out.size) (fun k hk => by rw [hrow k hk]; have := B5.out.size; omega))
  have hz12 : w10.heap.size + 1 ≤ w12.heap.size := by simpa using hg12.size
  have hz7 := C10.out.size
  have hz5 := Z57.out
  have hw5 := B5.out.size
  have V12 := step_widen (w0 := w) (step_grown V11.out hg12 (by simp) (fun k hk => .inl (by rw [hrow k hk]; exact hw7.2))) (by omega) (by omega)
  have S12 := step_widen (w0 := w) (step_grown S11.out hg12 (by simp; omega) (fun k hk => .inr (by rw [hrow k hk]; exact hw7.1))) (Nat.le_refl _) (by omega)
  have hown : ∀ p, a12 = some p → NU NF w w12 p.block := fun p hp => by
    subst hp
    have hlt := hr12.lt p.block rfl
    rcases hv12 with h1 | h1
    · exact .inr ⟨by rw [hrow p.block h1.symm]; omega, hlt⟩
    · simp only [Value.ownBlock, Option.some.injEq] at h1
      exact .inr ⟨by rw [h1]; simp; omega, hlt⟩
  have CR := Lib.hid (run_any g D S (NU NF w w12) a12 4 c12 [.write A, .flush, .write [(0, sec 0)], .flush] w12 (HD.out.below B12.out) (fun k hk hS => hk.elim id fun h => by have := HD.out.lt k hS; omega)
    (steps_of_recs hr12 (NU.lt NF.lt B12.out) hown rfl (fun k hk => by
      match k, hk with
      | 0, _ => exact S12
      | 1, _ => exact rfl
      | 2, _ => exact V12
      | 3, _ => exact rfl)) (by omega) (by have := HCO.out; omega))
  rw [HRR.out] at CR
  clear hr12 hg12 hv12 V12 S12 hown hi hz0 hz1 hz2 V11 S11 R11 C11 C10 C9 B7 B5 B4 hw7 hrow hz12 hz7 hz5 hw5 HVB Z57
  simp only [List.cons_append, List.nil_append, List.length_cons, List.length_nil, Nat.zero_add, Nat.reduceAdd]
  dsimp only at CR
  by_cases h0 : r1 = 0
  · subst h0
    obtain rfl : N = (A.length : Int) := by simpa using HN.out.symm
    clear HN
    go_wp2_with fail
    refine (CR.out).mono ?_
    rintro e w13 ⟨rfl, S13, hd13, ho13, hs13⟩
    go_wp2
    go_ret2
    exact ⟨rfl, S13, hd13, (Only.of_below B12.out).trans ho13 (fun _ _ h => h), fun k hk => (hs13 k hk).imp_right fun h => Nat.le_trans B12.out.size h⟩
  · have hb0 : (r1 == 0) = false := by simpa using h0
    have hb1 : (r1 != 0) = true := by simpa using h0
    obtain rfl : N = 0 := by simpa [h0] using HN.out.symm
    clear h0 HN
    go_wp2_with fail
    refine (CR.out).mono ?_
    rintro e w13 ⟨rfl, S13, hd13, ho13, hs13⟩
    go_wp2
    go_ret2
    exact ⟨rfl, S13, hd13, (Only.of_below B12.out).trans ho13 (fun _ _ h => h), fun k hk => (hs13 k hk).imp_right fun h => Nat.le_trans B12.out.size h⟩

theorem recover_any (g : Nat) (D : Dk) (S : Nat → Prop) (w : World) (h : DiskAt w S g D) (hf : D.waits.length ≤ 1073741000) :
    Calls Tryz.prog 78 #[.pointer (some ⟨g, 0, none⟩)] w (RecTo S g (recoverOf D) w) := by
  by_cases hs : 41 < D.secs.length
  · cases hp : D.power with
    | false => exact recover_off g D S w h hs hp
    | true =>
      by_cases hc : D.content 0 = sec 0
      · exact recover_none g D S w h hs hp hc
      · by_cases hA : begunL (rowsL D) D.secs.length = []
        · exact recover_nil g D S w h hs hp hc hA hf
        · exact recover_puts g D S w h hs hp hc hA hf
  · exact recover_small g D S w h hs

end Go.Proofs.YtjcmphjjkeigjaaGreat

namespace Go.Proofs.YtjcmphjjkeigjaaGreat
open Go.RowKit
set_option linter.unusedVariables false
set_option linter.unusedSimpArgs false
set_option maxRecDepth 100000

theorem wrOf_power (D : Dk) (i : Int) (m : Nat) (l : List UInt8) (hp : D.power = true) (h : (wrOf D i m l).1 = 0) : (wrOf D i m l).2.power = true := by
  unfold wrOf at h ⊢
  split
  · exact hp
  · rename_i h1
    rw [if_neg h1] at h
    split
    · exact hp
    · rename_i h2
      rw [if_neg h2] at h
      split
      · exact hp
      · rename_i h3
        rw [if_neg h3] at h
        simp at h
theorem flOf_power (D : Dk) (hp : D.power = true) (h : (flOf D).1 = 0) : (flOf D).2.power = true := by
  unfold flOf at h ⊢
  split
  · exact hp
  · rename_i h3
    rw [if_neg h3] at h
    simp at h
theorem wrsOf_power : ∀ (L : List Pt) (D : Dk), D.power = true → (wrsOf D L).1 = 0 → (wrsOf D L).2.power = true
  | [], D, hp, _ => hp
  | p :: L, D, hp, h => by
    unfold wrsOf at h ⊢
    split
    · rename_i h1
      rw [if_pos h1] at h
      exact wrsOf_power L _ (wrOf_power D _ _ _ hp h1) h
    · rename_i h1
      rw [if_neg h1] at h
      exact absurd h h1
theorem play_power (s : Stp) (D : Dk) (hp : D.power = true) (h : (s.play D).1 = 0) : (s.play D).2.power = true := by
  cases s with
  | flush => exact flOf_power D hp h
  | write L => exact wrsOf_power L D hp h
theorem plays_power : ∀ (r : List Stp) (D : Dk), D.power = true → (plays r D).1 = 0 → (plays r D).2.power = true
  | [], D, hp, _ => hp
  | s :: r, D, hp, h => by
    unfold plays at h ⊢
    split
    · rename_i h1
      rw [if_pos h1] at h
      exact plays_power r _ (play_power s D hp h1) h
    · rename_i h1
      rw [if_neg h1] at h
      exact absurd h h1
theorem recoverOf_power (D : Dk) (h : (recoverOf D).2.1 = 0) : (recoverOf D).2.2.power = true := by
  unfold recoverOf at h ⊢
  split
  · rename_i h1; rw [if_pos h1] at h; simp at h
  · rename_i h1
    rw [if_neg h1] at h
    split
    · rename_i h2; rw [if_pos h2] at h; simp at h
    · rename_i h2
      rw [if_neg h2] at h
      have hp : D.power = true := by simpa using h2
      split
      · exact hp
      · rename_i h3
        rw [if_neg h3] at h
        exact plays_power _ D hp h

theorem insL_end (l : List Spt) (s : Spt) (h : ∀ x ∈ l, x.key < s.key) : insL l s = l ++ [s] := by
  unfold insL
  rw [List.filter_eq_self.2 fun x hx => by simpa using h x hx, List.filter_eq_nil_iff.2 fun x hx => by have := h x hx; simp; omega]
theorem loads_none (D : Dk) : ∀ l : List (Nat × Nat), loadsOf D none l = none
  | [] => rfl
  | p :: l => loads_none D l
theorem loads_take (D : Dk) (s : Option (List Spt × List Bool)) (l : List (Nat × Nat)) (k : Nat) (p : Nat × Nat) (h : l[k]? = some p) : loadsOf D s (l.take (k + 1)) = loadsStep D (loadsOf D s (l.take k)) p := by
  rw [List.take_add_one, h]
  unfold loadsOf
  rw [Option.toList_some, List.foldl_append]
  rfl
theorem loads_stop (D : Dk) (s : Option (List Spt × List Bool)) (l : List (Nat × Nat)) (k : Nat) (h : loadsOf D s (l.take k) = none) : loadsOf D s l = none := by
  have : loadsOf D s l = loadsOf D (loadsOf D s (l.take k)) (l.drop k) := by
    unfold loadsOf
    rw [← List.foldl_append, List.take_append_drop]
  rw [this, h, loads_none]
theorem allR_some {P : List (List UInt8)} {l : List (Nat × Nat)} (h : allR P = some l) : mayL l = true ∧ FitsT 1 l := by
  unfold allR at h
  split at h
  · rename_i hc
    simp only [Option.some.injEq] at h
    subst h
    exact ⟨hc.2.1, leaf_fits P fun b hb => List.all_eq_true.1 hc.1 b hb⟩
  · cases h
theorem loadDirG_all {D : Dk} {F F' : List Bool} {dir : List Nat} {l : List (Nat × Nat)} (h : loadDirG D F = some (dir, F', l)) : mayL l = true ∧ FitsT 1 l := by
  unfold loadDirG at h
  split at h
  · cases h
  · split at h
    · cases h
    · split at h
      · cases h
      · rename_i hl
        simp only [Option.some.injEq, Prod.mk.injEq] at h
        obtain ⟨_, _, rfl⟩ := h
        exact allR_some hl
theorem loadBlob_key {D : Dk} {F F' : List Bool} {p : Nat × Nat} {s : Spt} (h : loadBlob D F p = some (s, F')) : s.key = p.1 := by
  unfold loadBlob at h
  split at h
  · cases h
  · split at h
    · cases h
    · split at h
      · cases h
      · simp only [Option.some.injEq, Prod.mk.injEq] at h
        rw [← h.1]

def OpenTo (x : Int × Option Ht × Dk) (S : Nat → Prop) (gd : Nat) (w : World) (e : Ending) (w' : World) : Prop :=
  ∃ S' : Nat → Prop, Only S w w' ∧ (∀ k, S' k → S k ∨ w.heap.size ≤ k) ∧
    ((x.2.1 = none ∧ e = .returned (.tuple #[.pointer none, .int .i64 x.1]) ∧ DiskAt w' S' gd x.2.2) ∨
      ∃ h g U, x.2.1 = some h ∧ e = .returned (.tuple #[.pointer (some ⟨g, 0, none⟩), .int .i64 x.1]) ∧ HotAt w' S' U g gd x.2.2 h ∧ w.heap.size ≤ g ∧ ∀ q, U q → w.heap.size ≤ q)

set_option maxHeartbeats 4000000 in
theorem open_any (gd : Nat) (D : Dk) (S : Nat → Prop) (w : World) (k : DiskAt w S gd D) (hf : D.waits.length ≤ 1073741000) :
    Calls Tryz.prog 30 #[.pointer (some ⟨gd, 0, none⟩)] w (OpenTo (openOf D) S gd w) := by
  have CZ := Lib.hid (size_any gd D S w k)
  have CR := Lib.hid (recover_any gd D S w k hf)
  obtain ⟨x, hx⟩ : ∃ x, x = openOf D := ⟨_, rfl⟩
  have hx2 := hx
  unfold openOf at hx2
  have HX := Lib.hid hx2
  have HPW := Lib.hid (recoverOf_power D)
  have HLN := Lib.hid (recoverOf_len D)
  rw [← hx]
  have HK := Lib.hid k
  clear k hx hx2
  unfold RecTo at CR
  generalize recoverOf D = r at *
  obtain ⟨rn, re, D1⟩ := r
  dsimp only at HX HPW HLN CR
  go_enter Tryz.func30, Tryz.ntmps30
  go_wp2_with fail
  refine CZ.out.mono ?_
  rintro e w1 ⟨rfl, rfl⟩
  by_cases hs : D.secs.length < 44
  · have hsi : (D.secs.length : Int) < 44 := by omega
    have hh := HX.out
    rw [if_pos hs] at hh
    subst hh
    clear HX hs
    go_wp2
    go_ret2
    exact ⟨S, Only.refl _ _, fun _ h => .inl h, .inl ⟨rfl, rfl, HK.out⟩⟩
  · have hsi : ¬ (D.secs.length : Int) < 44 := by omega
    have hh := HX.out
    rw [if_neg hs] at hh
    have HX := Lib.hid hh
    have HS44 := Lib.hid hs
    clear hh hs
    go_wp2_with fail
    refine CR.out.mono ?_
    rintro e w1 ⟨rfl, S1, hD1, hO1, hS1⟩
    have HD1 := Lib.hid hD1
    have HO1 := Lib.hid hO1
    have HS1 := Lib.hid hS1
    clear hD1 hO1 hS1 CR CZ
    by_cases hre : re = 0
    · subst hre
      have hh := HX.out
      rw [if_neg (by simp)] at hh
      have HX := Lib.hid hh
      have hpw : D1.power = true := HPW.out rfl
      have hn1 : D1.secs.length = D.secs.length := HLN.out
      have CB := Lib.hid (blank_any gd D1 S1 w1 HD1.out (by have := HS44.out; omega))
      clear hh
      go_wp2_with fail
      refine CB.out.mono ?_
      rintro e w2 ⟨g, U, rfl, hA2, hb2, hg2, hU2⟩
      have CL := Lib.hid (loadDir_any hA2 hpw)
      rw [show (blankH (D1.secs.length - 42)).used = List.replicate (D1.secs.length - 42) false from rfl, ← loadDir_is] at CL
      have HAL := Lib.hid (fun F' dir l => loadDirG_all (D := D1) (F := List.replicate (D1.secs.length - 42) false) (F' := F') (dir := dir) (l := l))
      rw [← loadDir_is] at HAL
      have HA2 := Lib.hid hA2
      have HB2 := Lib.hid hb2
      have HG2 := Lib.hid hg2
      have HU2 := Lib.hid hU2
      have hO2 : Only S w w2 := HO1.out.trans (Only.of_below (S := S) hb2) fun _ _ e => e
      have HO2 := Lib.hid hO2
      unfold loadOf at HX
      generalize loadDir D1 = T at *
      clear hA2 hb2 hg2 hU2 hO2 CB
      go_wp2_with fail
      refine CL.out.mono ?_
      rintro e w3 (⟨hT, ⟨v, rfl⟩, hO3⟩ | ⟨dir, F, l, v, U3, hT, rfl, hA3, hrc, hO3, hU3, hv3⟩)
      · have hh := HX.out
        rw [hT] at hh
        dsimp only at hh
        subst hh
        have HD3 := Lib.hid (HA2.out.disk.only hO3 fun q hq e => e.elim (fun e => HA2.out.offS (e ▸ hq)) fun e => HA2.out.apart q e hq)
        have HO3 := Lib.hid (HO2.out.trans hO3 fun q hq e => by
          have h1 := HG2.out
          have h2 := HO1.out.size
          rcases e with rfl | e
          · omega
          · have := HU2.out q e; omega)
        clear HX CL hO3
        go_wp2
        go_ret2
        exact ⟨S1, HO3.out, HS1.out, .inl ⟨rfl, rfl, HD3.out⟩⟩
      · obtain ⟨hmay, hfit⟩ := HAL.out F dir l hT
        obtain ⟨hasc, h600⟩ := mayL_asc hmay
        have hh := HX.out
        rw [hT] at hh
        dsimp only at hh
        have HX := Lib.hid hh
        have HFIT := Lib.hid hfit
        have HASC := Lib.hid hasc
        have hgs := HG2.out
        have h1s := HO1.out.size
        have h2s := HB2.out.size
        have HO3 := Lib.hid (HO2.out.trans hO3 fun q hq e => by
          rcases e with rfl | e
          · omega
          · have := HU2.out q e; omega)
        have HU3 := Lib.hid (show ∀ q, U3 q → w.heap.size ≤ q from fun q hq => by
          rcases hU3 q hq with e | e
          · have := HU2.out q e; omega
          · omega)
        have HGW := Lib.hid (show w.heap.size ≤ g by omega)
        have hvg : ∀ q, v.ownBlock = some q → q ≠ g := fun q hq e => by have := (hv3 q hq).1; have := HA2.out.lt; omega
        have hvu : ∀ q, v.ownBlock = some q → ¬ U3 q := fun q hq => (hv3 q hq).2
        obtain ⟨a, c, rfl, _, _⟩ := hrc.form
        have HA3 := Lib.hid hA3
        have HRC := Lib.hid hrc
        have HVG := Lib.hid hvg
        have HVU := Lib.hid hvu
        clear hT hmay hfit hasc hh hO3 hU3 hv3 hA3 hrc hvg hvu hgs h1s h2s HAL CL HA2 HB2 HG2 HU2 HO2
        obtain ⟨n, hn⟩ : ∃ n, n = l.length := ⟨_, rfl⟩
        rw [← hn] at HVG HVU HRC ⊢
        have HN := Lib.hid hn
        have hn6 : n ≤ 600 := by omega
        clear hn h600
        go_wp2
        go_loopw [10, 33] (fun _ i wr => ∃ (k : Nat) (P : List Spt) (F' : List Bool) (U' : Nat → Prop), i = .int .i64 k ∧ k ≤ n ∧ loadsOf D1 (some ([], F)) (l.take k) = some (P, F') ∧ P.map (·.key) = (l.take k).map (·.1) ∧ HotAt wr S1 U' g gd D1 ⟨P, dir, F'⟩ ∧ Recs pairC wr 114 2 (.slice a n c) l ∧
          (∀ q, (Value.slice a n c).ownBlock = some q → ¬ U' q) ∧ (∀ q, U' q → w.heap.size ≤ q) ∧ Only S w wr) (fun _ i _ => n - (intOf i).toNat)
        case atStart => exact ⟨0, [], F, U3, rfl, Nat.zero_le _, rfl, rfl, HA3.out, HRC.out, HVU.out, HU3.out, HO3.out⟩
        case round =>
          clear HA3 HRC HVU HU3 HO3
          obtain ⟨k, P, F', U', rfl, hk, hld, hkey, hA, hrc, hvu, hU, hO⟩ := hrel
          have HLD := Lib.hid hld
          have HKEY := Lib.hid hkey
          have HA := Lib.hid hA
          have HRC := Lib.hid hrc
          have HVU := Lib.hid hvu
          have HU := Lib.hid hU
          have HO := Lib.hid hO
          clear hld hkey hA hrc hvu hU hO
          by_cases hlt : k < n
          · have hki : (k : Int) < (n : Int) := by omega
            have hcm := HRC.out.came
            obtain ⟨b, off, rfl, hbb, hc⟩ := PairsAt.cells hcm (by omega)
            obtain ⟨c0, c1, hrg⟩ := hc k hlt
            have hlk : l[k]? = some (l.getD k (0, 0)) := by rw [List.getD, List.getElem?_eq_getElem (by have := HN.out; omega)]; rfl
            have hp := HFIT.out _ (List.mem_of_getElem? hlk)
            have HTK := Lib.hid (loads_take D1 (some ([], F)) l k _ hlk)
            rw [HLD.out] at HTK
            have HSTOP := Lib.hid (loads_stop D1 (some ([], F)) l (k + 1))
            generalize hpp : l.getD k (0, 0) = p at *
            have HLK := Lib.hid hlk
            rw [← Nat.add_assoc] at c1
            clear hc hcm hlk hpp hrg
            have hbx : Below wr.heap.size wr (wr.alloc (.cells #[.int .u64 (p.1 : Nat), .int .u64 (p.2 : Nat)] 114)) := (Below.refl _ _).alloc (Nat.le_refl _) _
            have hPl : P.length = k := by
              have := congrArg List.length HKEY.out
              rw [List.length_map, List.length_map, List.length_take, ← HN.out] at this
              omega
            have CB := Lib.hid (loadBlob_any (HA.out.below hbx) hpw p hp.1 hp.2 (by show P.length < 100000; omega))
            have HBX := Lib.hid hbx
            dsimp only at CB
            have hst : loadsStep D1 (some (P, F')) p = match loadBlob D1 F' p with
              | none => none
              | some r => some (P ++ [r.1], r.2) := rfl
            rw [hst] at HTK
            have HKY := Lib.hid (fun s F'' => loadBlob_key (D := D1) (F := F') (F' := F'') (p := p) (s := s))
            generalize loadBlob D1 F' p = T at *
            clear hbx hst hp
            go_wp2_with fail
            refine CB.out.mono ?_
            rintro e w4 (⟨hT, rfl, hb4⟩ | ⟨s, F'', hT, rfl, U'', hA4, hO4, hU4⟩)
            · have h1 := HTK.out
              rw [hT] at h1
              have h2 := HSTOP.out h1
              have hh := HX.out
              rw [h2] at hh
              dsimp only at hh
              subst hh
              have hbw : Below wr.heap.size wr w4 := HBX.out.trans (hb4.mono HBX.out.size)
              have HD4 := Lib.hid (HA.out.disk.below hbw)
              have HO4 := Lib.hid (HO.out.trans (Only.of_below (S := S) hbw) fun _ _ e => e)
              clear HX h1 h2 hT hb4 hbw CB
              go_wp2
              go_ret2
              exact ⟨S1, HO4.out, HS1.out, .inl ⟨rfl, rfl, HD4.out⟩⟩
            · have h1 := HTK.out
              rw [hT] at h1
              dsimp only at h1
              have hsk := HKY.out s F'' hT
              have hins : insL P s = P ++ [s] := insL_end P s fun y hy => by
                rw [hsk]
                have hy2 : y.key ∈ (l.take k).map (·.1) := by rw [← HKEY.out]; exact List.mem_map_of_mem hy
                obtain ⟨z, hz, hzk⟩ := List.mem_map.1 hy2
                rw [← hzk]
                obtain ⟨i, hi, rfl⟩ := List.mem_iff_getElem.1 hz
                rw [List.length_take] at hi
                have hpk : p = l[k]'(by have := HN.out; omega) := by
                  have := HLK.out
                  rw [List.getElem?_eq_getElem (by have := HN.out; omega)] at this
                  exact (Option.some.inj this).symm
                rw [List.getElem_take, hpk]
                exact List.pairwise_iff_getElem.1 HASC.out i k _ _ (by omega)
              rw [hins] at hA4
              have hO4w : Only (fun q => q = g ∨ U' q) wr w4 := (Only.of_below HBX.out).trans hO4 fun _ _ e => e
              have hrc4 : Recs pairC w4 114 2 (.slice (some ⟨b, off, none⟩) n c) l := HRC.out.only hO4w fun q hq e => e.elim (fun e => HVG.out q hq e) fun e => HVU.out q hq e
              have hlt4 := HRC.out.lt
              have hbz := HBX.out.size
              have hvu4 : ∀ q, (Value.slice (some ⟨b, off, none⟩) n c).ownBlock = some q → ¬ U'' q := fun q hq e => by
                rcases hU4 q e with e | e
                · exact HVU.out q hq e
                · have := hlt4 q hq; omega
              have hs0 := HO.out.size
              have hu4 : ∀ q, U'' q → w.heap.size ≤ q := fun q e => by
                rcases hU4 q e with e | e
                · exact HU.out q e
                · omega
              have hO5 : Only S w w4 := HO.out.trans hO4w fun q hq e => by
                have := HGW.out
                rcases e with rfl | e
                · omega
                · have := HU.out q e; omega
              have hkey5 : (P ++ [s]).map (·.key) = (l.take (k + 1)).map (·.1) := by
                rw [List.map_append, HKEY.out, List.take_add_one, HLK.out, List.map_append, List.map_singleton, hsk]; rfl
              have H1 := Lib.hid h1
              have HA4 := Lib.hid hA4
              have HRC4 := Lib.hid hrc4
              have HVU4 := Lib.hid hvu4
              have HU4 := Lib.hid hu4
              have HO5 := Lib.hid hO5
              have HK5 := Lib.hid hkey5
              clear h1 hT hA4 hO4 hU4 hO4w hrc4 hvu4 hu4 hO5 hkey5 CB hlt4 hbz hs0 hins hsk
              go_wp2
              go_roundw
              case rel => exact ⟨k + 1, P ++ [s], F'', U'', by go_num, by omega, H1.out, HK5.out, HA4.out, HRC4.out, HVU4.out, HU4.out, HO5.out⟩
              case measure => simp only [intOf]; omega
          · obtain rfl : k = n := by omega
            have hki : ¬ (k : Int) < (k : Int) := by omega
            have hh := HX.out
            have hl := HLD.out
            rw [List.take_of_length_le (by rw [← HN.out]; exact Nat.le_refl _)] at hl
            rw [hl] at hh
            dsimp only at hh
            subst hh
            clear HX hl
            go_wp2
            go_ret2
            exact ⟨S1, HO.out, HS1.out, .inr ⟨_, g, U', rfl, rfl, HA.out, HGW.out, HU.out⟩⟩
    · have hh := HX.out
      rw [if_pos hre] at hh
      subst hh
      clear HX
      go_wp2
      go_ret2
      exact ⟨S1, HO1.out, HS1.out, .inl ⟨rfl, rfl, HD1.out⟩⟩

end Go.Proofs.YtjcmphjjkeigjaaGreat

namespace Go.Proofs.YtjcmphjjkeigjaaGreat
open Go.RowKit
set_option linter.unusedVariables false
set_option linter.unusedSimpArgs false
set_option maxRecDepth 100000

theorem hasL_atL (l : List Spt) (k : Nat) : hasL l k = (atL l k).isSome := by
  unfold hasL atL
  rw [Bool.eq_iff_iff]
  simp
def GetTo (r : Int × List UInt8) (w : World) (e : Ending) (w' : World) : Prop :=
  ∃ a n cap, e = .returned (.tuple #[.slice a n cap, .int .i64 r.1]) ∧ BytesAt w' a n cap r.2 ∧ Below w.heap.size w w' ∧ ∀ p, a = some p → w.heap.size ≤ p.block
def flatP (D : Dk) (l : List Nat) : List UInt8 := l.flatMap fun p => (D.content (42 + p)).drop 2
theorem flatP_len {D : Dk} (hk : D.Ok) : ∀ l : List Nat, (∀ p ∈ l, 42 + p < D.secs.length) → (flatP D l).length = 126 * l.length
  | [], _ => rfl
  | p :: l, h => by
    have := flatP_len hk l fun q hq => h q (List.mem_cons_of_mem _ hq)
    have h1 := hk.content (42 + p) (h p List.mem_cons_self)
    unfold flatP at this ⊢
    rw [List.flatMap_cons, List.length_append, List.length_drop, h1, this, List.length_cons]
    omega
theorem flatP_take (D : Dk) (l : List Nat) (j p : Nat) (h : l[j]? = some p) : flatP D (l.take (j + 1)) = flatP D (l.take j) ++ (D.content (42 + p)).drop 2 := by
  unfold flatP
  rw [List.take_add_one, h, List.flatMap_append]
  simp

theorem box_spot (u : World) (B : Nat) (a : Option Addr) (n c sz sm : Nat) (h : u.heap[B]? = some (.cells #[.slice a n c, .int .i64 (sz : Nat), .int .u32 (sm : Nat)] 126 (0, 0))) :
    u.cell? ⟨B, 0, none⟩ = some (.slice a n c) ∧ u.cell? ⟨B, 1, none⟩ = some (.int .i64 (sz : Nat)) ∧ u.cell? ⟨B, 2, none⟩ = some (.int .u32 (sm : Nat)) :=
  ⟨by rw [cell_of_row u B 0 _ _ _ h]; rfl, by rw [cell_of_row u B 1 _ _ _ h]; rfl, by rw [cell_of_row u B 2 _ _ _ h]; rfl⟩

section
variable {w : World} {S U : Nat → Prop} {g gd : Nat} {D : Dk} {h : Ht}

set_option maxHeartbeats 4000000 in
theorem get_any (k : HotAt w S U g gd D h) (q : Nat) (hq : q < 18446744073709551616) (hs : ∀ s, atL h.at_ q = some s → s.pages.length = pfor s.data.length ∧ s.data.length ≤ 4032 ∧ ∀ p ∈ s.pages, p < h.used.length) :
    Calls Tryz.prog 16 #[.pointer (some ⟨g, 0, none⟩), .int .u64 q] w (GetTo (getOf D h q) w) := by
  obtain ⟨mb, da, dn, dc, ba, bn, bc, M, hg, hv⟩ := k.ex
  obtain ⟨c0, c1, c2, c3, c4, cf⟩ := hot_cells hg
  obtain ⟨fa, fn, fc, hl, _, hpg, _⟩ := hv.found q hq
  have HK := Lib.hid k
  have hok := k.disk.ok
  have hsz := k.size
  have CP := Lib.hid (fun u (hu : Below w.heap.size w u) => power_any gd D S u (k.disk.below hu))
  clear c2 c3 c4
  cases ha : atL h.at_ q with
  | none =>
    have hb : hasL h.at_ q = false := by rw [hasL_atL, ha]; rfl
    have hr : getOf D h q = (6, []) := by unfold getOf; rw [ha]
    rw [hr]
    rw [hb] at hl
    generalize lenAt h.at_ q = sz at *
    generalize sumAt h.at_ q = sm at *
    clear k hg hv hs hpg hr hb ha
    go_enter Tryz.func16, Tryz.ntmps16
    go_wp2
    go_ret2
    exact ⟨none, 0, 0, rfl, BytesAt.nil _, (Below.refl _ _).alloc (Nat.le_refl _) _, by simp⟩
  | some s =>
    have hb : hasL h.at_ q = true := by rw [hasL_atL, ha]; rfl
    have hr : getOf D h q = if D.power = false then (10, []) else if sumL (dataAt D s) = s.sum then (0, dataAt D s) else (9, []) := by unfold getOf; rw [ha]
    have hl1 : lenAt h.at_ q = s.data.length := by unfold lenAt; rw [ha]; rfl
    have hl2 : sumAt h.at_ q = s.sum := by unfold sumAt; rw [ha]; rfl
    have hl3 : pagesAt h.at_ q = s.pages := by unfold pagesAt; rw [ha]
    obtain ⟨h1, h2, h3⟩ := hs s ha
    rw [hb, hl1, hl2] at hl
    rw [hl3] at hpg
    have HR := Lib.hid hr
    obtain ⟨R, hR⟩ : ∃ R, R = getOf D h q := ⟨_, rfl⟩
    rw [← hR] at HR ⊢
    have hdat : dataAt D s = (flatP D s.pages).take s.data.length := rfl
    have hfl := flatP_len hok s.pages fun p hp => by have := h3 p hp; omega
    have HFL := Lib.hid hfl
    rw [hdat] at HR
    have HPG := Lib.hid hpg
    have HP3 := Lib.hid h3
    have H1 := Lib.hid h1
    have c0x : ∀ sz sm : Nat, (w.alloc (.cells #[.slice fa fn fc, .int .i64 (sz : Nat), .int .u32 (sm : Nat)] 126)).cell? ⟨g, 0, none⟩ = some (.pointer (some ⟨gd, 0, none⟩)) := fun sz sm =>
      (hot_cells ((((Below.refl w.heap.size w).alloc (Nat.le_refl _) _).block g k.lt).trans hg)).1
    generalize s.pages = pg at *
    generalize s.data.length = sz at *
    generalize s.sum = sm at *
    have c0y := c0x sz sm
    clear c0x
    have hfn : pg.length = fn := by have := hpg.1; unfold pagesI at this; rw [List.length_map] at this; exact this
    have HFN := Lib.hid hfn
    clear k hg hv hs hpg hr hb hl1 hl2 hl3 h3 hfl hdat hR h1 hfn ha
    cases hpw : D.power with
    | false =>
      have hh := HR.out
      rw [hpw, if_pos rfl] at hh
      subst hh
      go_enter Tryz.func16, Tryz.ntmps16
      have hbx : Below w.heap.size w (w.alloc (.cells #[.slice fa fn fc, .int .i64 (sz : Nat), .int .u32 (sm : Nat)] 126)) := (Below.refl _ _).alloc (Nat.le_refl _) _
      have CP1 := Lib.hid (CP.out _ hbx)
      rw [hpw] at CP1
      have HBX := Lib.hid hbx
      clear hbx
      go_wp2_with fail
      refine CP1.out.mono ?_
      rintro e w1 ⟨rfl, rfl⟩
      go_wp2
      go_ret2
      exact ⟨none, 0, 0, rfl, BytesAt.nil _, HBX.out, by simp⟩
    | true =>
      have hh := HR.out
      rw [hpw, if_neg (by simp)] at hh
      have HR := Lib.hid hh
      go_enter Tryz.func16, Tryz.ntmps16
      have hbx : Below w.heap.size w (w.alloc (.cells #[.slice fa fn fc, .int .i64 (sz : Nat), .int .u32 (sm : Nat)] 126)) := (Below.refl _ _).alloc (Nat.le_refl _) _
      have CP1 := Lib.hid (CP.out _ hbx)
      rw [hpw] at CP1
      have HBX := Lib.hid hbx
      clear hbx hh
      go_wp2_with fail
      refine CP1.out.mono ?_
      rintro e w1 ⟨rfl, rfl⟩
      clear c0 c1 cf c0y hl CP CP1
      have HBOX := Lib.hid (heap_alloc_new w (.cells #[.slice fa fn fc, .int .i64 (sz : Nat), .int .u32 (sm : Nat)] 126))
      obtain ⟨x0, _, _⟩ := box_spot _ _ _ _ _ _ _ HBOX.out
      have hwlt := (Array.getElem?_eq_some_iff.1 HBOX.out).1
      have hB1 : (w.alloc (.cells #[.slice fa fn fc, .int .i64 (sz : Nat), .int .u32 (sm : Nat)] 126)).heap.size = w.heap.size + 1 := by simp
      have HWL := Lib.hid hwlt
      have HKA := Lib.hid (HK.out.below HBX.out)
      have HPA := Lib.hid (CameAt.below HPG.out (by omega : 0 < 1) HBX.out)
      have HNIL := Lib.hid (World.ownsRow_nil (w.alloc (.cells #[.slice fa fn fc, .int .i64 (sz : Nat), .int .u32 (sm : Nat)] 126)) (w.heap.size + 1) 5 1)
      obtain ⟨B, hB⟩ : ∃ B, B = w.heap.size := ⟨_, rfl⟩
      have hBw : w.heap.size ≤ B := by omega
      clear hwlt
      generalize World.alloc w _ = w1 at *
      rw [← hB] at HBOX HWL x0 HNIL hB1 ⊢
      have HBW := Lib.hid hBw
      have HBX1 := Lib.hid hB1
      clear hB hBw hB1
      go_wp2
      go_loopw [8, 33] (fun o i wr => ∃ (j m cap : Nat) (a : Option Addr), i = .int .i64 (j : Nat) ∧ o = .slice a m cap ∧ m = 126 * j ∧ j ≤ fn ∧ wr.ownsRow (B + 1) 5 1 (.slice a m cap) m (vals (flatP D (pg.take j))) ∧ Below w1.heap.size w1 wr) (fun _ i _ => fn - (intOf i).toNat)
      case atStart => exact ⟨0, 0, 0, none, rfl, rfl, rfl, Nat.zero_le _, HNIL.out, Below.refl _ _⟩
      case round =>
        clear HNIL
        obtain ⟨j, m, cap, a, rfl, rfl, hm, hj, ho, hb⟩ := hrel
        have HO := Lib.hid ho
        have HB := Lib.hid hb
        have HM := Lib.hid hm
        have hfn32 : fn ≤ 32 := by
          have h1 := H1.out
          unfold pfor at h1
          have := HFN.out
          omega
        have hm5 : m ≤ 5000 := by omega
        clear ho hb hm
        by_cases hlt : j < fn
        · have hlti : (j : Int) < (fn : Int) := by omega
          obtain ⟨bd, off, rfl, hbd, hcd⟩ := IntsAt.cell (CameAt.below HPA.out (by omega) HB.out) (by omega)
          obtain ⟨p, hpd⟩ : ∃ p, pg[j]? = some p := ⟨_, List.getElem?_eq_getElem (by have := HFN.out; omega)⟩
          have hck := hcd j hlt
          rw [show (pagesI pg).getD j 0 = (p : Int) by unfold pagesI; rw [List.getD, List.getElem?_map, hpd]; rfl] at hck
          have hpF := HP3.out p (List.mem_of_getElem? hpd)
          have hpg2 : pageAt D h.used.length p = D.content (42 + p) := by unfold pageAt; rw [if_pos hpF]
          have hpl : (D.content (42 + p)).length = 128 := hok.content _ (by omega)
          have CR := Lib.hid (read7_any (HKA.out.below HB.out) p (by have := hok.many; omega) hpw)
          rw [hpg2, show decide (p < h.used.length) = true from decide_eq_true hpF] at CR
          have HTK := Lib.hid (flatP_take D pg j p hpd)
          have HPL := Lib.hid hpl
          generalize D.content (42 + p) = cn at *
          clear hcd hpd hpF hpg2 hpl
          go_wp2_with fail
          refine CR.out.mono ?_
          rintro e w4 ⟨ra, rm, rc, rfl, hrb, hb4, hfr⟩
          have hrm : rm = 128 := by rw [← hrb.1]; exact HPL.out
          subst hrm
          have hrc : 128 ≤ rc := hrb.2.1
          obtain ⟨b1, o1, rfl, _⟩ := hrb.at (by omega)
          have hct := BytesAt.cut (at_ := 2) (m := 126) hrb (by omega)
          rw [if_neg (by omega), List.take_of_length_le (by rw [List.length_drop, HPL.out]; exact Nat.le_refl _)] at hct
          have HCT := Lib.hid (show BytesAt w4 (some ⟨b1, o1 + 2, none⟩) 126 (rc - 2) (cn.drop 2) from hct)
          have HB4 := Lib.hid (HB.out.trans (hb4.mono HB.out.size))
          have HO4 := Lib.hid (owned_below HO.out hb4)
          have hbs : B + 1 ≤ w4.heap.size := by have := HB4.out.size; have := HWL.out; omega
          have HBS := Lib.hid hbs
          clear hrb hb4 hfr CR hct hbs
          go_wp2_with (at_builtin; refine wpList_append_bytes rfl (.tmp 43) (.tmp 45) rfl (B + 1) _ m _ rfl HO4.out (some ⟨b1, o1 + 2, none⟩) 126 (rc - 2) (cn.drop 2) rfl HCT.out (m + 126) rfl (by omega) HBS.out ?_; intro a5 c5 w5 ho5 hg5)
          have hon : Only (fun q => (Value.slice a m cap).ownBlock = some q) w4 w5 := Only.of_grown hg5 fun q e => e
          have hbl : Below w1.heap.size w1 w5 := HB4.out.trans (hon.below HB4.out.size fun q hq e => by have := (HO4.out.lt q e).1; have := HWL.out; have := HBX1.out; omega)
          exact ⟨⟨j + 1, m + 126, c5, a5, by go_num, rfl, by have := HM.out; omega, by omega, by rw [HTK.out]; simpa [vals] using ho5, hbl⟩, by simp only [intOf]; omega⟩
        · obtain rfl : j = fn := by omega
          have hlti : ¬ (j : Int) < (j : Int) := by omega
          have hX := HO.out
          rw [List.take_of_length_le (by rw [HFN.out]; exact Nat.le_refl _)] at hX
          have hszm : sz ≤ m := by
            have h1 := H1.out
            unfold pfor at h1
            have := HFN.out
            have := HM.out
            omega
          obtain ⟨x0', x1', x2'⟩ := box_spot _ _ _ _ _ _ _ ((HB.out.block B HWL.out).trans HBOX.out)
          have hmc : m ≤ cap := by have := (BytesAt.owned hX).2.1; exact this
          have HX := Lib.hid hX
          have CS := Lib.hid (fun u (hu : Below wr.heap.size wr u) => sum_any a sz cap _ u (((BytesAt.owned HX.out).head hszm).below hu))
          have HBX2 := Lib.hid ((HB.out.block B HWL.out).trans HBOX.out)
          clear hX
          generalize hdd : (flatP D pg).take sz = dd at *
          go_upto_region 14 with (fail)
          refine region_head 5 [0, 2, 3, 1, 4] [1] (fun u => u.cell? ⟨B, 2, none⟩ = some (.int .u32 (sm : Nat))) (by kernel_rfl) (by kernel_rfl) (show wr.drew.cell? ⟨B, 2, none⟩ = _ from x2') ?_
          simp only [pickO, List.filterMap_cons, List.filterMap_nil, List.getElem?_cons_zero, List.getElem?_cons_succ, Option.map_some, List.drop_succ_cons, List.drop_zero]
          iterate 3
            refine seqH_read _ rfl rfl (by rintro u hu; go_simp; with_reducible rfl) ?_
            try simp only [Act.put, List.setIfInBounds_toArray, List.set_cons_zero, List.set_cons_succ]
          refine seqH_move rfl rfl (fun Kk hK => ?_)
          go_simp
          have hdr : Below wr.heap.size wr wr.drew := (Below.refl _ _).drew
          refine (CS.out wr.drew hdr).mono ?_
          rintro e w6 ⟨rfl, hb6⟩
          have hb6' : Below wr.heap.size wr w6 := hdr.trans hb6
          have hB6 : B < wr.heap.size := (Array.getElem?_eq_some_iff.1 HBX2.out).1
          refine hK _ _ (box_spot _ _ _ _ _ _ _ ((hb6'.block B hB6).trans HBX2.out)).2.2 ?_
          clear hK Kk
          try simp only [Act.put, List.setIfInBounds_toArray, List.set_cons_zero, List.set_cons_succ]
          refine seqH_read _ rfl rfl (by rintro u hu; go_simp; with_reducible rfl) ?_
          try simp only [Act.put, List.setIfInBounds_toArray, List.set_cons_zero, List.set_cons_succ]
          refine seqH_nil ?_
          have HRES := Lib.hid (((BytesAt.owned HX.out).head hszm).below hb6')
          rw [hdd] at HRES
          have HBF := Lib.hid (HBX.out.trans ((HB.out.trans (hb6'.mono HB.out.size)).mono (Nat.le_trans HBW.out (Nat.le_of_lt HWL.out))))
          clear CS hb6 hb6' hdr hdd x0' x1' x2'
          have hh := HR.out
          by_cases hsum : sumL dd = sm
          · rw [if_pos hsum] at hh
            have hsi : (sumL dd : Int) = (sm : Int) := by omega
            rw [hsi]
            subst hh
            go_wp2
            go_ret2
            exact ⟨a, sz, cap, rfl, HRES.out, HBF.out, fun p hp => by have := (HX.out.lt p.block (by rw [hp]; rfl)).1; have := HBW.out; omega⟩
          · rw [if_neg hsum] at hh
            have hsi : ¬ (sumL dd : Int) = (sm : Int) := by omega
            subst hh
            go_wp2
            go_ret2
            exact ⟨none, 0, 0, rfl, BytesAt.nil _, HBF.out, by simp⟩
end

end Go.Proofs.YtjcmphjjkeigjaaGreat

namespace Go.Proofs.YtjcmphjjkeigjaaGreat
open Go.RowKit
set_option linter.unusedVariables false
set_option linter.unusedSimpArgs false
set_option maxRecDepth 100000

structure ChgM where
  c : Chg
  a : Option Addr
  n : Nat
  cap : Nat
deriving Inhabited
def chgC (x : ChgM) : List Value := [.int .u64 (x.c.id : Nat), .slice x.a x.n x.cap, .bool x.c.gone]
/-- a slice of changes: all that it has lies in U -/
structure ChgsIn (w : World) (U : Nat → Prop) (a : Option Addr) (n cap : Nat) (M : List ChgM) : Prop where
  came : CameAt chgC 3 w a n cap M
  lt : ∀ k, U k → k < w.heap.size
  inA : ∀ p, a = some p → U p.block
  bytes : ∀ x ∈ M, BytesAt w x.a x.n x.cap x.c.data
  inB : ∀ x ∈ M, ∀ p, x.a = some p → U p.block
  id : ∀ x ∈ M, x.c.id < 18446744073709551616

section
variable {w w' : World} {U S : Nat → Prop} {a : Option Addr} {n cap : Nat} {M : List ChgM}
theorem ChgsIn.keep (h : ChgsIn w U a n cap M) (hs : w.heap.size ≤ w'.heap.size) (hk : ∀ k, U k → w'.heap[k]? = w.heap[k]?) : ChgsIn w' U a n cap M :=
  ⟨h.came.keep (by omega) fun p hp _ _ => hk _ (h.inA p hp), fun k hU => Nat.lt_of_lt_of_le (h.lt k hU) hs, h.inA, fun x hx => (h.bytes x hx).keepB fun p hp => hk _ (h.inB x hx p hp), h.inB, h.id⟩
theorem ChgsIn.only (h : ChgsIn w U a n cap M) (ho : Only S w w') (hS : ∀ k, U k → ¬ S k) : ChgsIn w' U a n cap M := h.keep ho.size fun k hU => ho.block k (h.lt k hU) (hS k hU)
theorem ChgsIn.below (h : ChgsIn w U a n cap M) (hb : Below w.heap.size w w') : ChgsIn w' U a n cap M := h.keep hb.size fun k hU => hb.block k (h.lt k hU)
theorem ChgsIn.mlen (h : ChgsIn w U a n cap M) : M.length = n := h.came.1
theorem ChgsIn.len (h : ChgsIn w U a n cap M) : n ≤ maxLen := Nat.le_trans h.came.2.1 h.came.2.2.1
theorem ChgsIn.at (h : ChgsIn w U a n cap M) (hn : 0 < n) :
    ∃ b off, a = some ⟨b, off, none⟩ ∧ U b ∧ ∀ k, k < n → w.cell? ⟨b, off + k * 3, none⟩ = some (.int .u64 ((M.getD k default).c.id : Nat)) ∧ w.cell? ⟨b, off + k * 3 + 1, none⟩ = some (.slice (M.getD k default).a (M.getD k default).n (M.getD k default).cap) ∧
      w.cell? ⟨b, off + k * 3 + 2, none⟩ = some (.bool (M.getD k default).c.gone) := by
  obtain ⟨b, off, rfl, hb, hc⟩ := CameAt.at h.came hn (by omega)
  refine ⟨b, off, rfl, h.inA _ rfl, fun k hk => ?_⟩
  have hx : M[k]? = some (M.getD k default) := by rw [List.getD, List.getElem?_eq_getElem (by rw [h.mlen]; exact hk)]; rfl
  exact ⟨hc k 0 _ hx (by omega), by rw [Nat.add_assoc]; exact hc k 1 _ hx (by omega), by rw [Nat.add_assoc]; exact hc k 2 _ hx (by omega)⟩
theorem ChgsIn.mem (h : ChgsIn w U a n cap M) (k : Nat) (hk : k < n) : M.getD k default ∈ M := by
  have hl : k < M.length := by rw [h.mlen]; exact hk
  rw [List.getD, List.getElem?_eq_getElem hl]
  exact List.getElem_mem hl
end

theorem takeC_take (l : List Chg) (k : Nat) (c : Chg) (h : l[k]? = some c) : takeC (l.take (k + 1)) = takeC (l.take k) + pfor c.data.length := by
  unfold takeC
  rw [List.take_add_one, h, Option.toList_some, List.foldl_append]
  rfl
theorem countC_take (b : List Spt) (l : List Chg) (k : Nat) (c : Chg) (h : l[k]? = some c) : countC b (l.take (k + 1)) = if c.gone then countC b (l.take k) - 1 else if hasL b c.id then countC b (l.take k) else countC b (l.take k) + 1 := by
  unfold countC
  rw [List.take_add_one, h, Option.toList_some, List.foldl_append]
  rfl
theorem takeC_le (l : List Chg) (h : ∀ c ∈ l, c.data.length ≤ 4032) : ∀ k, takeC (l.take k) ≤ 32 * k
  | 0 => by simp [takeC]
  | k + 1 => by
    have ih := takeC_le l h k
    cases hk : l[k]? with
    | none => rw [List.take_add_one, hk]; simp only [Option.toList_none, List.append_nil]; omega
    | some c =>
      rw [takeC_take l k c hk]
      have := h c (List.mem_of_getElem? hk)
      unfold pfor; omega
theorem countC_le (b : List Spt) (l : List Chg) : ∀ k, countC b (l.take k) ≤ b.length + k ∧ (b.length : Int) - k ≤ countC b (l.take k)
  | 0 => by simp [countC]
  | k + 1 => by
    have ih := countC_le b l k
    cases hk : l[k]? with
    | none => rw [List.take_add_one, hk]; simp only [Option.toList_none, List.append_nil]; omega
    | some c =>
      rw [countC_take b l k c hk]
      split
      · omega
      · split <;> omega

def NeedsTo (r : Option Nat) (w : World) (e : Ending) (w' : World) : Prop :=
  e = .returned (.tuple #[.int .i64 ((r.getD 0 : Nat) : Int), .int .i64 (if r = none then 5 else 0)]) ∧ Below w.heap.size w w'

section
variable {w : World} {S U : Nat → Prop} {g gd : Nat} {D : Dk} {h : Ht}
set_option maxHeartbeats 4000000 in
theorem needs_any {V : Nat → Prop} {a : Option Addr} {n cap : Nat} {M : List ChgM} (k : HotAt w S U g gd D h) (hM : ChgsIn w V a n cap M) (hd : ∀ x ∈ M, x.c.data.length ≤ 4032) (hb : h.at_.length ≤ 1000000) (hn47 : n ≤ 1000000) (hc : 0 ≤ countC h.at_ (M.map (·.c))) :
    Calls Tryz.prog 94 #[.pointer (some ⟨g, 0, none⟩), .slice a n cap] w (NeedsTo (needsOf h.at_ (M.map (·.c))) w) := by
  obtain ⟨mb, da, dn, dc, ba, bn, bc, MM, hg, hv⟩ := k.ex
  obtain ⟨c0, c1, c2, c3, c4, cf⟩ := hot_cells hg
  have hml : (mapL MM).length = h.at_.length := by rw [← hv.eq]; simp [mapL]
  have hlr := hv.at_.len_run Tryz.underlying99
  rw [hml] at hlr
  have HK := Lib.hid k
  have HM := Lib.hid hM
  have HC := Lib.hid hc
  have HD := Lib.hid hd
  obtain ⟨r, hr⟩ : ∃ r, r = needsOf h.at_ (M.map (·.c)) := ⟨_, rfl⟩
  have hr2 := hr
  unfold needsOf at hr2
  have HR := Lib.hid hr2
  rw [← hr]
  have HML := Lib.hid (show (M.map (·.c)).length = n by rw [List.length_map]; exact hM.mlen)
  have HTL := Lib.hid (takeC_le (M.map (·.c)) fun c hc => by
    obtain ⟨x, hx, rfl⟩ := List.mem_map.1 hc
    exact hd x hx)
  have HCL := Lib.hid (countC_le h.at_ (M.map (·.c)))
  clear k hv hg hr hr2 hc hd hM hml c0 c2 c3 c4
  go_enter Tryz.func94, Tryz.ntmps94
  go_wp2
  go_loopw [6, 7, 17] (fun s6 s7 s17 wr => ∃ (k t : Nat) (z : Int), s17 = .int .i64 (k : Nat) ∧ k ≤ n ∧ s6 = .int .i64 (t : Nat) ∧ s7 = .int .i64 z ∧ t = takeC ((M.map (·.c)).take k) ∧ z = countC h.at_ ((M.map (·.c)).take k) ∧ Below w.heap.size w wr) (fun _ _ s17 _ => n - (intOf s17).toNat)
  case atStart => exact ⟨0, 0, (h.at_.length : Int), rfl, Nat.zero_le _, rfl, rfl, rfl, rfl, Below.refl _ _⟩
  case round =>
    obtain ⟨k, t, z, rfl, hk, rfl, rfl, ht, hz, hbl⟩ := hrel
    have htl : t ≤ 32 * k := by rw [ht]; exact HTL.out k
    have hzl : z ≤ h.at_.length + k ∧ (h.at_.length : Int) - k ≤ z := by rw [hz]; exact HCL.out k
    have HT := Lib.hid ht
    have HZ := Lib.hid hz
    have HB := Lib.hid hbl
    clear ht hz hbl
    by_cases hlt : k < n
    · have hlti : (k : Int) < (n : Int) := by omega
      have hlk : (M.map (·.c))[k]? = some (M.getD k default).c := by
        rw [List.getElem?_map, List.getD, List.getElem?_eq_getElem (by rw [HM.out.mlen]; exact hlt)]; rfl
      have HST := Lib.hid (takeC_take _ _ _ hlk)
      have HSC := Lib.hid (countC_take h.at_ _ _ _ hlk)
      rw [← HT.out] at HST
      rw [← HZ.out] at HSC
      obtain ⟨b, off, rfl, hub, hcs⟩ := (HM.out.below HB.out).at (by omega)
      obtain ⟨x0, x1, x2⟩ := hcs k hlt
      have hid := HM.out.id _ (HM.out.mem k hlt)
      have hdl := HD.out _ (HM.out.mem k hlt)
      have hdn := (HM.out.bytes _ (HM.out.mem k hlt)).1
      generalize M.getD k default = x at *
      obtain ⟨⟨id, dat, gone⟩, xa, xn, xc⟩ := x
      dsimp only at *
      subst hdn
      obtain ⟨dl, hdl2⟩ : ∃ dl, dl = dat.length := ⟨_, rfl⟩
      obtain ⟨pf, hpf⟩ : ∃ pf, pf = pfor dl := ⟨_, rfl⟩
      have hpfl : pf ≤ 32 := by rw [hpf]; unfold pfor; omega
      rw [← hdl2] at HST x1 hdl
      have PF := Lib.hid (fun u => hpagesFor_any dl u (by omega))
      rw [← hpf] at HST PF
      have HH := Lib.hid (fun u (hu : Below w.heap.size w u) => has7_any (HK.out.below hu) id hid)
      have HB2 := Lib.hid (HB.out.alloc HB.out.size (.cells #[.int .u64 (id : Nat), .slice xa dl xc, .bool gone] 76))
      generalize hasL h.at_ id = hs at *
      clear hcs hlk hpf hdl2
      go_wp2_with fail
      refine (PF.out _).mono ?_
      rintro e w2 ⟨rfl, rfl⟩
      cases gone with
      | true =>
        rw [if_pos rfl] at HSC
        go_wp2
        go_roundw
        case rel => exact ⟨k + 1, t + pf, z - 1, by go_num, by omega, by go_num, rfl, HST.out.symm, HSC.out.symm, HB2.out⟩
        case measure => simp only [intOf]; omega
      | false =>
        rw [if_neg (by simp)] at HSC
        have HH2 := Lib.hid (HH.out _ HB2.out)
        go_wp2_with fail
        refine HH2.out.mono ?_
        rintro e w3 ⟨rfl, hb3⟩
        have HB3 := Lib.hid (HB2.out.trans (hb3.mono HB2.out.size))
        clear hb3 HH2 HH
        cases hs with
        | true =>
          rw [if_pos rfl] at HSC
          go_wp2
          go_roundw
          case rel => exact ⟨k + 1, t + pf, z, by go_num, by omega, by go_num, rfl, HST.out.symm, HSC.out.symm, HB3.out⟩
          case measure => simp only [intOf]; omega
        | false =>
          rw [if_neg (by simp)] at HSC
          go_wp2
          go_roundw
          case rel => exact ⟨k + 1, t + pf, z + 1, by go_num, by omega, by go_num, rfl, HST.out.symm, HSC.out.symm, HB3.out⟩
          case measure => simp only [intOf]; omega
    · obtain rfl : k = n := by omega
      have hlti : ¬ (k : Int) < (k : Int) := by omega
      have ht := HT.out
      have hz := HZ.out
      rw [List.take_of_length_le (by rw [HML.out]; exact Nat.le_refl _)] at ht hz
      have hz0 : 0 ≤ z := by rw [hz]; exact HC.out
      have hh := HR.out
      rw [← ht, ← hz] at hh
      clear ht hz
      by_cases h6 : 600 < z
      · rw [if_pos h6] at hh
        subst hh
        go_wp2
        go_ret2
        exact ⟨rfl, HB.out⟩
      · rw [if_neg h6] at hh
        obtain ⟨zn, rfl⟩ := Int.eq_ofNat_of_zero_le hz0
        have CP := Lib.hid (pages_any zn wr (by omega))
        rw [Int.toNat_natCast] at hh
        have hpql := pagesN_le zn (by omega)
        generalize hpq : pagesN zn = pq at *
        have HH := Lib.hid hh
        clear hh hpq
        go_wp2_with fail
        refine CP.out.mono ?_
        rintro e w2 ⟨rfl, rfl⟩
        have hh := HH.out
        by_cases h40 : 40 < t + pq + 1
        · rw [if_pos h40] at hh
          subst hh
          have h40i : (40 : Int) < (t : Int) + (pq : Int) + 1 := by omega
          clear HH h40
          go_wp2
          go_ret2
          exact ⟨rfl, HB.out⟩
        · rw [if_neg h40] at hh
          subst hh
          have h40i : ¬ (40 : Int) < (t : Int) + (pq : Int) + 1 := by omega
          clear HH h40
          go_wp2
          go_ret2
          exact ⟨by simp, HB.out⟩
end

end Go.Proofs.YtjcmphjjkeigjaaGreat
