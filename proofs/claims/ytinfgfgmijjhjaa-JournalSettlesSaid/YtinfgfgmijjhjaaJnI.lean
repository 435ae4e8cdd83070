/-
  begun, Recover.
-/
import Derived.Test.YtinfgfgmijjhjaaJnG
namespace Go.Proofs.Ytinfgfgmijjhjaa
open Go.RowKit
set_option linter.unusedVariables false
set_option linter.unusedSimpArgs false

theorem CopiesTo.empty {U : Nat → Prop} {w w' : World} (hb : Below w.heap.size w w') : CopiesTo U [] w (.returned (.slice none 0 0)) w' :=
  ⟨fun _ => False, none, 0, 0, [], rfl, PutsIn.nil _ _ (by simp), rfl, hb, by simp⟩

def pickL (q : Bool) (A : List Pt) : List Pt := if q then A else []
theorem begunL_pick (L : List (List UInt8)) (size : Int) : begunL L size = pickL (mayB (namedL L) size && hdL (namedL L) == L.getD 0 []) (namedL L) := rfl
theorem pick_no (A : List Pt) : pickL false A = [] := rfl
theorem pick_yes (A : List Pt) : pickL true A = A := rfl

set_option maxHeartbeats 2000000 in
set_option maxRecDepth 100000 in
theorem begun_any (b : Nat) (R : List (Option Addr × Nat × Nat)) (L : List (List UInt8)) (size : Int) (w0 w : World) (h : RowsIn w0 w b R L 41) (hR : R.length = 41) (hL : (L.getD 0 []).length = 128) (hs : size ≤ 2048) :
    Calls Try.prog 52 #[.slice (some ⟨b, 0, none⟩) 41 41, .int .i64 size] w (CopiesTo (fun k => w0.heap.size ≤ k) (begunL L size) w) := by
  have CN := Lib.hid (named_any b R L w0 w h hR hL)
  have HCS := Lib.hid (fun u (hb : Below w.heap.size w u) => (h.carry hb).cell hR 0 (by omega))
  have HBY := Lib.hid (fun u (hb : Below w.heap.size w u) => (h.carry hb).bytes 0 (by omega))
  rw [begunL_pick]
  clear h hR hL
  generalize R.getD 0 (none, 0, 0) = r at *
  obtain ⟨ra, rm, rc⟩ := r
  dsimp only at HCS HBY
  generalize L.getD 0 [] = l0 at *
  have hz : (0 : Int) < 41 := by omega
  cases hm : mayB (namedL L) size with
  | false =>
    rw [Bool.false_and, pick_no]
    go_enter Try.func52, Try.ntmps52
    go_wp2_with fail
    refine (CN.out).mono ?_
    rintro e w1 ⟨U, a, n, cap, M, rfl, hp, hM, hb1, hU⟩
    have CV := Lib.hid (valid_any U a n cap M size w1.drew (hp.below ((Below.refl _ _).drew)))
    rw [hM, hm] at CV
    have HB1 := Lib.hid hb1
    clear hp hM hb1 hU hm CN
    go_wp2_with fail
    refine region_head 11 [0, 1, 2, 3, 4, 6, 7, 8, 5, 9, 10] [2, 5, 9] (fun u => True) (by kernel_rfl) (by kernel_rfl) trivial ?_
    simp only [pickO, List.append_eq, List.cons_append, List.nil_append, List.filterMap_cons, List.filterMap_nil, List.getElem?_cons_zero, List.getElem?_cons_succ, Option.map_some, List.drop_succ_cons, List.drop_zero]
    iterate 2
      refine seqH_readG _ rfl (by rfl) (by rintro u hu1; go_simp; with_reducible rfl) ?_
      try simp only [Act.put, List.setIfInBounds_toArray, List.set_cons_zero, List.set_cons_succ]
    refine seqH_moveG rfl (by rfl) (fun K hK => ?_)
    go_simp
    refine (CV.out).mono ?_
    rintro e w2 ⟨rfl, hb2⟩
    have HB2 := Lib.hid (HB1.out.trans (((Below.refl _ _).drew).trans (hb2.mono (by simp)) |>.mono HB1.out.size) : Below w.heap.size w w2)
    refine hK _ _ trivial ?_
    clear hK K hb2 CV
    try simp only [Act.put, List.setIfInBounds_toArray, List.set_cons_zero, List.set_cons_succ]
    refine seqH_readG _ rfl (by rfl) (by rintro u hu1; go_simp; with_reducible rfl) ?_
    try simp only [Act.put, List.setIfInBounds_toArray, List.set_cons_zero, List.set_cons_succ]
    iterate 4
      refine seqH_skip rfl (by rfl) ?_
      try simp only [Act.put, List.setIfInBounds_toArray, List.set_cons_zero, List.set_cons_succ]
    iterate 2
      refine seqH_moveSkip rfl (by rfl) trivial ?_
      try simp only [Act.put, List.setIfInBounds_toArray, List.set_cons_zero, List.set_cons_succ]
    refine seqH_readG _ rfl (by rfl) (by rintro u hu1; go_simp; with_reducible rfl) ?_
    try simp only [Act.put, List.setIfInBounds_toArray, List.set_cons_zero, List.set_cons_succ]
    refine seqH_nil ?_
    go_wp2
    go_ret
    exact CopiesTo.empty HB2.out
  | true =>
    obtain ⟨hfew, hat⟩ : (namedL L).length ≤ 40 ∧ ∀ x ∈ namedL L, 0 ≤ x.1 ∧ x.1 < 65536 := by
      have := (may_iff _ _).1 hm
      exact ⟨this.few, fun x hx => by have := this.at x hx; omega⟩
    rw [Bool.true_and]
    have hpk : ∀ q : Bool, pickL q (namedL L) = if q = true then namedL L else [] := fun q => rfl
    cases hq : (hdL (namedL L) == l0)
    case' false => rw [pick_no]
    case' true => rw [pick_yes]
    all_goals
      clear hpk
      have hq := Lib.hid hq
      go_enter Try.func52, Try.ntmps52
      go_wp2_with fail
      refine (CN.out).mono ?_
      rintro e w1 ⟨U, a, n, cap, M, rfl, hp, hM, hb1, hU⟩
      have CV := Lib.hid (valid_any U a n cap M size w1.drew (hp.below ((Below.refl _ _).drew)))
      rw [hM, hm] at CV
      have hn : n ≤ 40 := by rw [← hp.mlen, ← List.length_map (f := PutM.pt), hM]; exact hfew
      have CHD := Lib.hid (fun u (hb : Below w1.heap.size w1 u) => headof_any U a n cap M u (hp.below hb) hn (fun x hx => hat x.pt (by rw [← hM]; exact List.mem_map.2 ⟨x, hx, rfl⟩)))
      rw [hM] at CHD
      have HP := Lib.hid hp
      have HM := Lib.hid hM
      have HU := Lib.hid hU
      have HB1 := Lib.hid hb1
      have HCS1 := Lib.hid (fun u (hb : Below w1.heap.size w1 u) => HCS.out u (HB1.out.trans (hb.mono HB1.out.size)))
      have HBY1 := Lib.hid (fun u (hb : Below w1.heap.size w1 u) => HBY.out u (HB1.out.trans (hb.mono HB1.out.size)))
      clear hp hM hb1 hU hm CN hfew hat hn HCS HBY
      have hcs := HCS1.out w1.drew ((Below.refl _ _).drew)
      go_wp2_with fail
      refine region_head 11 [0, 1, 2, 3, 4, 6, 7, 8, 5, 9, 10] [2, 5, 9] (fun u => u.cell? ⟨b, 0, none⟩ = some (.slice ra rm rc)) (by kernel_rfl) (by kernel_rfl) hcs ?_
      clear hcs
      simp only [pickO, List.append_eq, List.cons_append, List.nil_append, List.filterMap_cons, List.filterMap_nil, List.getElem?_cons_zero, List.getElem?_cons_succ, Option.map_some, List.drop_succ_cons, List.drop_zero]
      iterate 2
        refine seqH_readG _ rfl (by rfl) (by rintro u hu1; go_simp; with_reducible rfl) ?_
        try simp only [Act.put, List.setIfInBounds_toArray, List.set_cons_zero, List.set_cons_succ]
      refine seqH_moveG rfl (by rfl) (fun K hK => ?_)
      go_simp
      refine (CV.out).mono ?_
      rintro e w2 ⟨rfl, hb2⟩
      have HB2 := Lib.hid (((Below.refl _ _).drew).trans (hb2.mono (by simp)) : Below w1.heap.size w1 w2)
      refine hK _ _ (HCS1.out _ HB2.out) ?_
      clear hK K hb2 CV
      try simp only [Act.put, List.setIfInBounds_toArray, List.set_cons_zero, List.set_cons_succ]
      iterate 5
        refine seqH_readG _ rfl (by rfl) (by rintro u hu1; go_simp; with_reducible rfl) ?_
        try simp only [Act.put, List.setIfInBounds_toArray, List.set_cons_zero, List.set_cons_succ]
      refine seqH_moveG rfl (by rfl) (fun K hK => ?_)
      go_simp
      refine (CHD.out _ HB2.out).mono ?_
      rintro e w3 ⟨a3, cap3, rfl, ho3, hb3⟩
      have HB3 := Lib.hid (HB2.out.trans (hb3.mono HB2.out.size))
      have CE := Lib.hid (equal_any a3 128 cap3 (hdL (namedL L)) ra rm rc l0 w3 (BytesAt.owned ho3) (HBY1.out _ HB3.out))
      rw [hq.out] at CE
      refine hK _ _ (HCS1.out _ HB3.out) ?_
      clear hK K hb3 CHD ho3
      dsimp only [id]
      try simp only [Act.put, List.setIfInBounds_toArray, List.set_cons_zero, List.set_cons_succ]
      refine seqH_moveG rfl (by rfl) (fun K hK => ?_)
      go_simp
      refine (CE.out).mono ?_
      rintro e w4 ⟨rfl, rfl⟩
      refine hK _ _ (HCS1.out _ HB3.out) ?_
      clear hK K CE
      try simp only [Act.put, List.setIfInBounds_toArray, List.set_cons_zero, List.set_cons_succ]
      refine seqH_readG _ rfl (by rfl) (by rintro u hu1; go_simp; with_reducible rfl) ?_
      try simp only [Act.put, List.setIfInBounds_toArray, List.set_cons_zero, List.set_cons_succ]
      refine seqH_nil ?_
      go_wp2
      go_ret
      first
        | exact CopiesTo.empty (HB1.out.trans (HB3.out.mono HB1.out.size))
        | exact ⟨U, a, n, cap, M, rfl, HP.out.below HB3.out, HM.out, HB1.out.trans (HB3.out.mono HB1.out.size), fun k hk => (HU.out k hk).imp_right id⟩

theorem recoverOf_small {D : Dk} (h : ¬ 41 < D.secs.length) : recoverOf D = (0, 1, D) := by unfold recoverOf; rw [if_pos h]
theorem recoverOf_off {D : Dk} (h : 41 < D.secs.length) (hp : D.power = false) : recoverOf D = (0, 10, D) := by unfold recoverOf; rw [if_neg (by omega), if_pos hp]
theorem recoverOf_none {D : Dk} (h : 41 < D.secs.length) (hp : D.power = true) (hc : D.content 0 = sec 0) : recoverOf D = (0, 0, D) := by unfold recoverOf; rw [if_neg (by omega), if_neg (by rw [hp]; simp), if_pos hc]
theorem recoverOf_some {D : Dk} (h : 41 < D.secs.length) (hp : D.power = true) (hc : D.content 0 ≠ sec 0) :
    recoverOf D = (if (plays (recR (begunL (rowsL D) D.secs.length)) D).1 = 0 then ((begunL (rowsL D) D.secs.length).length : Int) else 0, plays (recR (begunL (rowsL D) D.secs.length)) D) := by
  unfold recoverOf; rw [if_neg (by omega), if_neg (by rw [hp]; simp), if_neg hc]
theorem rowsL_head (D : Dk) : (rowsL D).getD 0 [] = D.content 0 := by simp [rowsL, List.getD]

def RecTo (S : Nat → Prop) (g : Nat) (x : Int × Int × Dk) (w : World) : Ending → World → Prop := DiskTo (.tuple #[.int .i64 x.1, .int .i64 x.2.1]) S g x.2.2 w

set_option maxHeartbeats 2000000 in
set_option maxRecDepth 100000 in
theorem recover_small (g : Nat) (D : Dk) (S : Nat → Prop) (w : World) (h : DiskAt w S g D) (hs : ¬ 41 < D.secs.length) :
    Calls Try.prog 16 #[.pointer (some ⟨g, 0, none⟩)] w (RecTo S g (recoverOf D) w) := by
  rw [recoverOf_small hs]
  have CH := Lib.hid (home_no g D S w h hs)
  have HD := Lib.hid h
  clear h hs
  go_enter Try.func16, Try.ntmps16
  go_wp2_with fail
  refine (CH.out).mono ?_
  rintro e w1 ⟨rfl, rfl⟩
  go_wp2
  go_ret2
  exact diskTo_same _ HD.out

set_option maxHeartbeats 2000000 in
set_option maxRecDepth 100000 in
theorem recover_off (g : Nat) (D : Dk) (S : Nat → Prop) (w : World) (h : DiskAt w S g D) (hs : 41 < D.secs.length) (hp : D.power = false) :
    Calls Try.prog 16 #[.pointer (some ⟨g, 0, none⟩)] w (RecTo S g (recoverOf D) w) := by
  rw [recoverOf_off hs hp]
  have CH := Lib.hid (home_yes g D S w h hs)
  have CR := Lib.hid (rows_off g D S w h hs hp)
  have HD := Lib.hid h
  clear h hs hp
  go_enter Try.func16, Try.ntmps16
  go_wp2_with fail
  refine (CH.out).mono ?_
  rintro e w1 ⟨rfl, rfl⟩
  go_wp2_with fail
  refine (CR.out).mono ?_
  rintro e w1 ⟨rfl, hb1⟩
  have HB1 := Lib.hid hb1
  clear hb1 CR CH
  go_wp2_with fail
  refine region_head 10 [0, 1, 2, 3, 4, 5, 6, 7, 8, 9] [6, 8] (fun u => True) (by kernel_rfl) (by kernel_rfl) trivial ?_
  simp only [pickO, List.append_eq, List.cons_append, List.nil_append, List.filterMap_cons, List.filterMap_nil, List.getElem?_cons_zero, List.getElem?_cons_succ, Option.map_some, List.drop_succ_cons, List.drop_zero]
  iterate 3
    refine seqH_readG _ rfl (by rfl) (by rintro u hu1; go_simp; with_reducible rfl) ?_
    try simp only [Act.put, List.setIfInBounds_toArray, List.set_cons_zero, List.set_cons_succ]
  iterate 3
    refine seqH_skip rfl (by rfl) ?_
    try simp only [Act.put, List.setIfInBounds_toArray, List.set_cons_zero, List.set_cons_succ]
  refine seqH_moveSkip rfl (by rfl) trivial ?_
  try simp only [Act.put, List.setIfInBounds_toArray, List.set_cons_zero, List.set_cons_succ]
  refine seqH_skip rfl (by rfl) ?_
  try simp only [Act.put, List.setIfInBounds_toArray, List.set_cons_zero, List.set_cons_succ]
  refine seqH_moveSkip rfl (by rfl) trivial ?_
  try simp only [Act.put, List.setIfInBounds_toArray, List.set_cons_zero, List.set_cons_succ]
  refine seqH_readG _ rfl (by rfl) (by rintro u hu1; go_simp; with_reducible rfl) ?_
  try simp only [Act.put, List.setIfInBounds_toArray, List.set_cons_zero, List.set_cons_succ]
  refine seqH_nil ?_
  go_wp2
  go_ret2
  exact ⟨rfl, S, HD.out.below (HB1.out.drew), Only.of_below HB1.out.drew, fun k hk => .inl hk⟩

end Go.Proofs.Ytinfgfgmijjhjaa
