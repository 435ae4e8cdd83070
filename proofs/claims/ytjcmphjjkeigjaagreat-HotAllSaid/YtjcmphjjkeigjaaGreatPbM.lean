/-
  A piece of the proof, laid together by program: HtM HtN HtO HtP HtQ HtR HtS HtU HtT.
-/
import Derived.Test.YtjcmphjjkeigjaaGreatPbB
import Derived.Test.YtjcmphjjkeigjaaGreatPbK
import Derived.Test.YtjcmphjjkeigjaaGreatPbL
import Derived.Shelf.SlMaps.Clone
import Derived.Deep.DeepCutAuto
import Derived.Deep.CutBlock

namespace Go.Proofs.YtjcmphjjkeigjaaGreat
open Go.RowKit
set_option linter.unusedVariables false
set_option linter.unusedSimpArgs false
set_option maxRecDepth 100000

theorem clonei_nil (w : World) : Calls Tryz.prog 139 #[.slice none 0 0] w fun e w' => e = .returned (.slice none 0 0) ∧ w = w' := by
  have hq := fun u : World => Lib.run_eql_slice_nil (P := Tryz.prog) u 78 3 none 0 0 0 0 Tryz.underlying78
  go_enter Tryz.func139, Tryz.ntmps139
  go_wp2
  go_ret
  exact ⟨rfl, rfl⟩

/-- numbers in memory of their own -/
def FreshZ (L : List Int) (w : World) (e : Ending) (w' : World) : Prop :=
  ∃ a cap, e = .returned (.slice a L.length cap) ∧ w'.ownsRow w.heap.size 3 1 (.slice a L.length cap) L.length (zvals L) ∧ Below w.heap.size w w'
theorem clonei_any (a : Option Addr) (n cap : Nat) (L : List Int) (w : World) (h : IntsAt w a n cap L) (hn : n ≤ 1048576) :
    Calls Tryz.prog 139 #[.slice a n cap] w (FreshZ L w) := by
  have hLn : L.length = n := h.1
  unfold FreshZ
  rw [hLn]
  cases a with
  | none =>
    rcases h.2.2.2.2 with ⟨_, rfl, rfl⟩ | ⟨x, hx, _⟩
    · refine (clonei_nil w).mono ?_
      rintro e w' ⟨rfl, rfl⟩
      have : L = [] := List.eq_nil_of_length_eq_zero hLn
      subst this
      exact ⟨none, 0, rfl, World.ownsRow_nil _ _ _ _, Below.refl _ _⟩
    · cases hx
  | some x =>
    have hq := fun u : World => Lib.run_eql_slice_nil (P := Tryz.prog) u 78 3 (some x) n cap 0 0 Tryz.underlying78
    have hbs := build_ints
    have hb0 : Below w.heap.size w (w.alloc (.cells #[] 3)) := (Below.refl _ _).alloc (Nat.le_refl _) _
    have HO := Lib.hid (show (w.alloc (.cells #[] 3)).ownsRow w.heap.size 3 1 (.slice (some ⟨w.heap.size, 0, none⟩) 0 0) 0 [] from ⟨rfl, .inr ⟨w.heap.size, 0, #[], rfl, Nat.le_refl _, heap_alloc_new w _, by omega, by unfold maxLen; omega, rfl, rfl⟩⟩)
    have HS := Lib.hid (show IntsAt (w.alloc (.cells #[] 3)) (some x) n cap L from CameAt.below h (by omega) hb0)
    clear h hLn
    go_enter Tryz.func139, Tryz.ntmps139
    go_wp2_with (at_builtin; refine wpList_append_intsG (by rfl) (.tmp 5) (.tmp 6) rfl w.heap.size (.slice (some ⟨w.heap.size, 0, none⟩) 0 0) 0 [] rfl HO.out (some x) n cap L rfl HS.out n (by omega) (by omega) hb0.size ?_; intro a3 cap3 w3 ho3 hg3)
    go_ret
    exact ⟨a3, cap3, rfl, by simpa using ho3, hb0.grown hg3 hb0.size (fun k hk => by simp [Value.ownBlock] at hk; omega)⟩

theorem wp_append_ints {w : World} {o : Oper} {a : Act} {K : Act → World → Prop} {Q : Exit → Act → World → Prop} (s x : Operand)
    (ho : o.op = .call { callee := .builtin .append, args := #[s, x], argTypes := #[78, 78] })
    (base : Nat) (v : Value) (n : Nat) (xs : List Value) (hs : a.eval s = v) (hown : w.ownsRow base 3 1 v n xs)
    (sa : Option Addr) (m c : Nat) (l : List Int) (hx : a.eval x = .slice sa m c) (hsrc : IntsAt w sa m c l) (N : Nat) (hN : N = n + m)
    (h63 : N * 8 ≤ 140737488355328) (hbase : base ≤ w.heap.size)
    (h : ∀ a' cap' w', w'.ownsRow base 3 1 (.slice a' N cap') N (xs ++ zvals l) → w.grownBy w' v.ownBlock → K (a.put o.dst (.slice a' N cap')) w') : Oper.wp Tryz.prog o a w K Q := by
  obtain ⟨i0, hi, hz0, hz1, hz2⟩ := info_parts infoIntS
  subst hN
  obtain ⟨h1, h2, h3, h5, h4⟩ := hsrc
  rcases h4 with ⟨rfl, rfl, rfl⟩ | ⟨ad, rfl, hc⟩
  · have : l = [] := List.eq_nil_of_length_eq_zero h1
    subst this
    have hrun := run_append_owned_none (P := Tryz.prog) (w := w) base 78 o.type 3 i0 1 Tryz.underlying78 hi v n xs hown
    unfold Oper.wp
    simp [execOp, ho, resolve, invoke, builtin, hs, hx, hrun, Result.andThen]
    rw [Oper.upon_value]
    obtain ⟨a', cap', rfl⟩ := owned_shape hown
    have := h a' cap' w (by simpa [zvals] using hown) (World.grownBy.refl _ _)
    simpa using this
  · subst h1
    refine wp_append_own w s x 78 ho base 3 i0 (.int .i64 0) 1 8 Tryz.underlying78 hi hz0 hz1 hz2 rfl (by decide) v n xs hs hown ad l.length c (zvals l) hx (by simp [zvals]) ?_ (zvals_one l) (by unfold maxLen; omega) (by omega) hbase ?_
    · intro j u hj
      have hj' : j < l.length := by
        have := (List.getElem?_eq_some_iff.1 hj).1
        simpa [zvals] using this
      have := hc j 0 l[j] (List.getElem?_eq_getElem hj') (by omega)
      rw [Nat.mul_one, Nat.add_zero] at this
      rw [this, ← hj]
      simp [intCS, zvals, List.getElem?_eq_getElem hj']
    · intro v' w' ho' hg' _
      obtain ⟨a', cap', rfl⟩ := owned_shape ho'
      exact h a' cap' w' ho' hg'

theorem field_spot (a : Option Addr) (n cap sl sm : Nat) (u : World) : (Instr.field 126 (.agg #[.slice a n cap, .int .i64 (sl : Nat), .int .u32 (sm : Nat)]) 0).run Tryz.prog u = .ok (.slice a n cap) u := by
  obtain ⟨i0, hi, _, hz1, _⟩ := info_parts infoSl
  simp [Instr.field, run_underlying Tryz.underlying126, asAgg, part, sizeOf, typeInfo, hi, hz1, go_sem]

/-- what is found at a key, in whatever world the store's values are the same -/
theorem founds {M : List SpM} {h : Ht} (hM : M.map (·.s) = h.at_) (q : Nat) (hq : q < 18446744073709551616) : ∃ fa fn fc, ∀ (w : World) (U : Nat → Prop) (mb : Nat) (da : Option Addr) (dn dc : Nat) (ba : Option Addr) (bn bc : Nat), HotV w U mb da dn dc ba bn bc M h →
    (Instr.lookup 99 (.map (some mb)) (.int .u64 q) false).run Tryz.prog w = .ok (.agg #[.slice fa fn fc, .int .i64 (lenAt h.at_ q : Nat), .int .u32 (sumAt h.at_ q : Nat)]) w ∧
      IntsAt w fa fn fc (pagesI (pagesAt h.at_ q)) ∧ ∀ p, fa = some p → U p.block := by
  have ha : atL h.at_ q = (M.find? fun x => x.s.key == q).map (·.s) := by rw [← hM]; exact atL_map M q
  cases hf : M.find? (fun x => x.s.key == q) with
  | none =>
    rw [hf] at ha
    refine ⟨none, 0, 0, fun w U mb da dn dc ba bn bc k => ?_⟩
    have h2 := k.at_.look Tryz.underlying99 (zeroSpot w) q hq
    rw [findV_map, hf] at h2
    exact ⟨by simpa [lenAt, sumAt, ha] using h2, by simp only [pagesAt, ha]; exact CameAt.nil _ _ _, by simp⟩
  | some x =>
    rw [hf] at ha
    have hx := List.mem_of_find?_eq_some hf
    refine ⟨x.a, x.n, x.cap, fun w U mb da dn dc ba bn bc k => ?_⟩
    have h2 := k.at_.look Tryz.underlying99 (zeroSpot w) q hq
    rw [findV_map, hf] at h2
    exact ⟨by simpa [lenAt, sumAt, ha, spotV] using h2, by simp only [pagesAt, ha]; exact k.pages x hx, k.inP x hx⟩

theorem leftL_take (h : Ht) (l : List Chg) (k : Nat) (c : Chg) (hc : l[k]? = some c) : pagesI (leftL h (l.take (k + 1))) = pagesI (leftL h (l.take k)) ++ pagesI (pagesAt h.at_ c.id) := by
  unfold leftL pagesI
  rw [List.take_add_one, hc, Option.toList_some, List.flatMap_append, ← List.append_assoc, List.map_append]
  simp
theorem zvals_app (a b : List Int) : zvals a ++ zvals b = zvals (a ++ b) := by simp [zvals]

section
variable {w : World} {S U : Nat → Prop} {g gd : Nat} {D : Dk} {h : Ht}
set_option maxHeartbeats 4000000 in
/-- how long they are is told by hN: blobs have 32 pages at most -/
theorem left_any {V : Nat → Prop} {a : Option Addr} {n cap : Nat} {M : List ChgM} (k : HotAt w S U g gd D h) (hM : ChgsIn w V a n cap M) (hdir : h.dir.length ≤ 1000) (hpg : ∀ q, (pagesAt h.at_ q).length ≤ 100) (hn47 : n ≤ 1000000) :
    Calls Tryz.prog 97 #[.pointer (some ⟨g, 0, none⟩), .slice a n cap] w (FreshZ (pagesI (leftL h (M.map (·.c)))) w) := by
  obtain ⟨mb, da, dn, dc, ba, bn, bc, MM, hg, hv⟩ := k.ex
  obtain ⟨c0, c1, c2, c3, c4, cf⟩ := hot_cells hg
  have hdn : dn ≤ 1000 := by have := hv.dir.1; unfold pagesI at this; rw [List.length_map] at this; omega
  have CC := Lib.hid (clonei_any da dn dc _ w hv.dir (by omega))
  have HK := Lib.hid k
  have HM := Lib.hid hM
  have HP := Lib.hid hpg
  have HDL := Lib.hid (show (pagesI h.dir).length ≤ 1000 by unfold pagesI; rw [List.length_map]; exact hdir)
  have HL0 := Lib.hid (show pagesI (leftL h ((M.map (·.c)).take 0)) = pagesI h.dir by simp [leftL])
  clear k hv hg hM hpg c0 c1 c3 c4 hdir
  go_enter Tryz.func97, Tryz.ntmps97
  go_wp2_with fail
  refine CC.out.mono ?_
  rintro e w1 ⟨a1, p1, rfl, ho1, hb1⟩
  have HO1 := Lib.hid ho1
  have HB1 := Lib.hid hb1
  clear ho1 hb1 CC
  go_wp2
  go_loopw [5, 15] (fun s5 s15 wr => ∃ (j m cp : Nat) (x : Option Addr), s15 = .int .i64 (j : Nat) ∧ j ≤ n ∧ s5 = .slice x m cp ∧ m = (pagesI (leftL h ((M.map (·.c)).take j))).length ∧ m ≤ 1000 + 100 * j ∧ wr.ownsRow w.heap.size 3 1 (.slice x m cp) m (zvals (pagesI (leftL h ((M.map (·.c)).take j)))) ∧ Below w.heap.size w wr) (fun _ s15 _ => n - (intOf s15).toNat)
  case atStart => exact ⟨0, _, p1, a1, rfl, Nat.zero_le _, rfl, by rw [HL0.out], HDL.out, by rw [HL0.out]; exact HO1.out, HB1.out⟩
  case round =>
    clear HO1 HB1
    obtain ⟨j, m, cp, x, rfl, hj, rfl, hm, hml, ho, hb⟩ := hrel
    have HO := Lib.hid ho
    have HB := Lib.hid hb
    have HME := Lib.hid hm
    clear ho hb hm
    by_cases hlt : j < n
    · have hlti : (j : Int) < (n : Int) := by omega
      have hlk : (M.map (·.c))[j]? = some (M.getD j default).c := by
        rw [List.getElem?_map, List.getD, List.getElem?_eq_getElem (by rw [HM.out.mlen]; exact hlt)]; rfl
      have HLT := Lib.hid (leftL_take h _ _ _ hlk)
      obtain ⟨b, off, rfl, hub, hcs⟩ := (HM.out.below HB.out).at (by omega)
      obtain ⟨x0, x1, x2⟩ := hcs j hlt
      have hid := HM.out.id _ (HM.out.mem j hlt)
      generalize M.getD j default = y at *
      obtain ⟨⟨id, dat, gone⟩, ya, yn, yc⟩ := y
      dsimp only at *
      obtain ⟨mb2, da2, dn2, dc2, ba2, bn2, bc2, M2, hlat⟩ := HK.out.later
      obtain ⟨_, hv0⟩ := hlat w (Below.refl _ _)
      obtain ⟨fa, fn, fc, hfo⟩ := founds (M := M2) (h := h) hv0.eq id hid
      have HPL := Lib.hid (HP.out id)
      generalize lenAt h.at_ id = sl at *
      generalize sumAt h.at_ id = sm at *
      have HLAT := Lib.hid hlat
      have HFO := Lib.hid hfo
      clear hcs hlk hlat hv0 hfo c2 cf
      go_upto_region 5 with (fail)
      have hbx : Below w.heap.size w (wr.alloc (.cells #[.int .u64 (id : Nat), .slice ya yn yc, .bool gone] 76)) := HB.out.alloc HB.out.size _
      have HWZ := Lib.hid (show (wr.alloc (.cells #[.int .u64 (id : Nat), .slice ya yn yc, .bool gone] 76)).heap.size = wr.heap.size + 1 by simp)
      have HBOX := Lib.hid (heap_alloc_new wr (.cells #[.int .u64 (id : Nat), .slice ya yn yc, .bool gone] 76))
      have HO2 := Lib.hid (HO.out.alloc (.cells #[.int .u64 (id : Nat), .slice ya yn yc, .bool gone] 76))
      have HB2 := Lib.hid hbx
      obtain ⟨B, hB⟩ : ∃ B, B = wr.heap.size := ⟨_, rfl⟩
      have hBw : w.heap.size ≤ B := by rw [hB]; exact HB.out.size
      have hxB : ∀ q, (Value.slice x m cp).ownBlock = some q → q < B := fun q hq => by rw [hB]; exact (HO.out.lt q hq).2
      generalize wr.alloc (.cells #[.int .u64 (id : Nat), .slice ya yn yc, .bool gone] 76) = w2 at *
      rw [← hB] at HBOX HWZ ⊢
      clear hbx hB x0 x1 x2 HB HO
      have key : ∀ u : World, Below w.heap.size w u → u.heap[B]? = some (.cells #[.int .u64 (id : Nat), .slice ya yn yc, .bool gone] 76 (0, 0)) → u.cell? ⟨g, 1, none⟩ = some (.map (some mb2)) ∧ u.cell? ⟨B, 0, none⟩ = some (.int .u64 (id : Nat)) ∧
          (Instr.lookup 99 (.map (some mb2)) (.int .u64 id) false).run Tryz.prog u = .ok (.agg #[.slice fa fn fc, .int .i64 (sl : Nat), .int .u32 (sm : Nat)]) u := fun u hu hbu =>
        ⟨(hot_cells (HLAT.out u hu).1).2.1, by rw [cell_of_row u B 0 _ _ _ hbu]; rfl, (HFO.out _ _ _ _ _ _ _ _ _ (HLAT.out u hu).2).1⟩
      have KEY := Lib.hid key
      have hdr : Below w.heap.size w w2.drew := HB2.out.drew
      have hS0 := key w2.drew hdr HBOX.out
      have HIA := Lib.hid (HFO.out _ _ _ _ _ _ _ _ _ (HLAT.out w2.drew hdr).2).2.1
      have HDR := Lib.hid hdr
      have hod := owned_below HO2.out ((Below.refl w2.heap.size w2).drew)
      have HOD := Lib.hid hod
      have hBl : B < w2.heap.size := by have := HWZ.out; omega
      have hfn := HIA.out.1
      have hpl := HPL.out
      have hfn100 : fn ≤ 100 := by rw [← hfn]; unfold pagesI; rw [List.length_map]; exact hpl
      clear key hdr hod hfn hpl
      refine region_head 10 [0, 1, 2, 3, 4, 5, 6, 7, 8, 9] [9] (fun u => u.cell? ⟨g, 1, none⟩ = some (.map (some mb2)) ∧ u.cell? ⟨B, 0, none⟩ = some (.int .u64 (id : Nat)) ∧ (Instr.lookup 99 (.map (some mb2)) (.int .u64 id) false).run Tryz.prog u = .ok (.agg #[.slice fa fn fc, .int .i64 (sl : Nat), .int .u32 (sm : Nat)]) u) (by kernel_rfl) (by kernel_rfl) hS0 ?_
      simp only [pickO, List.filterMap_cons, List.filterMap_nil, List.getElem?_cons_zero, List.getElem?_cons_succ, Option.map_some, List.drop_succ_cons, List.drop_zero]
      clear hS0
      have hfs := field_spot fa fn fc sl sm
      iterate 9
        refine seqH_read _ rfl rfl (by rintro u ⟨hu1, hu2, hu3⟩; go_simp; with_reducible rfl) ?_
        try simp only [Act.put, List.setIfInBounds_toArray, List.set_cons_zero, List.set_cons_succ]
      refine seqH_move rfl rfl (fun Kk hK => ?_)
      refine wp_append_ints (.tmp 19) (.tmp 27) rfl w.heap.size (.slice x m cp) m _ (by rfl) HOD.out fa fn fc _ (by rfl) HIA.out (m + fn) rfl (by omega) HDR.out.size ?_
      intro a4 cp4 w4 ho4 hg4
      have hon : Only (fun q => (Value.slice x m cp).ownBlock = some q) w2.drew w4 := Only.of_grown hg4 fun q e => e
      have hb4 : Below w.heap.size w w4 := HDR.out.trans (hon.below HDR.out.size fun q hq e => by have := (HOD.out.lt q e).1; omega)
      have hB4 := ((hon.block B hBl (by intro e; have := hxB B e; omega)).trans HBOX.out)
      refine hK _ _ (KEY.out w4 hb4 hB4) ?_
      refine seqH_nil ?_
      clear hK Kk
      have HB4 := Lib.hid hb4
      have HO4 := Lib.hid ho4
      try simp only [Act.put, List.setIfInBounds_toArray, List.set_cons_zero, List.set_cons_succ]
      clear hfs hb4 ho4 hg4 hon hB4
      go_wp2
      go_roundw
      case rel =>
        have hO := HO4.out
        have hme := HME.out
        have hlt2 := HLT.out
        rw [zvals_app, ← hlt2] at hO
        refine ⟨j + 1, m + fn, cp4, a4, by go_num, by omega, rfl, ?_, by omega, hO, HB4.out⟩
        rw [hlt2, List.length_append, ← hme, HIA.out.1]
      case measure => simp only [intOf]; omega
    · obtain rfl : j = n := by omega
      have hlti : ¬ (j : Int) < (j : Int) := by omega
      have ho := HO.out
      have hme := HME.out
      rw [List.take_of_length_le (by rw [List.length_map, HM.out.mlen]; exact Nat.le_refl _)] at ho hme
      have HO := Lib.hid ho
      have HME := Lib.hid hme
      clear ho hme
      go_wp2
      go_ret
      have hme := HME.out
      subst hme
      exact ⟨x, cp, rfl, HO.out, HB.out⟩
end

end Go.Proofs.YtjcmphjjkeigjaaGreat

namespace Go.Proofs.YtjcmphjjkeigjaaGreat
open Go.RowKit
set_option linter.unusedVariables false
set_option linter.unusedSimpArgs false
set_option maxRecDepth 100000

theorem mhasV_iff (L : List (Nat × Value)) (q : Nat) : mhasV L q = true ↔ ∃ p ∈ L, p.1 = q := by
  unfold mhasV
  simp
theorem mhasV_put (L : List (Nat × Value)) (k q : Nat) (v : Value) : mhasV (mputV L k v) q = (k == q || mhasV L q) := by
  rw [Bool.eq_iff_iff, Bool.or_eq_true, mhasV_iff, mhasV_iff, beq_iff_eq]
  unfold mputV
  constructor
  · rintro ⟨p, hp, rfl⟩
    rcases List.mem_append.1 hp with hp | hp
    · exact .inr ⟨p, (List.mem_filter.1 hp).1, rfl⟩
    · rcases List.mem_cons.1 hp with rfl | hp
      · exact .inl rfl
      · exact .inr ⟨p, (List.mem_filter.1 hp).1, rfl⟩
  · rintro (rfl | ⟨p, hp, rfl⟩)
    · exact ⟨(k, v), by simp, rfl⟩
    · rcases Nat.lt_trichotomy p.1 k with h | h | h
      · exact ⟨p, List.mem_append_left _ (List.mem_filter.2 ⟨hp, by simpa using h⟩), rfl⟩
      · exact ⟨(k, v), by simp, h.symm⟩
      · exact ⟨p, List.mem_append_right _ (List.mem_cons_of_mem _ (List.mem_filter.2 ⟨hp, by simpa using h⟩)), rfl⟩
theorem mputV_len (L : List (Nat × Value)) (k : Nat) (v : Value) : (mputV L k v).length ≤ L.length + 1 := by
  unfold mputV
  rw [List.length_append, List.length_cons]
  suffices h : (L.filter fun p => decide (p.1 < k)).length + (L.filter fun p => decide (k < p.1)).length ≤ L.length by omega
  induction L with
  | nil => simp
  | cons x L ih =>
    simp only [List.filter_cons]
    by_cases h1 : x.1 < k
    · have h2 : ¬ k < x.1 := by omega
      simp only [h1, h2, decide_true, decide_false, if_true, List.length_cons]
      simp only [Bool.false_eq_true, if_false]
      omega
    · by_cases h2 : k < x.1
      · simp only [h1, h2, decide_true, decide_false, if_true, List.length_cons]
        simp only [Bool.false_eq_true, if_false]
        omega
      · simp only [h1, h2, decide_false, Bool.false_eq_true, if_false, List.length_cons]
        omega
theorem mayC_no (l : List Chg) (k : Nat) (hk : k < l.length) (h : okC l k = false) : mayC l = false := by
  unfold mayC
  rw [List.all_eq_false]
  exact ⟨k, List.mem_range.2 hk, by simp [h]⟩
theorem mayC_yes (l : List Chg) (h : ∀ k, k < l.length → okC l k = true) : mayC l = true := by
  unfold mayC
  exact List.all_eq_true.2 fun k hk => h k (List.mem_range.1 hk)

theorem okC_is (l : List Chg) (k : Nat) (c : Chg) (h : l[k]? = some c) (t : Bool) (ht : t = (l.take k).any fun q => q.id == c.id) : okC l k = (!t && (decide (c.data.length ≤ 4032) && !(c.gone && decide (0 < c.data.length)))) := by
  have hd : l.getD k default = c := by rw [List.getD, h]; rfl
  unfold okC
  rw [hd, ht]

theorem zeroNo (w : World) : (zeroValue 162).run Tryz.prog w = .ok (.agg #[]) w := by kernel_rfl

set_option maxHeartbeats 4000000 in
theorem hvalid_any {V : Nat → Prop} {a : Option Addr} {n cap : Nat} {M : List ChgM} {w : World} (hM : ChgsIn w V a n cap M) (hn47 : n ≤ 1000000) :
    Calls Tryz.prog 45 #[.slice a n cap] w fun e w' => e = .returned (.bool (mayC (M.map (·.c)))) ∧ Below w.heap.size w w' := by
  have HM := Lib.hid hM
  have HMN := Lib.hid (fun k hk => mayC_no (M.map (·.c)) k hk)
  have HMY := Lib.hid (fun hk => mayC_yes (M.map (·.c)) hk)
  have HML := Lib.hid (show (M.map (·.c)).length = n by rw [List.length_map]; exact hM.mlen)
  generalize mayC (M.map (·.c)) = r at *
  have hb0 : Below w.heap.size w (w.alloc (.map #[] 0)) := (Below.refl _ _).alloc (Nat.le_refl _) _
  have HM0 := Lib.hid (MapAt.made w)
  have HB0 := Lib.hid hb0
  clear hM hb0
  go_enter Tryz.func45, Tryz.ntmps45
  go_wp2_with (first | rw [run_makeMap_plain])
  obtain ⟨mb, hmb⟩ : ∃ mb, mb = w.heap.size := ⟨_, rfl⟩
  rw [← hmb] at HM0 ⊢
  have hmw : w.heap.size ≤ mb := by omega
  clear hmb
  go_loopw [11] (fun s11 wr => ∃ (k : Nat) (L : List (Nat × Value)), s11 = .int .i64 (k : Nat) ∧ k ≤ n ∧ MapAt wr mb L ∧ L.length ≤ k ∧ (∀ p ∈ L, p.2 = .agg #[]) ∧ (∀ q, mhasV L q = ((M.map (·.c)).take k).any fun c => c.id == q) ∧ (∀ i, i < k → okC (M.map (·.c)) i = true) ∧ Below w.heap.size w wr) (fun s11 _ => n - (intOf s11).toNat)
  case atStart => exact ⟨0, [], rfl, Nat.zero_le _, HM0.out, Nat.le_refl _, by simp, fun q => by simp [mhasV], fun i hi => by omega, HB0.out⟩
  case round =>
    clear HM0 HB0
    obtain ⟨k, L, rfl, hk, hmp, hLk, hLv, hLq, hok, hb⟩ := hrel
    have HMP := Lib.hid hmp
    have HLQ := Lib.hid hLq
    have HLV := Lib.hid hLv
    have HOK := Lib.hid hok
    have HB := Lib.hid hb
    clear hmp hLq hLv hok hb
    by_cases hlt : k < n
    · have hlti : (k : Int) < (n : Int) := by omega
      have hlk : (M.map (·.c))[k]? = some (M.getD k default).c := by
        rw [List.getElem?_map, List.getD, List.getElem?_eq_getElem (by rw [HM.out.mlen]; exact hlt)]; rfl
      obtain ⟨b, off, rfl, hub, hcs⟩ := (HM.out.below HB.out).at (by omega)
      obtain ⟨x0, x1, x2⟩ := hcs k hlt
      have hid := HM.out.id _ (HM.out.mem k hlt)
      have hdn := (HM.out.bytes _ (HM.out.mem k hlt)).1
      generalize M.getD k default = y at *
      obtain ⟨⟨id, dat, gone⟩, ya, yn, yc⟩ := y
      dsimp only at *
      have HE := Lib.hid (okC_is _ k _ hlk (mhasV L id) (HLQ.out id))
      have HNO := Lib.hid (HMN.out k (by rw [HML.out]; exact hlt))
      rw [hdn] at HE
      dsimp only at HE
      have hlo : ∀ u, MapAt u mb L → (Instr.lookup 161 (.map (some mb)) (.int .u64 id) true).run Tryz.prog u = .ok (.tuple #[.agg #[], .bool (mhasV L id)]) u := fun u hu => by
        have h1 := hu.look_ok (t := 161) (e := 162) Tryz.underlying161 (zeroNo u) id hid
        cases hf : mfindV L id with
        | none => rw [hf] at h1; exact h1
        | some p =>
          rw [hf] at h1
          have := HLV.out p (List.mem_of_find?_eq_some hf)
          dsimp only at h1
          rw [this] at h1
          exact h1
      generalize mhasV L id = tw at *
      have hb2 : Below wr.heap.size wr (wr.alloc (.cells #[.int .u64 (id : Nat), .slice ya yn yc, .bool gone] 76)) := (Below.refl _ _).alloc (Nat.le_refl _) _
      have hl2 := hlo _ (HMP.out.below hb2)
      have HLO := Lib.hid hlo
      have HLKK := Lib.hid hlk
      clear hcs hlk hlo hb2 hdn
      have hbW : Below wr.heap.size wr ((wr.alloc (.cells #[.int .u64 (id : Nat), .slice ya yn yc, .bool gone] 76)).alloc (.cells #[] 162)) := ((Below.refl _ _).alloc (Nat.le_refl _) _).alloc (by simp) _
      have HBW := Lib.hid (HB.out.trans (hbW.mono HB.out.size))
      obtain ⟨w5, hrun, hmp5, ho5⟩ := (HMP.out.below hbW).put (t := 161) (e := 162) Tryz.underlying161 (by omega) id hid (.agg #[])
      have HB5 := Lib.hid (HBW.out.trans (ho5.below HBW.out.size fun q hq e => by omega))
      have HM5 := Lib.hid hmp5
      have HPL := Lib.hid (show (mputV L id (.agg #[])).length ≤ k + 1 by have := mputV_len L id (.agg #[]); omega)
      have HPV := Lib.hid (show ∀ p ∈ mputV L id (.agg #[]), p.2 = .agg #[] from fun p hp => by
        unfold mputV at hp
        rcases List.mem_append.1 hp with hp | hp
        · exact HLV.out p (List.mem_filter.1 hp).1
        · rcases List.mem_cons.1 hp with rfl | hp
          · rfl
          · exact HLV.out p (List.mem_filter.1 hp).1)
      have HPQ := Lib.hid (show ∀ q, mhasV (mputV L id (.agg #[])) q = ((M.map (·.c)).take (k + 1)).any fun c => c.id == q from fun q => by
        rw [mhasV_put, HLQ.out, List.take_add_one, HLKK.out, List.any_append]
        simp [Bool.or_comm])
      have HOK5 := Lib.hid (fun (h : okC (M.map (·.c)) k = true) => (fun i hi => by
        by_cases e : i = k
        · subst e; exact h
        · exact HOK.out i (by omega) : ∀ i, i < k + 1 → okC (M.map (·.c)) i = true))
      clear hbW hmp5 ho5
      cases tw with
      | true =>
        have hr := HNO.out (by rw [HE.out]; rfl)
        subst hr
        clear hrun
        go_wp2
        go_ret
        exact ⟨rfl, HBW.out⟩
      | false =>
        by_cases h40 : 4032 < yn
        · have hr := HNO.out (by rw [HE.out, show decide (yn ≤ 4032) = false from decide_eq_false (by omega)]; rfl)
          have h40i : (4032 : Int) < (yn : Int) := by omega
          subst hr
          clear hrun h40
          go_wp2
          go_ret
          exact ⟨rfl, HBW.out⟩
        · have h40i : ¬ (4032 : Int) < (yn : Int) := by omega
          have hle : decide (yn ≤ 4032) = true := decide_eq_true (by omega)
          rw [hle] at HE
          clear h40 hle
          cases gone with
          | false =>
            have HOKK := Lib.hid (HOK5.out (by rw [HE.out]; rfl))
            go_wp2
            go_roundw
            case rel => exact ⟨k + 1, _, by go_num, by omega, HM5.out, HPL.out, HPV.out, HPQ.out, HOKK.out, HB5.out⟩
            case measure => simp only [intOf]; omega
          | true =>
            by_cases h0 : 0 < yn
            · have hr := HNO.out (by rw [HE.out, decide_eq_true h0]; rfl)
              have h0i : (0 : Int) < (yn : Int) := by omega
              subst hr
              clear hrun
              go_wp2
              go_ret
              exact ⟨rfl, HBW.out⟩
            · have h0i : ¬ (0 : Int) < (yn : Int) := by omega
              have HOKK := Lib.hid (HOK5.out (by rw [HE.out, decide_eq_false h0]; rfl))
              go_wp2
              go_roundw
              case rel => exact ⟨k + 1, _, by go_num, by omega, HM5.out, HPL.out, HPV.out, HPQ.out, HOKK.out, HB5.out⟩
              case measure => simp only [intOf]; omega
    · obtain rfl : k = n := by omega
      have hlti : ¬ (k : Int) < (k : Int) := by omega
      have hr := HMY.out (fun i hi => HOK.out i (by rw [← HML.out]; exact hi))
      subst hr
      clear HMN HMY
      go_wp2
      go_ret
      exact ⟨rfl, HB.out⟩

end Go.Proofs.YtjcmphjjkeigjaaGreat

namespace Go.Proofs.YtjcmphjjkeigjaaGreat
open Go.RowKit
set_option linter.unusedVariables false
set_option linter.unusedSimpArgs false
set_option maxRecDepth 100000

section
variable {w : World} {S U : Nat → Prop} {g gd : Nat} {D : Dk} {h : Ht}
set_option maxHeartbeats 4000000 in
theorem batch1_any (k : HotAt w S U g gd D h) (B : Nat) (hB : w.heap[B]? = some (.cells #[.pointer (some ⟨g, 0, none⟩)] 30 (0, 0))) (id : Nat) (hid : id < 18446744073709551616) (a : Option Addr) (n c : Nat) (gone : Bool) :
    Calls Tryz.prog 47 #[.agg #[.int .u64 (id : Nat), .slice a n c, .bool gone], .pointer (some ⟨B, 0, none⟩)] w fun e w' => e = .returned (.bool (gone && !hasL h.at_ id)) ∧ Below w.heap.size w w' := by
  have hb2 : Below w.heap.size w (w.alloc (.cells #[.int .u64 (id : Nat), .slice a n c, .bool gone] 76)) := (Below.refl _ _).alloc (Nat.le_refl _) _
  have CH := Lib.hid (has7_any (k.below hb2) id hid)
  have HB2 := Lib.hid hb2
  have x0 : (w.alloc (.cells #[.int .u64 (id : Nat), .slice a n c, .bool gone] 76)).cell? ⟨B, 0, none⟩ = some (.pointer (some ⟨g, 0, none⟩)) := by
    rw [cell_of_row _ _ _ _ _ _ ((hb2.block B (Array.getElem?_eq_some_iff.1 hB).1).trans hB)]; rfl
  generalize hasL h.at_ id = t at *
  clear k hb2 hB
  go_enter Tryz.func47, Tryz.ntmps47
  cases gone with
  | false =>
    go_wp2
    go_ret
    exact ⟨rfl, HB2.out⟩
  | true =>
    go_wp2_with fail
    refine CH.out.mono ?_
    rintro e w1 ⟨rfl, hb1⟩
    have HB1 := Lib.hid (HB2.out.trans (hb1.mono HB2.out.size))
    clear hb1 CH
    go_wp2
    go_ret
    exact ⟨by cases t <;> rfl, HB1.out⟩
end

def IdxC (pr : ChgM → Bool) (M : List ChgM) (w : World) (e : Ending) (w' : World) : Prop :=
  Below w.heap.size w w' ∧ ((M.any pr = false ∧ e = .returned (.int .i64 (-1))) ∨ ∃ i : Nat, M.any pr = true ∧ e = .returned (.int .i64 (i : Int)))

theorem any_drop (pr : ChgM → Bool) (M : List ChgM) (k : Nat) (hk : k < M.length) : (M.drop k).any pr = (pr (M.getD k default) || (M.drop (k + 1)).any pr) := by
  rw [List.drop_eq_getElem_cons hk, List.any_cons, List.getD, List.getElem?_eq_getElem hk]
  rfl

set_option maxHeartbeats 4000000 in
theorem indexC_any (F : FuncId) (cp : Array Value) (pr : ChgM → Bool) {V : Nat → Prop} {a : Option Addr} {n cap : Nat} {M : List ChgM} {w : World} (hM : ChgsIn w V a n cap M)
    (hE : ∀ args u, (callFunc F args).run Tryz.prog u = .ok (.enter F args) u)
    (hF : ∀ x ∈ M, ∀ u, Below w.heap.size w u → Calls Tryz.prog F (#[.agg #[.int .u64 (x.c.id : Nat), .slice x.a x.n x.cap, .bool x.c.gone]] ++ cp) u fun e u' => e = .returned (.bool (pr x)) ∧ Below u.heap.size u u') :
    Calls Tryz.prog 93 #[.slice a n cap, .func (.func F) #[] cp] w (IdxC pr M w) := by
  have HM := Lib.hid hM
  have HF := Lib.hid hF
  have hn : n ≤ 9223372036854775807 := by have := hM.len; unfold maxLen at *; omega
  have HAD := Lib.hid (fun k (hk : k < n) => any_drop pr M k (by rw [hM.mlen]; exact hk))
  clear hF hM
  go_enter Tryz.func93, Tryz.ntmps93
  go_wp2
  go_loopw [8] (fun i wr => ∃ k : Nat, k ≤ n ∧ i = .int .i64 k ∧ M.any pr = (M.drop k).any pr ∧ Below w.heap.size w wr) (fun i _ => n - (intOf i).toNat)
  case atStart => exact ⟨0, Nat.zero_le _, rfl, rfl, Below.refl _ _⟩
  case round =>
    obtain ⟨k, hk, rfl, hfd, hb⟩ := hrel
    have HB := Lib.hid hb
    have HD := Lib.hid hfd
    clear hb hfd
    by_cases hlt : k < n
    · have hlti : (k : Int) < (n : Int) := by omega
      obtain ⟨b, off, rfl, hub, hcs⟩ := (HM.out.below HB.out).at (by omega)
      obtain ⟨x0, x1, x2⟩ := hcs k hlt
      have CF := Lib.hid (HF.out _ (HM.out.mem k hlt) wr HB.out)
      have hfk := HD.out.trans (HAD.out k hlt)
      generalize M.getD k default = y at *
      obtain ⟨⟨id, dat, gone⟩, ya, yn, yc⟩ := y
      dsimp only at *
      generalize pr ⟨⟨id, dat, gone⟩, ya, yn, yc⟩ = t at *
      have HFK := Lib.hid hfk
      clear hcs hfk
      go_wp2_with fail
      refine CF.out.mono ?_
      rintro e w1 ⟨rfl, hb1⟩
      have HB1 := Lib.hid (HB.out.trans (hb1.mono HB.out.size))
      clear hb1 CF
      cases t with
      | true =>
        have H := Lib.hid (show IdxC pr M w (.returned (.int .i64 (k : Int))) w1 from ⟨HB1.out, .inr ⟨k, by rw [HFK.out]; rfl, rfl⟩⟩)
        go_wp2
        go_ret
        exact H.out
      | false =>
        have H := Lib.hid (show M.any pr = (M.drop (k + 1)).any pr by rw [HFK.out]; rfl)
        go_wp2
        go_roundw
        case rel => exact ⟨k + 1, by omega, by go_num, H.out, HB1.out⟩
        case measure => simp only [intOf]; omega
    · obtain rfl : k = n := by omega
      have hlti : ¬ (k : Int) < (k : Int) := by omega
      have H := Lib.hid (show IdxC pr M w (.returned (.int .i64 (-1))) wr from ⟨HB.out, .inl ⟨by rw [HD.out, List.drop_of_length_le (by rw [HM.out.mlen]; exact Nat.le_refl _)]; rfl, rfl⟩⟩)
      go_wp2
      go_ret
      exact H.out

set_option maxHeartbeats 4000000 in
theorem containsC_any (F : FuncId) (cp : Array Value) (pr : ChgM → Bool) {V : Nat → Prop} {a : Option Addr} {n cap : Nat} {M : List ChgM} {w : World} (hM : ChgsIn w V a n cap M)
    (hE : ∀ args u, (callFunc F args).run Tryz.prog u = .ok (.enter F args) u)
    (hF : ∀ x ∈ M, ∀ u, Below w.heap.size w u → Calls Tryz.prog F (#[.agg #[.int .u64 (x.c.id : Nat), .slice x.a x.n x.cap, .bool x.c.gone]] ++ cp) u fun e u' => e = .returned (.bool (pr x)) ∧ Below u.heap.size u u') :
    Calls Tryz.prog 46 #[.slice a n cap, .func (.func F) #[] cp] w fun e w' => e = .returned (.bool (M.any pr)) ∧ Below w.heap.size w w' := by
  have CI := Lib.hid (indexC_any F cp pr hM hE hF)
  clear hM hF hE
  generalize hr : M.any pr = r at *
  go_enter Tryz.func46, Tryz.ntmps46
  go_wp2_with fail
  refine CI.out.mono ?_
  rintro e w1 ⟨hb, ⟨h1, rfl⟩ | ⟨i, h1, rfl⟩⟩
  · have HB := Lib.hid hb
    rw [hr] at h1
    subst h1
    clear hb hr CI
    go_wp2
    go_ret
    exact ⟨rfl, HB.out⟩
  · have HB := Lib.hid hb
    rw [hr] at h1
    subst h1
    clear hb hr CI
    have hi0 : (0 : Int) ≤ (i : Int) := by omega
    go_wp2
    go_ret
    exact ⟨rfl, HB.out⟩

end Go.Proofs.YtjcmphjjkeigjaaGreat

namespace Go.Proofs.YtjcmphjjkeigjaaGreat
open Go.RowKit Go.Shelf
set_option linter.unusedVariables false
set_option linter.unusedSimpArgs false
set_option maxRecDepth 100000
attribute [local go_sem] Oper.semAt_some

def prtBV (b off n m j : Nat) : Value := .slice (some ⟨b, off + m * j, none⟩) (min m (n - m * j)) (min m (n - m * j))

theorem chunkB_in (n' : Nat) (a : Option Addr) (n cap m : Nat) (w : World) (hm : 0 < m) :
    CallsIn Fence.wide n' Tryz.prog 141 #[.slice a n cap, .int .i64 m] w fun e w' => e = .returned (.func (.func 173) #[] #[.pointer (some ⟨w.heap.size, 0, none⟩), .pointer (some ⟨w.heap.size + 1, 0, none⟩)]) ∧ w' = (w.alloc (.cells #[.slice a n cap] 49)).alloc (.cells #[.int .i64 m] 3) := by
  have f28 : Fence.wide.fn 141 := trivial
  have hm1 : ¬ (m : Int) < 1 := by omega
  refine callsIn_of_wp Tryz.func141 rfl f28 ?_ rfl
  simp only [Tryz.ntmps141, List.size_toArray, List.length_cons, List.length_nil, Nat.reduceAdd, Nat.reduceSub, Array.replicate_succ, Array.replicate_zero, List.push_toArray, List.append_toArray, List.nil_append, List.cons_append]
  gi_wp2
  go_ret
  exact ⟨rfl, rfl⟩

theorem cntP_none (m : Nat) (hm : 0 < m) : cntP 0 m = 0 := by
  unfold cntP
  exact Nat.div_eq_of_lt (by omega)
set_option maxHeartbeats 2000000 in
theorem chunkB1_none (n' : Nat) (hn : 1 ≤ n') (l Bs Bn cap m : Nat) (a : Option Addr) (hm : 0 < m) (J Jx : List (Fin (cntP 0 m)) → World → Prop)
    (W : World) (hBs : W.heap[Bs]? = some (.cells #[.slice a 0 cap] 49 (0, 0))) (h0 : J [] W) :
    CallsIn Fence.wide n' Tryz.prog 173 #[.func (.yield l) #[] #[], .pointer (some ⟨Bs, 0, none⟩), .pointer (some ⟨Bn, 0, none⟩)] W fun e W' => (∃ v, e = .returned v) ∧
      ((∃ ys : List (Fin (cntP 0 m)), ys.map (·.1) = List.range (cntP 0 m) ∧ J ys W') ∨ (∃ pre : List (Fin (cntP 0 m)), True ∧ Jx pre W')) := by
  have H0 := Lib.hid h0
  have HC := Lib.hid (cntP_none m hm)
  have cS : W.cell? ⟨Bs, 0, none⟩ = some (.slice a 0 cap) := by rw [cell_of_row _ _ _ _ _ _ hBs]; rfl
  clear h0 hBs
  have f34 : Fence.wide.fn 173 := trivial
  refine callsIn_of_wp Tryz.func173 rfl f34 ?_ rfl
  simp only [Tryz.ntmps173, List.size_toArray, List.length_cons, List.length_nil, Nat.reduceAdd, Nat.reduceSub, Array.replicate_succ, Array.replicate_zero, List.push_toArray, List.append_toArray, List.nil_append, List.cons_append]
  gi_wp2
  gi_loopw [4] (fun i wr => i = .int .i64 0 ∧ wr = W) (fun i _ => 1)
  case atStart => exact ⟨rfl, rfl⟩
  case round =>
    obtain ⟨rfl, rfl⟩ := hrel
    gi_wp2
    go_end0
    exact ⟨⟨_, rfl⟩, .inl ⟨[], by rw [HC.out]; rfl, H0.out⟩⟩

end Go.Proofs.YtjcmphjjkeigjaaGreat

namespace Go.Proofs.YtjcmphjjkeigjaaGreat
open Go.RowKit
set_option linter.unusedVariables false
set_option linter.unusedSimpArgs false
set_option maxRecDepth 100000

theorem noneC_any (b : List Spt) (M : List ChgM) : noneC b (M.map (·.c)) = M.any fun x => x.c.gone && !hasL b x.c.id := by
  unfold noneC
  rw [List.any_map]
  rfl
theorem atL_mem {l : List Spt} {k : Nat} {s : Spt} (h : atL l k = some s) : s ∈ l := List.mem_of_find?_eq_some h
theorem HtOk.page {h : Ht} (k : HtOk h) {s : Spt} (hs : s ∈ h.at_) {p : Nat} (hp : p ∈ s.pages) : p < h.used.length := by
  have h1 : h.used.getD p false = true := (k.used p).2 (List.mem_append_right _ (List.mem_flatMap.2 ⟨s, hs, hp⟩))
  rw [List.getD] at h1
  cases hx : h.used[p]? with
  | none => rw [hx] at h1; cases h1
  | some v => exact (List.getElem?_eq_some_iff.1 hx).1
theorem HtOk.dirp {h : Ht} (k : HtOk h) {p : Nat} (hp : p ∈ h.dir) : p < h.used.length := by
  have h1 : h.used.getD p false = true := (k.used p).2 (List.mem_append_left _ hp)
  rw [List.getD] at h1
  cases hx : h.used[p]? with
  | none => rw [hx] at h1; cases h1
  | some v => exact (List.getElem?_eq_some_iff.1 hx).1
theorem HtOk.get {h : Ht} (k : HtOk h) (q : Nat) : ∀ s, atL h.at_ q = some s → s.pages.length = pfor s.data.length ∧ s.data.length ≤ 4032 ∧ ∀ p ∈ s.pages, p < h.used.length :=
  fun s hs => ⟨(k.each s (atL_mem hs)).pages, (k.each s (atL_mem hs)).size, fun p hp => k.page (atL_mem hs) hp⟩
theorem HtOk.pagesAt {h : Ht} (k : HtOk h) (q : Nat) : (pagesAt h.at_ q).length ≤ 100 := by
  unfold Go.Proofs.YtjcmphjjkeigjaaGreat.pagesAt
  cases hs : atL h.at_ q with
  | none => simp
  | some s =>
    have h1 := (k.each s (atL_mem hs)).pages
    have h2 := (k.each s (atL_mem hs)).size
    show s.pages.length ≤ 100
    rw [h1]; unfold pfor; omega
theorem mayC_data {l : List Chg} (h : mayC l = true) : ∀ c ∈ l, c.data.length ≤ 4032 := by
  intro c hc
  obtain ⟨i, hi, rfl⟩ := List.mem_iff_getElem.1 hc
  unfold mayC at h
  have h1 := List.all_eq_true.1 h i (List.mem_range.2 hi)
  rw [okC_is l i l[i] (List.getElem?_eq_getElem hi) _ rfl] at h1
  simp only [Bool.and_eq_true, decide_eq_true_eq] at h1
  exact h1.2.1

theorem filter_less (p : Spt → Bool) (id : Nat) : ∀ b : List Spt, (∃ s ∈ b, p s = true ∧ s.key = id) → (b.filter fun s => p s && !(s.key == id)).length + 1 ≤ (b.filter p).length
  | [], h => by obtain ⟨s, hs, _⟩ := h; cases hs
  | x :: b, ⟨s, hs, h1, h2⟩ => by
    have hle : (b.filter fun s => p s && !(s.key == id)).length ≤ (b.filter p).length := by
      have : (b.filter fun s => p s && !(s.key == id)) = (b.filter p).filter fun s => !(s.key == id) := by
        rw [List.filter_filter]
        congr 1
        funext y
        exact Bool.and_comm _ _
      rw [this]
      exact List.length_filter_le _ _
    rw [List.filter_cons, List.filter_cons]
    rcases List.mem_cons.1 hs with rfl | hs
    · rw [if_pos h1, if_neg (by simp [h2]), List.length_cons]
      omega
    · have ih := filter_less p id b ⟨s, hs, h1, h2⟩
      by_cases hx : p x = true
      · rw [if_pos hx]
        split <;> simp only [List.length_cons] <;> omega
      · rw [if_neg hx, if_neg (by simp [hx])]
        exact ih
theorem noneC_no {b : List Spt} {l : List Chg} (h : noneC b l = false) : ∀ c ∈ l, c.gone = true → ∃ s ∈ b, s.key = c.id := by
  intro c hc hg
  unfold noneC at h
  have h1 := List.any_eq_false.1 h c hc
  rw [hg] at h1
  have h2 : hasL b c.id = true := by simpa using h1
  unfold hasL at h2
  obtain ⟨s, hs, hk⟩ := List.any_eq_true.1 h2
  exact ⟨s, hs, by simpa using hk⟩
theorem mayC_fresh {l : List Chg} (h : mayC l = true) (k : Nat) (c : Chg) (hc : l[k]? = some c) : ∀ d ∈ l.take k, d.id ≠ c.id := by
  have hk := (List.getElem?_eq_some_iff.1 hc).1
  unfold mayC at h
  have h1 := List.all_eq_true.1 h k (List.mem_range.2 hk)
  rw [okC_is l k c hc _ rfl] at h1
  simp only [Bool.and_eq_true, Bool.not_eq_true', List.any_eq_false] at h1
  intro d hd e
  exact h1.1 d hd (by simpa using e)
def stays (l : List Chg) (s : Spt) : Bool := !(l.any fun c => c.gone && c.id == s.key)
theorem count_stays (b : List Spt) (l : List Chg) (hm : mayC l = true) (hn : noneC b l = false) : ∀ k, ((b.filter (stays (l.take k))).length : Int) ≤ countC b (l.take k)
  | 0 => by
    have : (b.filter (stays (l.take 0))) = b := List.filter_eq_self.2 fun s _ => by simp [stays]
    rw [this]; simp [countC]
  | k + 1 => by
    have ih := count_stays b l hm hn k
    cases hk : l[k]? with
    | none => rw [List.take_add_one, hk]; simpa using ih
    | some c =>
      rw [countC_take b l k c hk]
      have hst : ∀ s, stays (l.take (k + 1)) s = (stays (l.take k) s && !(c.gone && c.id == s.key)) := fun s => by
        unfold stays
        rw [List.take_add_one, hk, List.any_append]
        simp
      cases hg : c.gone with
      | true =>
        rw [if_pos rfl]
        have hfe : (b.filter (stays (l.take (k + 1)))) = b.filter fun s => stays (l.take k) s && !(s.key == c.id) := by
          congr 1
          funext s
          rw [hst s, hg, Bool.true_and]
          congr 2
          exact Bool.beq_comm
        rw [hfe]
        obtain ⟨s, hs, hsk⟩ := noneC_no hn c (List.mem_of_getElem? hk) hg
        have := filter_less (stays (l.take k)) c.id b ⟨s, hs, by
          unfold stays
          simp only [Bool.not_eq_true', List.any_eq_false]
          intro d hd
          have := mayC_fresh hm k c hk d hd
          simp [hsk, this], hsk⟩
        omega
      | false =>
        have hfe : (b.filter (stays (l.take (k + 1)))) = b.filter (stays (l.take k)) := by
          congr 1
          funext s
          rw [hst s, hg]
          simp
        rw [hfe, if_neg (by simp)]
        split <;> omega
theorem countC_nonneg (b : List Spt) (l : List Chg) (hm : mayC l = true) (hn : noneC b l = false) : 0 ≤ countC b l := by
  have := count_stays b l hm hn l.length
  rw [List.take_length] at this
  omega

end Go.Proofs.YtjcmphjjkeigjaaGreat

namespace Go.Proofs.YtjcmphjjkeigjaaGreat
open Go.RowKit
set_option linter.unusedVariables false
set_option linter.unusedSimpArgs false
set_option maxRecDepth 100000

set_option maxHeartbeats 2000000 in
theorem mclone_any {w : World} {b : Nat} {L : List (Nat × Value)} (h : MapAt w b L) :
    Calls Tryz.prog 98 #[.map (some b)] w fun e w' => e = .returned (.map (some w.heap.size)) ∧ MapAt w' w.heap.size L ∧ Below w.heap.size w w' := by
  obtain ⟨es, clock, hb, r⟩ := h.own
  have hq := fun w : World => run_eql_map_nil_sl (P := Tryz.prog) w 99 _ _ (some b) Tryz.underlying99
  have hnew : MapAt (w.alloc (.map es clock)) w.heap.size L := ⟨⟨es, clock, heap_alloc_new w _, r⟩, h.asc, h.key⟩
  have HN := Lib.hid hnew
  clear hnew r h
  go_enter Tryz.func98, Tryz.ntmps98
  go_wp2
  rw [run_callFunc_extern Tryz.func140 (by kernel_rfl) (by kernel_rfl) (by kernel_rfl) (e := Extern.MapsClone.clone) (by kernel_rfl), run_maps_clone_sl w 99 hb]
  simp only [Result.andThen]
  rw [Oper.upon_value]
  go_wp2
  rw [run_typeAssert_map_sl _ 99 _ _ _ _ Tryz.underlying99]
  simp only [Result.andThen]
  rw [Oper.upon_value]
  go_wp2
  go_ret
  exact ⟨rfl, HN.out, (Below.refl _ _).alloc (Nat.le_refl _) _⟩

end Go.Proofs.YtjcmphjjkeigjaaGreat

namespace Go.Proofs.YtjcmphjjkeigjaaGreat
open Go.RowKit
set_option linter.unusedVariables false
set_option linter.unusedSimpArgs false
set_option maxRecDepth 100000

theorem or_high (x y k : Nat) (hk : k ≤ 64) (hx : x < 2 ^ k) (hb : x + y * 2 ^ k < 18446744073709551616) : bits .or .u64 (x : Int) ((y * 2 ^ k : Nat) : Int) = ((x + y * 2 ^ k : Nat) : Int) := by
  rw [u64_or_nat _ _ (by omega) (by omega)]
  congr 1
  rw [Nat.or_comm, Nat.mul_comm y, ← Nat.two_pow_add_eq_or_of_lt hx, Nat.add_comm]

theorem mfind_self {L : List (Nat × Value)} (h : L.Pairwise fun a b => a.1 < b.1) {p : Nat × Value} (hp : p ∈ L) : mfindV L p.1 = some p := by
  unfold mfindV
  cases hf : L.find? (fun q => q.1 == p.1) with
  | none =>
    have := List.find?_eq_none.1 hf p hp
    simp at this
  | some q =>
    have hq := List.mem_of_find?_eq_some hf
    have hk : q.1 = p.1 := by have := List.find?_some hf; simpa using this
    obtain ⟨i, hi, rfl⟩ := List.mem_iff_getElem.1 hp
    obtain ⟨j, hj, rfl⟩ := List.mem_iff_getElem.1 hq
    rcases Nat.lt_trichotomy i j with hij | hij | hij
    · have := List.pairwise_iff_getElem.1 h i j hi hj hij
      omega
    · subst hij; rfl
    · have := List.pairwise_iff_getElem.1 h j i hj hi hij
      omega

def PairsTo (L : List (Nat × Nat)) (w : World) (e : Ending) (w' : World) : Prop :=
  ∃ a cap, e = .returned (.slice a L.length cap) ∧ Recs pairC w' 114 2 (.slice a L.length cap) L ∧ (∀ q, (Value.slice a L.length cap).ownBlock = some q → w.heap.size ≤ q) ∧ Below w.heap.size w w'

theorem pairs_take (l : List Spt) (k : Nat) (s : Spt) (h : l[k]? = some s) : pairsL (l.take (k + 1)) = pairsL (l.take k) ++ [(s.key, valN s)] := by
  unfold pairsL
  rw [List.take_add_one, h, Option.toList_some, List.map_append]
  rfl

set_option maxHeartbeats 4000000 in
theorem pairsOf_any {w : World} {mb : Nat} {M : List SpM} (hm : MapAt w mb (mapL M)) (hp : ∀ x ∈ M, IntsAt w x.a x.n x.cap (pagesI x.s.pages)) (hk : ∀ x ∈ M, SptOk x.s) (hpp : ∀ x ∈ M, ∀ p ∈ x.s.pages, p < 2006) (hl : M.length ≤ 700) :
    Calls Tryz.prog 148 #[.map (some mb)] w (PairsTo (pairsL (M.map (·.s))) w) := by
  have hb0 : Below w.heap.size w (w.alloc (.cells #[.map (some mb)] 99)) := (Below.refl _ _).alloc (Nat.le_refl _) _
  have hml : (mapL M).map (·.1) = M.map (·.s.key) := by simp [mapL]
  have hmlen : (mapL M).length = M.length := by simp [mapL]
  have CS := Lib.hid (sortedkeys_any w.heap.size mb (mapL M) _ (by omega) (heap_alloc_new w (.cells #[.map (some mb)] 99)) (hm.below hb0))
  rw [hml] at CS
  have HB0 := Lib.hid hb0
  have HM := Lib.hid hm
  have HP := Lib.hid hp
  have HK := Lib.hid hk
  have HPP := Lib.hid hpp
  obtain ⟨n, hn⟩ : ∃ n, n = M.length := ⟨_, rfl⟩
  have HN := Lib.hid hn
  have hn7 : n ≤ 700 := by omega
  have hkl : (M.map (·.s.key)).length = n := by rw [List.length_map, hn]
  have HKL := Lib.hid hkl
  clear hm hp hk hpp hml hmlen hb0 hn hl hkl
  go_enter Tryz.func148, Tryz.ntmps148
  go_wp2_with fail
  refine (keys_any mb w).mono ?_
  rintro e w1 ⟨rfl, rfl⟩
  go_wp2_with fail
  refine CS.out.mono ?_
  rintro e w2 ⟨v, rfl, hr, hbl, hb⟩
  have HB2 := Lib.hid (HB0.out.trans (hb.mono (by simp)))
  obtain ⟨a, c, rfl, _, _⟩ := hr.form
  rw [HKL.out] at hr hbl ⊢
  have HR := Lib.hid hr
  clear hr hbl hb CS HB0
  go_wp2
  go_loopw [3, 12] (fun s3 s12 wr => ∃ (k : Nat) (av : Option Addr) (cv : Nat), s12 = .int .i64 k ∧ k ≤ n ∧ s3 = .slice av k cv ∧ Recs pairC wr 114 2 (.slice av k cv) (pairsL ((M.map (·.s)).take k)) ∧ (∀ q, (Value.slice av k cv).ownBlock = some q → w2.heap.size ≤ q) ∧ Below w2.heap.size w2 wr) (fun _ s12 _ => n - (intOf s12).toNat)
  case atStart => exact ⟨0, none, 0, rfl, Nat.zero_le _, rfl, Recs.nil _ _ _ _, fun q hq => by simp [Value.ownBlock] at hq, Below.refl _ _⟩
  case round =>
    obtain ⟨k, av, cv, rfl, hk, rfl, hrec, hown, hb⟩ := hrel
    have HREC := Lib.hid hrec
    have HOWN := Lib.hid hown
    have HB := Lib.hid hb
    clear hrec hown hb
    by_cases hlt : k < n
    · have hki : (k : Int) < (n : Int) := by omega
      have hkM : k < M.length := by have := HN.out; omega
      obtain ⟨x, hx⟩ : ∃ x, M[k]? = some x := ⟨_, List.getElem?_eq_getElem hkM⟩
      have hxm := List.mem_of_getElem? hx
      have hkey : (M.map (·.s.key))[k]? = some x.s.key := by rw [List.getElem?_map, hx]; rfl
      obtain ⟨g, c', hv0, _, _, hgl⟩ := HR.out.form' (by rw [HKL.out]; omega)
      rw [HKL.out] at hv0
      cases hv0
      have hce := (HR.out.below HB.out).cellAt k 0 x.s.key hkey (by omega)
      have hce2 : wr.cell? ⟨g, k, none⟩ = some (.int .u64 (x.s.key : Nat)) := by simpa [numC] using hce
      have HBW := Lib.hid (HB2.out.trans (HB.out.mono HB2.out.size))
      have hid := (HK.out x hxm).key
      have hlk : ∀ u, MapAt u mb (mapL M) → (Instr.lookup 99 (.map (some mb)) (.int .u64 x.s.key) false).run Tryz.prog u = .ok (.agg #[.slice x.a x.n x.cap, .int .i64 (x.s.data.length : Nat), .int .u32 (x.s.sum : Nat)]) u := fun u hu => by
        have h1 := hu.look Tryz.underlying99 (zeroSpot u) x.s.key hid
        rw [mfind_self hu.asc (p := (x.s.key, spotV x)) (List.mem_map_of_mem (f := fun x : SpM => (x.s.key, spotV x)) hxm)] at h1
        exact h1
      have hl1 := hlk wr (HM.out.below HBW.out)
      have HTK := Lib.hid (pairs_take (M.map (·.s)) k x.s (by rw [List.getElem?_map, hx]; rfl))
      have LK := Lib.hid (fun u (hu : Below w.heap.size w u) => linkTo_any x.a x.n x.cap x.s.pages u (CameAt.below (HP.out x hxm) (by omega) hu) fun p hq => by have := HPP.out x hxm p hq; omega)
      have hsz := (HK.out x hxm).size
      have hsm := (HK.out x hxm).sum
      have hlkn : linkN x.s.pages ≤ 2006 := by
        have := HPP.out x hxm
        cases hq : x.s.pages with
        | nil => simp [linkN]
        | cons p r => rw [hq] at this; have := this p (by simp); simp [linkN]; omega
      have hval : valN x.s = linkN x.s.pages + x.s.data.length * 65536 + x.s.sum * 4294967296 := rfl
      rw [hval] at HTK
      generalize linkN x.s.pages = lk at *
      generalize x.s.data.length = sz at *
      generalize x.s.sum = sm at *
      generalize x.s.key = ky at *
      have e1 : IntKind.u64.wrap (lk : Int) = (lk : Int) := by rw [IntKind.wrap_u64]; omega
      have e2 : IntKind.u64.wrap (sz : Int) = (sz : Int) := by rw [IntKind.wrap_u64]; omega
      have e3 : IntKind.u64.wrap (sm : Int) = (sm : Int) := by rw [IntKind.wrap_u64]; omega
      have e4 : IntKind.u64.wrap ((sz : Int) * 65536) = (sz : Int) * 65536 := by rw [IntKind.wrap_u64]; omega
      have e5 : IntKind.u64.wrap ((sm : Int) * 4294967296) = (sm : Int) * 4294967296 := by rw [IntKind.wrap_u64]; omega
      have o1 : bits .or .u64 (lk : Int) ((sz : Int) * 65536) = (lk : Int) + (sz : Int) * 65536 := by
        have := or_high lk sz 16 (by omega) (by omega) (by omega)
        simpa using this
      have o2 : bits .or .u64 ((lk : Int) + (sz : Int) * 65536) ((sm : Int) * 4294967296) = (lk : Int) + (sz : Int) * 65536 + (sm : Int) * 4294967296 := by
        have := or_high (lk + sz * 65536) sm 32 (by omega) (by omega) (by omega)
        simpa using this
      clear hlk hce hxm hkey hx hval hkM
      go_upto_region 6 with (fail)
      have hbx : Below wr.heap.size wr (wr.alloc (.cells #[.slice x.a x.n x.cap, .int .i64 (sz : Nat), .int .u32 (sm : Nat)] 126)) := (Below.refl _ _).alloc (Nat.le_refl _) _
      have hbox := heap_alloc_new wr (.cells #[.slice x.a x.n x.cap, .int .i64 (sz : Nat), .int .u32 (sm : Nat)] 126)
      obtain ⟨B, hB⟩ : ∃ B, B = wr.heap.size := ⟨_, rfl⟩
      have HRC := Lib.hid (HREC.out.below hbx)
      have HBX := Lib.hid (HB.out.trans (hbx.mono HB.out.size))
      have HBW2 := Lib.hid (HBW.out.trans (hbx.mono HBW.out.size))
      generalize wr.alloc (.cells #[.slice x.a x.n x.cap, .int .i64 (sz : Nat), .int .u32 (sm : Nat)] 126) = w3 at *
      rw [← hB] at hbox ⊢
      have hS0 : w3.drew.cell? ⟨B, 0, none⟩ = some (.slice x.a x.n x.cap) ∧ w3.drew.cell? ⟨B, 1, none⟩ = some (.int .i64 (sz : Nat)) ∧ w3.drew.cell? ⟨B, 2, none⟩ = some (.int .u32 (sm : Nat)) :=
        ⟨by rw [cell_of_row w3.drew B 0 _ _ _ hbox]; rfl, by rw [cell_of_row w3.drew B 1 _ _ _ hbox]; rfl, by rw [cell_of_row w3.drew B 2 _ _ _ hbox]; rfl⟩
      have HS0 := Lib.hid hS0
      have C3 := Lib.hid (LK.out w3.drew HBW2.out.drew)
      clear hbx hbox hB hl1 hce2
      refine region_head 15 [0, 1, 4, 5, 6, 7, 9, 10, 11, 12, 2, 3, 8, 13, 14] [2] (fun u => u.cell? ⟨B, 0, none⟩ = some (.slice x.a x.n x.cap) ∧ u.cell? ⟨B, 1, none⟩ = some (.int .i64 (sz : Nat)) ∧ u.cell? ⟨B, 2, none⟩ = some (.int .u32 (sm : Nat))) (by kernel_rfl) (by kernel_rfl) hS0 ?_
      simp only [pickO, List.filterMap_cons, List.filterMap_nil, List.getElem?_cons_zero, List.getElem?_cons_succ, Option.map_some, List.drop_succ_cons, List.drop_zero]
      clear hS0
      refine seqH_read _ rfl rfl (by rintro u ⟨hu1, hu2, hu3⟩; go_simp; with_reducible rfl) ?_
      try simp only [Act.put, List.setIfInBounds_toArray, List.set_cons_zero, List.set_cons_succ]
      refine seqH_read _ rfl rfl (by rintro u ⟨hu1, hu2, hu3⟩; go_simp; with_reducible rfl) ?_
      try simp only [Act.put, List.setIfInBounds_toArray, List.set_cons_zero, List.set_cons_succ]
      refine seqH_read _ rfl rfl (by rintro u ⟨hu1, hu2, hu3⟩; go_simp; with_reducible rfl) ?_
      try simp only [Act.put, List.setIfInBounds_toArray, List.set_cons_zero, List.set_cons_succ]
      refine seqH_read _ rfl rfl (by rintro u ⟨hu1, hu2, hu3⟩; go_simp; with_reducible rfl) ?_
      try simp only [Act.put, List.setIfInBounds_toArray, List.set_cons_zero, List.set_cons_succ]
      refine seqH_read (.int .u64 (sz : Int)) rfl rfl (by rintro u ⟨hu1, hu2, hu3⟩; go_simp; try rw [e2]) ?_
      try simp only [Act.put, List.setIfInBounds_toArray, List.set_cons_zero, List.set_cons_succ]
      refine seqH_read (.int .u64 ((sz : Int) * 65536)) rfl rfl (by rintro u ⟨hu1, hu2, hu3⟩; go_simp; try rw [e4]) ?_
      try simp only [Act.put, List.setIfInBounds_toArray, List.set_cons_zero, List.set_cons_succ]
      refine seqH_read _ rfl rfl (by rintro u ⟨hu1, hu2, hu3⟩; go_simp; with_reducible rfl) ?_
      try simp only [Act.put, List.setIfInBounds_toArray, List.set_cons_zero, List.set_cons_succ]
      refine seqH_read _ rfl rfl (by rintro u ⟨hu1, hu2, hu3⟩; go_simp; with_reducible rfl) ?_
      try simp only [Act.put, List.setIfInBounds_toArray, List.set_cons_zero, List.set_cons_succ]
      refine seqH_read (.int .u64 (sm : Int)) rfl rfl (by rintro u ⟨hu1, hu2, hu3⟩; go_simp; try rw [e3]) ?_
      try simp only [Act.put, List.setIfInBounds_toArray, List.set_cons_zero, List.set_cons_succ]
      refine seqH_read (.int .u64 ((sm : Int) * 4294967296)) rfl rfl (by rintro u ⟨hu1, hu2, hu3⟩; go_simp; try rw [e5]) ?_
      try simp only [Act.put, List.setIfInBounds_toArray, List.set_cons_zero, List.set_cons_succ]
      refine seqH_move rfl rfl (fun Kk hK => ?_)
      go_simp
      refine C3.out.mono ?_
      rintro e w4 ⟨rfl, rfl⟩
      refine hK _ _ HS0.out ?_
      clear hK Kk C3
      try simp only [Act.put, List.setIfInBounds_toArray, List.set_cons_zero, List.set_cons_succ]
      refine seqH_read (.int .u64 (lk : Int)) rfl rfl (by rintro u ⟨hu1, hu2, hu3⟩; go_simp; try rw [e1]) ?_
      try simp only [Act.put, List.setIfInBounds_toArray, List.set_cons_zero, List.set_cons_succ]
      refine seqH_read (.int .u64 ((lk : Int) + (sz : Int) * 65536)) rfl rfl (by rintro u ⟨hu1, hu2, hu3⟩; go_simp; try rw [o1]) ?_
      try simp only [Act.put, List.setIfInBounds_toArray, List.set_cons_zero, List.set_cons_succ]
      refine seqH_read (.int .u64 ((lk : Int) + (sz : Int) * 65536 + (sm : Int) * 4294967296)) rfl rfl (by rintro u ⟨hu1, hu2, hu3⟩; go_simp; try rw [o2]) ?_
      try simp only [Act.put, List.setIfInBounds_toArray, List.set_cons_zero, List.set_cons_succ]
      refine seqH_read _ rfl rfl (by rintro u ⟨hu1, hu2, hu3⟩; go_simp; with_reducible rfl) ?_
      try simp only [Act.put, List.setIfInBounds_toArray, List.set_cons_zero, List.set_cons_succ]
      refine seqH_nil ?_
      have HBX3 := Lib.hid (show Below w2.heap.size w2 w3.drew from HBX.out.drew)
      have HRC3 := Lib.hid (show Recs pairC w3.drew 114 2 (.slice av k cv) (pairsL ((M.map (·.s)).take k)) from HRC.out.keep fun _ _ => rfl)
      clear HBX HRC HBW2 HS0 HREC HB LK e1 e2 e3 e4 e5 o1 o2
      have hval : (lk : Int) + (sz : Int) * 65536 + (sm : Int) * 4294967296 = ((lk + sz * 65536 + sm * 4294967296 : Nat) : Int) := by omega
      rw [hval]
      clear hval
      generalize lk + sz * 65536 + sm * 4294967296 = vl at *
      generalize w3.drew = w4 at *
      obtain ⟨i0, hi0, hz0, hz1, hz2⟩ := info_parts infoPair
      have hal : Below w4.heap.size w4 (w4.alloc (.cells (pairC (ky, vl)).toArray 114)) := (Below.refl _ _).alloc (Nat.le_refl _) _
      have hrec8 := HRC3.out.below hal
      have hpl : (pairsL ((M.map (·.s)).take k)).length = k := by unfold pairsL; rw [List.length_map, List.length_take, List.length_map]; have := HN.out; omega
      have HPL := Lib.hid hpl
      have HR8 := Lib.hid hrec8
      clear hrec8
      go_wp2_with (first
        | (at_builtin; refine wpList_buildSliceV rfl 109 1 _ rfl #[(0, .agg (pairC (ky, vl)).toArray)] (by simp [go_sem, pairC]) _ _ (built_pair (pairC (ky, vl)).toArray rfl _) ?_)
        | (at_builtin; refine wpList_append_recs rfl _ _ 109 rfl 114 i0 _ 2 16 Tryz.underlying109 hi0 hz0 hz1 hz2 (by simp [Value.cells]) (by omega) _ _ rfl HR8.out ⟨w4.heap.size, 0, none⟩ 1 1 [(ky, vl)] rfl rfl (fun y _ => pairC_len y) (fun y _ => pairC_one y) (one_rec (heap_alloc_new w4 _)) (by unfold maxLen; omega) (by omega) ?_; intro v' w9 hrec9 hg9 hv9; obtain ⟨a9, c9, hv0, _, _⟩ := hrec9.form; rw [List.length_append, List.length_singleton, HPL.out] at hv0; subst hv0))
      go_roundw
      case rel =>
        have h9 := hrec9
        rw [← HTK.out] at h9
        refine ⟨k + 1, a9, c9, by go_num, by omega, rfl, h9, fun q hq => ?_, ?_⟩
        · rcases hv9 with e | e
          · exact HOWN.out q (e ▸ hq)
          · rw [e] at hq
            have := HBX3.out.size
            simp at hq; omega
        · exact (HBX3.out.trans (hal.mono HBX3.out.size)).grown hg9 (by have := HBX3.out.size; simp; omega) fun q hq => HOWN.out q hq
      case measure => simp only [intOf]; omega
    · obtain rfl : k = n := by omega
      have hki : ¬ (k : Int) < (k : Int) := by omega
      have hrec := HREC.out
      rw [List.take_of_length_le (by rw [List.length_map, ← HN.out]; exact Nat.le_refl _)] at hrec
      have hpl : (pairsL (M.map (·.s))).length = k := by unfold pairsL; rw [List.length_map, List.length_map]; exact HN.out.symm
      have HPL := Lib.hid hpl
      have HREC := Lib.hid hrec
      clear hrec hpl
      go_wp2
      go_ret
      refine ⟨av, cv, by rw [HPL.out]; rfl, by rw [HPL.out]; exact HREC.out, fun q hq => ?_, HB2.out.trans (HB.out.mono HB2.out.size)⟩
      rw [HPL.out] at hq
      exact Nat.le_trans HB2.out.size (HOWN.out q hq)

end Go.Proofs.YtjcmphjjkeigjaaGreat

namespace Go.Proofs.YtjcmphjjkeigjaaGreat
set_option linter.unusedVariables false
set_option linter.unusedSimpArgs false

def idsL (l : List Chg) : List Nat := l.map (·.id)
def newsL : List Chg → List Nat → List Spt
  | [], _ => []
  | c :: l, P => if c.gone then newsL l P else newS c (P.take (pfor c.data.length)) :: newsL l (P.drop (pfor c.data.length))
def keptL (b : List Spt) (l : List Chg) : List Spt := b.filter fun x => !(idsL l).contains x.key

theorem foldl_shift {α : Type} (f : α → Nat) : ∀ (l : List α) (n : Nat), l.foldl (fun n c => n + f c) n = n + l.foldl (fun n c => n + f c) 0
  | [], n => by simp
  | c :: l, n => by
    rw [List.foldl_cons, List.foldl_cons, foldl_shift f l (n + f c), foldl_shift f l (0 + f c)]
    omega
theorem takeC_cons (c : Chg) (l : List Chg) : takeC (c :: l) = pfor c.data.length + takeC l := by
  unfold takeC
  rw [List.foldl_cons, foldl_shift]
  omega
theorem takeC_nil : takeC [] = 0 := rfl

theorem delL_ne {b : List Spt} {k : Nat} {x : Spt} (h : x ∈ delL b k) : x.key ≠ k := by
  unfold delL at h
  have := (List.mem_filter.1 h).2
  simpa using this
theorem insL_perm (b : List Spt) (s : Spt) : (insL (delL b s.key) s).Perm (s :: delL b s.key) := by
  unfold insL
  refine List.perm_middle.trans (List.Perm.cons _ ?_)
  have h : (delL b s.key).filter (fun x => decide (s.key < x.key)) = (delL b s.key).filter (fun x => !decide (x.key < s.key)) := by
    refine List.filter_congr fun x hx => ?_
    have := delL_ne hx
    simp only [Bool.decide_eq_true, ← decide_not, decide_eq_decide]
    omega
  rw [h]
  exact List.filter_append_perm _ _
theorem delL_asc {b : List Spt} (h : b.Pairwise fun x y => x.key < y.key) (k : Nat) : (delL b k).Pairwise fun x y => x.key < y.key := h.filter _
theorem insL_asc {b : List Spt} (h : b.Pairwise fun x y => x.key < y.key) (s : Spt) : (insL b s).Pairwise fun x y => x.key < y.key := by
  unfold insL
  rw [List.pairwise_append]
  refine ⟨h.filter _, List.pairwise_cons.2 ⟨fun p hp => by simp at hp; exact hp.2, h.filter _⟩, fun a ha b hb => ?_⟩
  simp at ha
  rcases List.mem_cons.1 hb with rfl | hb
  · exact ha.2
  · simp at hb; omega
theorem kept_cons (b : List Spt) (c : Chg) (l : List Chg) : keptL b (c :: l) = keptL (delL b c.id) l := by
  unfold keptL delL idsL
  rw [List.filter_filter]
  refine List.filter_congr fun x _ => ?_
  rw [List.map_cons, List.contains_cons, Bool.not_or, Bool.and_comm]

theorem planL_perm : ∀ (l : List Chg) (b : List Spt) (q : List Pt) (P : List Nat), (idsL l).Nodup → (planL l (b, q, P)).1.Perm (keptL b l ++ newsL l P)
  | [], b, q, P, _ => by
    have : keptL b [] = b := List.filter_eq_self.2 fun x _ => rfl
    rw [this]
    simp [planL, newsL]
  | c :: l, b, q, P, h => by
    have hn := List.nodup_cons.1 (show (c.id :: idsL l).Nodup from h)
    show (planL l (planStep (b, q, P) c)).1.Perm _
    unfold planStep newsL
    rw [kept_cons]
    by_cases hg : c.gone = true
    · rw [if_pos hg, if_pos hg]
      exact planL_perm l _ _ _ hn.2
    · rw [if_neg hg, if_neg hg]
      refine (planL_perm l _ _ _ hn.2).trans ?_
      refine (List.Perm.trans ?_ List.perm_middle.symm)
      rw [← List.cons_append]
      refine List.Perm.append_right _ ?_
      have hp := insL_perm b (newS c (P.take (pfor c.data.length)))
      have hf := hp.filter fun x => !(idsL l).contains x.key
      refine hf.trans (List.Perm.of_eq ?_)
      rw [List.filter_cons_of_pos]
      · rfl
      · simpa [newS] using hn.1
theorem planL_rest : ∀ (l : List Chg) (b : List Spt) (q : List Pt) (P : List Nat), (∀ c ∈ l, c.gone = true → c.data.length = 0) → (planL l (b, q, P)).2.2 = P.drop (takeC l)
  | [], b, q, P, _ => by simp [planL, takeC_nil]
  | c :: l, b, q, P, h => by
    show (planL l (planStep (b, q, P) c)).2.2 = _
    unfold planStep
    rw [takeC_cons]
    by_cases hg : c.gone = true
    · rw [if_pos hg, planL_rest l _ _ _ fun d hd => h d (List.mem_cons_of_mem _ hd), h c List.mem_cons_self hg]
      simp [pfor]
    · rw [if_neg hg, planL_rest l _ _ _ fun d hd => h d (List.mem_cons_of_mem _ hd), List.drop_drop]
theorem planL_puts : ∀ (l : List Chg) (b : List Spt) (q : List Pt) (P : List Nat), (planL l (b, q, P)).2.1 = q ++ (newsL l P).flatMap fun s => blobPuts s.data s.pages
  | [], b, q, P => by simp [planL, newsL]
  | c :: l, b, q, P => by
    show (planL l (planStep (b, q, P) c)).2.1 = _
    unfold planStep newsL
    by_cases hg : c.gone = true
    · rw [if_pos hg, if_pos hg]
      exact planL_puts l _ _ _
    · rw [if_neg hg, if_neg hg, planL_puts l, List.flatMap_cons, List.append_assoc]
      rfl
theorem planL_asc : ∀ (l : List Chg) (b : List Spt) (q : List Pt) (P : List Nat), (b.Pairwise fun x y => x.key < y.key) → (planL l (b, q, P)).1.Pairwise fun x y => x.key < y.key
  | [], b, q, P, h => h
  | c :: l, b, q, P, h => by
    show (planL l (planStep (b, q, P) c)).1.Pairwise _
    unfold planStep
    by_cases hg : c.gone = true
    · rw [if_pos hg]
      exact planL_asc l _ _ _ (delL_asc h _)
    · rw [if_neg hg]
      exact planL_asc l _ _ _ (insL_asc (delL_asc h _) _)

theorem news_pages : ∀ (l : List Chg) (P : List Nat), (∀ c ∈ l, c.gone = true → c.data.length = 0) → (newsL l P).flatMap (·.pages) = P.take (takeC l)
  | [], P, _ => by simp [newsL, takeC_nil]
  | c :: l, P, h => by
    unfold newsL
    rw [takeC_cons]
    have h' : ∀ d ∈ l, d.gone = true → d.data.length = 0 := fun d hd => h d (List.mem_cons_of_mem _ hd)
    by_cases hg : c.gone = true
    · rw [if_pos hg, news_pages l P h', h c List.mem_cons_self hg]
      simp [pfor]
    · rw [if_neg hg, List.flatMap_cons, news_pages l _ h', List.take_add]
      rfl
theorem news_mem : ∀ (l : List Chg) (P : List Nat), takeC l ≤ P.length → ∀ s ∈ newsL l P, s.pages.length = pfor s.data.length ∧ s.sum = sumL s.data ∧ ∃ c ∈ l, c.gone = false ∧ s.key = c.id ∧ s.data = c.data
  | [], P, _, s, hs => by simp [newsL] at hs
  | c :: l, P, h, s, hs => by
    unfold newsL at hs
    rw [takeC_cons] at h
    by_cases hg : c.gone = true
    · rw [if_pos hg] at hs
      obtain ⟨h1, h2, d, hd, h3⟩ := news_mem l P (by omega) s hs
      exact ⟨h1, h2, d, List.mem_cons_of_mem _ hd, h3⟩
    · rw [if_neg hg] at hs
      rcases List.mem_cons.1 hs with rfl | hs
      · exact ⟨by simp [newS]; omega, rfl, c, List.mem_cons_self, by simpa using hg, rfl, rfl⟩
      · obtain ⟨h1, h2, d, hd, h3⟩ := news_mem l _ (by rw [List.length_drop]; omega) s hs
        exact ⟨h1, h2, d, List.mem_cons_of_mem _ hd, h3⟩

theorem del_count (k : Nat) : ∀ b : List Spt, (b.Pairwise fun x y => x.key < y.key) → (delL b k).length + (if hasL b k then 1 else 0) = b.length
  | [], _ => rfl
  | x :: b, h => by
    obtain ⟨h1, h2⟩ := List.pairwise_cons.1 h
    have ih := del_count k b h2
    unfold delL hasL at *
    rw [List.filter_cons, List.any_cons]
    by_cases hx : x.key = k
    · have hno : b.any (fun s => s.key == k) = false := by
        rw [List.any_eq_false]
        intro y hy
        have := h1 y hy
        simp; omega
      rw [hno] at ih ⊢
      simp only [hx, beq_self_eq_true, Bool.not_true, Bool.false_eq_true, if_false, Bool.or_false, if_true, List.length_cons] at ih ⊢
      omega
    · have hf : (x.key == k) = false := by simpa using hx
      rw [hf]
      simp only [Bool.not_false, if_true, Bool.false_or, List.length_cons]
      omega
theorem has_del {b : List Spt} {k j : Nat} (h : k ≠ j) : hasL (delL b k) j = hasL b j := by
  unfold hasL delL
  rw [Bool.eq_iff_iff, List.any_eq_true, List.any_eq_true]
  constructor
  · rintro ⟨x, hx, hj⟩; exact ⟨x, (List.mem_filter.1 hx).1, hj⟩
  · rintro ⟨x, hx, hj⟩
    refine ⟨x, List.mem_filter.2 ⟨hx, ?_⟩, hj⟩
    have : x.key = j := by simpa using hj
    simp; omega
def stepC (b : List Spt) (n : Int) (c : Chg) : Int := if c.gone then n - 1 else if hasL b c.id then n else n + 1
theorem countC_fold (b : List Spt) (l : List Chg) : countC b l = l.foldl (stepC b) (b.length : Int) := rfl
theorem stepC_shift (b : List Spt) (n m : Int) (c : Chg) : stepC b (n + m) c = stepC b n c + m := by
  unfold stepC
  split
  · omega
  · split <;> omega
theorem countC_shift (b : List Spt) : ∀ (l : List Chg) (n m : Int), l.foldl (stepC b) (n + m) = l.foldl (stepC b) n + m
  | [], n, m => rfl
  | c :: l, n, m => by
    rw [List.foldl_cons, List.foldl_cons, ← countC_shift b l, stepC_shift]
theorem countC_congr {b b' : List Spt} : ∀ (l : List Chg) (n : Int), (∀ c ∈ l, hasL b c.id = hasL b' c.id) → l.foldl (stepC b) n = l.foldl (stepC b') n
  | [], n, _ => rfl
  | c :: l, n, h => by
    rw [List.foldl_cons, List.foldl_cons, show stepC b n c = stepC b' n c by unfold stepC; rw [h c List.mem_cons_self]]
    exact countC_congr l _ fun d hd => h d (List.mem_cons_of_mem _ hd)
theorem countC_is : ∀ (l : List Chg) (b : List Spt) (P : List Nat), (b.Pairwise fun x y => x.key < y.key) → (idsL l).Nodup → noneC b l = false → countC b l = (((keptL b l ++ newsL l P).length : Nat) : Int)
  | [], b, P, _, _, _ => by
    have : keptL b [] = b := List.filter_eq_self.2 fun x _ => rfl
    rw [this]
    simp [countC, newsL]
  | c :: l, b, P, hb, h, hn => by
    have hc := List.nodup_cons.1 (show (c.id :: idsL l).Nodup from h)
    have hids : ∀ d ∈ l, hasL b d.id = hasL (delL b c.id) d.id := fun d hd => (has_del (fun e : c.id = d.id => hc.1 (by rw [e]; exact List.mem_map_of_mem (f := fun c : Chg => c.id) hd))).symm
    have hn2 : noneC (delL b c.id) l = false := by
      unfold noneC at hn ⊢
      rw [List.any_cons, Bool.or_eq_false_iff] at hn
      rw [List.any_eq_false] at hn ⊢
      intro d hd
      have := hn.2 d hd
      rwa [hids d hd] at this
    have hn1 : c.gone = true → hasL b c.id = true := fun hg => by
      unfold noneC at hn
      rw [List.any_cons, Bool.or_eq_false_iff] at hn
      have := hn.1
      rw [hg] at this
      simpa using this
    have hdc := del_count c.id b hb
    have hcc : countC b (c :: l) = countC (delL b c.id) l + ((if c.gone then (b.length : Int) - 1 else if hasL b c.id then (b.length : Int) else (b.length : Int) + 1) - ((delL b c.id).length : Int)) := by
      rw [countC_fold, countC_fold, List.foldl_cons, ← countC_shift, countC_congr l _ hids]
      congr 1
      unfold stepC
      omega
    rw [hcc, kept_cons]
    unfold newsL
    by_cases hg : c.gone = true
    · rw [if_pos hg, if_pos hg, countC_is l _ P (delL_asc hb _) hc.2 hn2]
      have := hn1 hg
      rw [if_pos this] at hdc
      omega
    · rw [if_neg hg, if_neg hg, countC_is l _ (P.drop (pfor c.data.length)) (delL_asc hb _) hc.2 hn2]
      simp only [List.length_append, List.length_cons]
      split
      · rename_i hh; rw [if_pos hh] at hdc; omega
      · rename_i hh; rw [if_neg hh] at hdc; omega

/-! ### what changes that may be have -/
theorem mayC_ids {l : List Chg} (h : mayC l = true) : (idsL l).Nodup := by
  unfold idsL List.Nodup
  rw [List.pairwise_map, List.pairwise_iff_getElem]
  intro i j hi hj hij e
  refine mayC_fresh h j l[j] (List.getElem?_eq_getElem hj) l[i] ?_ e
  exact List.mem_take_iff_getElem.2 ⟨i, by omega, rfl⟩
theorem mayC_gone {l : List Chg} (h : mayC l = true) : ∀ c ∈ l, c.gone = true → c.data.length = 0 := by
  intro c hc hg
  obtain ⟨i, hi, rfl⟩ := List.mem_iff_getElem.1 hc
  unfold mayC at h
  have h1 := List.all_eq_true.1 h i (List.mem_range.2 hi)
  rw [okC_is l i l[i] (List.getElem?_eq_getElem hi) _ rfl, hg] at h1
  simp at h1
  simp [h1.2.2]

/-! ### the store that a batch plans -/
theorem needsOf_some {b : List Spt} {l : List Chg} {n : Nat} (h : needsOf b l = some n) : countC b l ≤ 600 ∧ n + 1 ≤ 40 ∧ n = takeC l + pagesN (countC b l).toNat := by
  unfold needsOf at h
  split at h
  · cases h
  · split at h
    · cases h
    · cases h; omega
theorem kept_sub (b : List Spt) (l : List Chg) : (keptL b l).Sublist b := List.filter_sublist
theorem kept_mem {b : List Spt} {l : List Chg} {x : Spt} : x ∈ keptL b l ↔ x ∈ b ∧ x.key ∉ idsL l := by
  unfold keptL
  rw [List.mem_filter]
  simp
theorem flatMap_sub {α β : Type} (f : α → List β) {a b : List α} (h : a.Sublist b) : (a.flatMap f).Sublist (b.flatMap f) := by
  induction h with
  | slnil => exact List.Sublist.refl _
  | cons x _ ih => rw [List.flatMap_cons]; exact ih.trans (List.sublist_append_right _ _)
  | cons_cons x _ ih => rw [List.flatMap_cons, List.flatMap_cons]; exact (List.Sublist.refl _).append ih

/-- what a store keeps to, but for how many pages its directory has -/
structure HtPre (h : Ht) : Prop where
  asc : h.at_.Pairwise fun a b => a.key < b.key
  each : ∀ s ∈ h.at_, SptOk s
  few : h.at_.length ≤ 600
  len : h.used.length ≤ 2006
  nodup : (h.dir ++ h.at_.flatMap (·.pages)).Nodup
  used : ∀ p, h.used.getD p false = true ↔ p ∈ h.dir ++ h.at_.flatMap (·.pages)
theorem HtOk.pre {h : Ht} (k : HtOk h) : HtPre h := ⟨k.asc, k.each, k.few, k.len, k.nodup, k.used⟩

structure Planned (h : Ht) (l : List Chg) (P : List Nat) (x : Ht) (q : List Pt) : Prop where
  ok : HtOk x
  len : x.used.length = h.used.length
  free : P.Nodup ∧ ∀ p ∈ P, p < h.used.length ∧ h.used.getD p false = false
  few : P.length + 1 ≤ 40
  enough : takeC l ≤ P.length
  at_ : x.at_.Perm (keptL h.at_ l ++ newsL l P)
  dir : x.dir = P.drop (takeC l)
  puts : q = (newsL l P).flatMap (fun s => blobPuts s.data s.pages) ++ (dirPuts x.at_ x.dir ++ [(41, superL x.dir)])
  need : P.length = takeC l + pagesN x.at_.length

theorem plan_ok {h : Ht} {l : List Chg} {x : Ht} {q : List Pt} (hk : HtPre h) (hm : mayC l = true) (hn : noneC h.at_ l = false) (hid : ∀ c ∈ l, c.id < 18446744073709551616) (hp : planOf h l = some (x, q)) : ∃ P, Planned h l P x q := by
  unfold planOf at hp
  cases hnd : needsOf h.at_ l with
  | none => rw [hnd] at hp; cases hp
  | some n =>
    rw [hnd] at hp
    dsimp only at hp
    split at hp
    · cases hp
    · rename_i hlen
      obtain ⟨hc6, h40, hnn⟩ := needsOf_some hnd
      have hP : ((frees h.used).take n).length = n := by rw [List.length_take]; omega
      have hPf : ((frees h.used).take n).Nodup ∧ ∀ p ∈ (frees h.used).take n, p < h.used.length ∧ h.used.getD p false = false :=
        ⟨(frees_nodup _).sublist (List.take_sublist _ _), fun p hp => (frees_mem _ _).1 (List.mem_of_mem_take hp)⟩
      generalize hPP : (frees h.used).take n = P at *
      unfold planAt at hp
      rw [hPP] at hp
      simp only [Option.some.injEq, Prod.mk.injEq] at hp
      obtain ⟨rfl, rfl⟩ := hp
      have hids := mayC_ids hm
      have hgn := mayC_gone hm
      have hper := planL_perm l h.at_ [] P hids
      have hrest := planL_rest l h.at_ [] P hgn
      have hputs := planL_puts l h.at_ [] P
      have hasc := planL_asc l h.at_ [] P hk.asc
      have hcnt := countC_is l h.at_ P hk.asc hids hn
      have hlen2 : (planL l (h.at_, [], P)).1.length = (countC h.at_ l).toNat := by rw [hper.length_eq, hcnt, Int.toNat_natCast]
      have hT : takeC l ≤ P.length := by omega
      have hnew := news_mem l P hT
      have hpg : ((planL l (h.at_, [], P)).2.2 ++ (planL l (h.at_, [], P)).1.flatMap (·.pages)).Perm (P ++ (keptL h.at_ l).flatMap (·.pages)) := by
        rw [hrest]
        have h1 := (hper.flatMap_right (·.pages)).append_left (P.drop (takeC l))
        refine h1.trans ?_
        rw [List.flatMap_append, news_pages l P hgn]
        refine (List.perm_append_comm (l₁ := P.drop (takeC l))).trans ?_
        rw [List.append_assoc, List.take_append_drop]
        exact List.perm_append_comm
      have hks : ((keptL h.at_ l).flatMap (·.pages)).Sublist (h.at_.flatMap (·.pages)) := flatMap_sub _ (kept_sub _ _)
      have hnod := List.nodup_append.1 hk.nodup
      have husd : ∀ p, p ∈ h.at_.flatMap (·.pages) → h.used.getD p false = true := fun p hp => (hk.used p).2 (List.mem_append_right _ hp)
      have hnodup : (P ++ (keptL h.at_ l).flatMap (·.pages)).Nodup := List.nodup_append.2 ⟨hPf.1, hnod.2.1.sublist hks, fun a ha b hb e => by
        have h1 := (hPf.2 a ha).2
        have h2 := husd b (hks.subset hb)
        rw [e, h2] at h1; cases h1⟩
      refine ⟨P, ⟨⟨hasc, ?_, ?_, ?_, ?_, ?_, ?_⟩, ?_, hPf, by omega, hT, hper, hrest, ?_, ?_⟩⟩
      · intro s hs
        rcases List.mem_append.1 (hper.subset hs) with hs | hs
        · exact hk.each s ((kept_sub _ _).subset hs)
        · obtain ⟨h1, h2, c, hc, _, h4, h5⟩ := hnew s hs
          exact ⟨by rw [h4]; exact hid c hc, by rw [h5]; exact mayC_data hm c hc, h1, by rw [h2]; exact sumL_lt _⟩
      · show (planL l (h.at_, [], P)).1.length ≤ 600
        rw [hlen2]; omega
      · show (clearF (markF h.used P) (leftL h l)).length ≤ 2006
        rw [clearF_len, markF_len]; exact hk.len
      · exact hpg.symm.nodup hnodup
      · intro p
        show (clearF (markF h.used P) (leftL h l)).getD p false = true ↔ _
        rw [clearF_getD, markF_getD, Bool.and_eq_true, Bool.or_eq_true, Bool.and_eq_true, hk.used p, decide_eq_true_eq, decide_eq_true_eq, Bool.not_eq_true', decide_eq_false_iff_not, hpg.mem_iff]
        have hleft : p ∈ leftL h l ↔ p ∈ h.dir ∨ ∃ s ∈ h.at_, p ∈ s.pages ∧ s.key ∈ idsL l := by
          unfold leftL
          rw [List.mem_append]
          refine or_congr Iff.rfl ⟨fun hp => ?_, fun ⟨s, hs, hp, hkey⟩ => ?_⟩
          · obtain ⟨c, hc, hp⟩ := List.mem_flatMap.1 hp
            unfold pagesAt at hp
            cases ha : atL h.at_ c.id with
            | none => rw [ha] at hp; cases hp
            | some s =>
              rw [ha] at hp
              have hsk : s.key = c.id := by
                have := List.find?_some ha
                simpa using this
              exact ⟨s, atL_mem ha, hp, hsk ▸ List.mem_map_of_mem (f := fun c : Chg => c.id) hc⟩
          · obtain ⟨c, hc, hck⟩ := List.mem_map.1 hkey
            refine List.mem_flatMap.2 ⟨c, hc, ?_⟩
            unfold pagesAt
            rw [show atL h.at_ c.id = some s from ?_]
            · exact hp
            · cases ha : atL h.at_ c.id with
              | none =>
                have := List.find?_eq_none.1 ha s hs
                simp [hck] at this
              | some t =>
                have htk : t.key = c.id := by
                  have := List.find?_some ha
                  simpa using this
                have hts : t = s := by
                  rcases List.mem_iff_getElem.1 (atL_mem ha) with ⟨i, hi, rfl⟩
                  rcases List.mem_iff_getElem.1 hs with ⟨j, hj, rfl⟩
                  rcases Nat.lt_trichotomy i j with hij | hij | hij
                  · have := List.pairwise_iff_getElem.1 hk.asc i j hi hj hij
                    omega
                  · subst hij; rfl
                  · have := List.pairwise_iff_getElem.1 hk.asc j i hj hi hij
                    omega
                rw [hts]
        rw [hleft, List.mem_append, List.mem_append]
        constructor
        · rintro ⟨(hp | hp) | hp, hnl⟩
          · exact absurd (.inl hp) hnl
          · obtain ⟨s, hs, hps⟩ := List.mem_flatMap.1 hp
            refine .inr (List.mem_flatMap.2 ⟨s, kept_mem.2 ⟨hs, fun hin => hnl (.inr ⟨s, hs, hps, hin⟩)⟩, hps⟩)
          · exact .inl hp.1
        · rintro (hp | hp)
          · refine ⟨.inr ⟨hp, (hPf.2 p hp).1⟩, ?_⟩
            have h1 := (hPf.2 p hp).2
            rintro (hd | ⟨s, hs, hps, _⟩)
            · rw [(hk.used p).2 (List.mem_append_left _ hd)] at h1; cases h1
            · rw [husd p (List.mem_flatMap.2 ⟨s, hs, hps⟩)] at h1; cases h1
          · obtain ⟨s, hs, hps⟩ := List.mem_flatMap.1 hp
            obtain ⟨hs1, hs2⟩ := kept_mem.1 hs
            have hin : p ∈ h.at_.flatMap (·.pages) := List.mem_flatMap.2 ⟨s, hs1, hps⟩
            refine ⟨.inl (.inr hin), ?_⟩
            rintro (hd | ⟨t, ht, hpt, hkt⟩)
            · exact hnod.2.2 p hd p hin rfl
            · have hst : s ≠ t := fun e => hs2 (e ▸ hkt)
              obtain ⟨i, hi, rfl⟩ := List.mem_iff_getElem.1 hs1
              obtain ⟨j, hj, rfl⟩ := List.mem_iff_getElem.1 ht
              have hij : i ≠ j := fun e => hst (by subst e; rfl)
              have hnn := hnod.2.1
              unfold List.Nodup at hnn
              rw [List.pairwise_flatMap] at hnn
              rcases Nat.lt_or_gt_of_ne hij with hij | hij
              · exact List.pairwise_iff_getElem.1 hnn.2 i j hi hj hij p hps p hpt rfl
              · exact List.pairwise_iff_getElem.1 hnn.2 j i hj hi hij p hpt p hps rfl
      · show (planL l (h.at_, [], P)).2.2.length = pagesN (planL l (h.at_, [], P)).1.length
        rw [hrest, List.length_drop, hlen2]; omega
      · show (clearF (markF h.used P) (leftL h l)).length = _
        rw [clearF_len, markF_len]
      · unfold planPuts
        rw [hputs, List.nil_append]
      · show P.length = takeC l + pagesN (planL l (h.at_, [], P)).1.length
        rw [hlen2]; omega

theorem mayL_ofA {L : List (Nat × Nat)} (h : L.Pairwise fun a b => a.1 < b.1) (h6 : L.length ≤ 600) : mayL L = true := by
  have := mayL_iff (L := L) (fun j hj => by
    have := List.pairwise_iff_getElem.1 h j (j + 1) (by omega) hj (by omega)
    simpa [List.getD, List.getElem?_eq_getElem hj, List.getElem?_eq_getElem (show j < L.length by omega)] using this)
  rw [this]
  simp; omega
theorem linkN_lt {l : List Nat} (h : ∀ p ∈ l, p < 2006) : linkN l ≤ 2006 := by
  cases l with
  | nil => simp [linkN]
  | cons p l => have := h p (by simp); simp [linkN]; omega
theorem val_lt {s : Spt} (hk : SptOk s) (hp : ∀ p ∈ s.pages, p < 2006) : valN s < 18446744073709551616 := by
  have h1 := linkN_lt hp
  have h2 := hk.size
  have h3 := hk.sum
  unfold valN
  generalize linkN s.pages = a at *
  generalize s.data.length = b at *
  generalize s.sum = c at *
  omega

end Go.Proofs.YtjcmphjjkeigjaaGreat

namespace Go.Proofs.YtjcmphjjkeigjaaGreat
open Go.RowKit
set_option linter.unusedVariables false
set_option linter.unusedSimpArgs false
set_option maxRecDepth 100000

/-- puts in memory of a call's own: their row lies at B or behind, each one's octets in a row of octets -/
structure PutsO (w : World) (B : Nat) (v : Value) (M : List PutM) : Prop where
  recs : Recs putC w 118 2 v M
  own : ∀ q, v.ownBlock = some q → B ≤ q
  oct : ∀ x ∈ M, OctO w (.slice x.a x.n x.cap) x.b
/-- the blocks of puts -/
def putsU (v : Value) (M : List PutM) (k : Nat) : Prop := v.ownBlock = some k ∨ ∃ x ∈ M, (Value.slice x.a x.n x.cap).ownBlock = some k

section
variable {w w' : World} {B : Nat} {v : Value} {M : List PutM}
theorem PutsO.below (h : PutsO w B v M) (hb : Below w.heap.size w w') : PutsO w' B v M := ⟨h.recs.below hb, h.own, fun x hx => (h.oct x hx).below hb⟩
theorem PutsO.nil (w : World) (B : Nat) : PutsO w B (.slice none 0 0) [] := ⟨Recs.nil _ _ _ _, fun q hq => by simp [Value.ownBlock] at hq, by simp⟩
theorem PutsO.low {B' : Nat} (h : PutsO w B v M) (hB : B' ≤ B) : PutsO w B' v M := ⟨h.recs, fun q hq => Nat.le_trans hB (h.own q hq), h.oct⟩
theorem ne_put_octet : (5 : TypeId) ≠ 118 := by decide
/-- others are put behind -/
theorem PutsO.more (h : PutsO w B v M) {N : List PutM} {v' : Value} (hoct : ∀ x ∈ N, OctO w (.slice x.a x.n x.cap) x.b)
    (hr : Recs putC w' 118 2 v' (M ++ N)) (hg : w.grownBy w' v.ownBlock) (hv : v'.ownBlock = v.ownBlock ∨ v'.ownBlock = some w.heap.size) (hB : B ≤ w.heap.size) : PutsO w' B v' (M ++ N) := by
  have hk : ∀ x : PutM, OctO w (.slice x.a x.n x.cap) x.b → OctO w' (.slice x.a x.n x.cap) x.b := fun x ho => ho.keep fun q hq => hg.block q (ho.lt q hq) fun e => ho.typed ne_put_octet h.recs q hq e.symm
  refine ⟨hr, fun q hq => ?_, fun x hx => ?_⟩
  · rcases hv with e | e
    · exact h.own q (e ▸ hq)
    · rw [e] at hq; simp at hq; omega
  · rcases List.mem_append.1 hx with hx | hx
    · exact hk x (h.oct x hx)
    · exact hk x (hoct x hx)
theorem PutsO.into (h : PutsO w B v M) {a : Option Addr} {n cap : Nat} (hv : v = .slice a n cap) : PutsIn w (putsU v M) a n cap M := by
  subst hv
  refine ⟨h.recs.came, fun k hk => ?_, fun p hp => .inl ?_, fun x hx => (h.oct x hx).at, fun x hx p hp => .inr ⟨x, hx, ?_⟩⟩
  · rcases hk with hk | ⟨x, hx, hk⟩
    · exact h.recs.lt k hk
    · exact (h.oct x hx).lt k hk
  · rw [hp]; rfl
  · rw [hp]; rfl
/-- no other block is one of theirs -/
theorem PutsO.apart (h : PutsO w B v M) {g : Nat} {cs : Array Value} {t : TypeId} (hg : w.heap[g]? = some (.cells cs t (0, 0))) (h1 : (118 : TypeId) ≠ t) (h2 : (5 : TypeId) ≠ t) : ¬ putsU v M g := by
  rintro (hk | ⟨x, hx, hk⟩)
  · exact h.recs.ne_of hg h1 g hk rfl
  · exact (h.oct x hx).ne_of hg h2 g hk rfl
end

def PutsTo (L : List Pt) (w : World) (e : Ending) (w' : World) : Prop :=
  ∃ a cap M, e = .returned (.slice a L.length cap) ∧ M.map PutM.pt = L ∧ PutsO w' w.heap.size (.slice a L.length cap) M ∧ Below w.heap.size w w'

def zeroPut : PutM := ⟨0, none, 0, 0, []⟩
theorem dirPutsP_take (P : List (List UInt8)) (pages : List Nat) (k : Nat) : (List.range (k + 1)).map (dirPut P pages) = (List.range k).map (dirPut P pages) ++ [dirPut P pages k] := by
  rw [List.range_succ, List.map_append]; rfl

set_option maxHeartbeats 4000000 in
theorem dirPuts_any {w : World} {mb : Nat} {M : List SpM} (hm : MapAt w mb (mapL M)) (hp : ∀ x ∈ M, IntsAt w x.a x.n x.cap (pagesI x.s.pages)) (hk : ∀ x ∈ M, SptOk x.s) (hpp : ∀ x ∈ M, ∀ p ∈ x.s.pages, p < 2006) (hl : M.length ≤ 600) (hasc : (M.map (·.s)).Pairwise fun x y => x.key < y.key)
    (a : Option Addr) (n c : Nat) (pages : List Nat) (hpg : IntsAt w a n c (pagesI pages)) (hpl : ∀ p ∈ pages, p < 2006) (hlen : pagesN M.length ≤ pages.length) :
    Calls Tryz.prog 101 #[.map (some mb), .slice a n c] w (PutsTo (dirPuts (M.map (·.s)) pages) w) := by
  have CP := Lib.hid (pairsOf_any hm hp hk hpp (by omega))
  have hmay : mayL (pairsL (M.map (·.s))) = true := by
    refine mayL_ofA ?_ (by unfold pairsL; rw [List.length_map, List.length_map]; exact hl)
    unfold pairsL
    rw [List.pairwise_map]
    exact hasc
  have hfit : FitsT 1 (pairsL (M.map (·.s))) := by
    intro p hpr
    obtain ⟨s, hs, rfl⟩ := List.mem_map.1 hpr
    obtain ⟨x, hx, rfl⟩ := List.mem_map.1 hs
    exact ⟨(hk x hx).key, val_lt (hk x hx) (hpp x hx)⟩
  have hbl : (buildL (pairsL (M.map (·.s)))).length ≤ n := by
    have h1 := hpg.1
    unfold pagesI at h1
    rw [List.length_map] at h1
    rw [buildL_length]
    unfold pairsL
    rw [List.length_map, List.length_map]
    omega
  have h95 : (buildL (pairsL (M.map (·.s)))).length ≤ 95 := by
    rw [buildL_length]
    unfold pairsL
    rw [List.length_map, List.length_map]
    exact pagesN_le _ hl
  unfold dirPuts
  have hnl : pages.length = n := by have h1 := hpg.1; unfold pagesI at h1; rwa [List.length_map] at h1
  have CB := Lib.hid (fun av cap u h => build_yes av (pairsL (M.map (·.s))).length cap (pairsL (M.map (·.s))) u h hmay hfit)
  generalize hP : buildL (pairsL (M.map (·.s))) = P at *
  generalize pairsL (M.map (·.s)) = L at *
  have HPG := Lib.hid hpg
  have HPL := Lib.hid hpl
  have HNL := Lib.hid hnl
  obtain ⟨m, hm'⟩ : ∃ m, m = P.length := ⟨_, rfl⟩
  have HM := Lib.hid hm'
  have hmn : m ≤ n := by omega
  have hm95 : m ≤ 95 := by omega
  have hdl : (dirPutsP P pages).length = m := by unfold dirPutsP; rw [List.length_map, List.length_range, hm']
  have HDL := Lib.hid hdl
  unfold PutsTo
  rw [hdl]
  clear hm hp hk hpp hl hasc hpg hpl hlen hmay hfit hbl h95 hP hm' hdl hnl
  go_enter Tryz.func101, Tryz.ntmps101
  go_wp2_with fail
  refine CP.out.mono ?_
  rintro e w1 ⟨a1, c1, rfl, hr1, ho1, hb1⟩
  have CB1 := Lib.hid (CB.out a1 c1 w1 hr1.came)
  have HB1 := Lib.hid hb1
  clear hr1 ho1 hb1 CP CB
  go_wp2_with fail
  refine CB1.out.mono ?_
  rintro e w2 ⟨v, rfl, hro, hvo, hb2⟩
  obtain ⟨av, cv, rfl, _, _⟩ := hro.form
  rw [← HM.out] at hro hvo ⊢
  have HB2 := Lib.hid (HB1.out.trans (hb2.mono HB1.out.size))
  have HVO := Lib.hid hvo
  have HRO := Lib.hid hro
  clear hro hvo hb2 CB1
  obtain ⟨i0, hi, hz0, hz1, hz2⟩ := info_parts infoPut
  go_wp2_with (at_make; refine wpList_make_full _ rfl (.tmp 17) (.tmp 17) 104 rfl w2.heap.size 118 i0 (.agg #[.int .i64 0, .slice none 0 0]) 2 Tryz.underlying104 hi hz0 hz1 .i64 .i64 _ _ m rfl rfl rfl rfl (by rw [hz2]; omega) (by unfold maxLen; omega) (Nat.le_refl _) ?_; intro w3 hown hgrow)
  have hr0 : Recs putC w3 118 2 (.slice (some ⟨w2.heap.size, 0, none⟩) m m) (List.replicate m zeroPut) := recs_made _ #[.int .i64 0, .slice none 0 0] rfl (putC_one _) (by simp) (owned_zero hown)
  have hbel : Below w2.heap.size w2 w3 := (Below.refl _ _).grown hgrow (Nat.le_refl _) (fun k hk => by cases hk)
  have HR0 := Lib.hid hr0
  have HB0 := Lib.hid hbel
  clear hown hgrow hr0 hbel hi hz0 hz1 hz2
  go_loopw [21] (fun i wr => ∃ (k : Nat) (N : List PutM), k ≤ m ∧ i = .int .i64 k ∧ N.length = k ∧ N.map PutM.pt = (List.range k).map (dirPut P pages) ∧ Recs putC wr 118 2 (.slice (some ⟨w2.heap.size, 0, none⟩) m m) (N ++ List.replicate (m - k) zeroPut) ∧ (∀ x ∈ N, OctO wr (.slice x.a x.n x.cap) x.b) ∧ Below w2.heap.size w2 wr) (fun i _ => m - (intOf i).toNat)
  case atStart => exact ⟨0, [], Nat.zero_le _, rfl, rfl, rfl, HR0.out, by simp, HB0.out⟩
  case round =>
    clear HR0 HB0
    obtain ⟨k, N, hk, rfl, hNk, hNp, hr, hoc, hb⟩ := hrel
    have HNK := Lib.hid hNk
    have HNP := Lib.hid hNp
    have HR := Lib.hid hr
    have HOC := Lib.hid hoc
    have HB := Lib.hid hb
    clear hNk hNp hr hoc hb
    by_cases hlt : k < m
    · have hki : (k : Int) < (m : Int) := by omega
      obtain ⟨Hs, hrh, hHl, hHo⟩ := HRO.out.below HB.out
      have hHk : Hs.length = m := by rw [hHl, ← HM.out]
      obtain ⟨g, c', hv0, _, _, _⟩ := hrh.form' (by omega)
      rw [hHk] at hv0
      cases hv0
      obtain ⟨⟨ha, hn, hc⟩, hHx⟩ : ∃ x, Hs[k]? = some x := ⟨_, List.getElem?_eq_getElem (by omega)⟩
      have hc1 := hrh.cellAt k 0 _ hHx (by omega)
      have hc2 : wr.cell? ⟨g, k, none⟩ = some (.slice ha hn hc) := by simpa [hdC] using hc1
      obtain ⟨pg, hpg⟩ : ∃ x, P[k]? = some x := ⟨_, List.getElem?_eq_getElem (by have := HM.out; omega)⟩
      have hoct := hHo k _ pg hHx hpg
      dsimp only at hoct
      obtain ⟨bp, off, rfl, hbb, hcs⟩ := IntsAt.cell (CameAt.below HPG.out (by omega) (HB2.out.trans (HB.out.mono HB2.out.size))) (by omega)
      have hck := hcs k (by omega)
      obtain ⟨p, hp⟩ : ∃ p, pages[k]? = some p := ⟨_, List.getElem?_eq_getElem (by have := HNL.out; omega)⟩
      rw [show (pagesI pages).getD k 0 = (p : Int) by unfold pagesI; rw [List.getD, List.getElem?_map, hp]; rfl] at hck
      have hp6 := HPL.out p (List.mem_of_getElem? hp)
      have HPT := Lib.hid (show dirPut P pages k = (42 + (p : Int), pg) by unfold dirPut; rw [List.getD, List.getD, hp, hpg]; simp)
      have CPP := Lib.hid (pagePut_any p (.slice ha hn hc) wr (by omega) ⟨ha, hn, hc, rfl⟩)
      have HOCT := Lib.hid hoct
      have hln : (N ++ List.replicate (m - k) zeroPut).length = m := by rw [List.length_append, List.length_replicate, HNK.out]; omega
      have HLN := Lib.hid hln
      clear hrh hHl hHo hHk hHx hc1 hpg hoct hcs hp hln
      go_wp2_with (first
        | (go_at_call 146; refine CPP.out.mono ?_; rintro e w5 ⟨rfl, hb5⟩; have HRA := Lib.hid (HR.out.below hb5); have HB5 := Lib.hid hb5; have HTH := Lib.hid ((HR.out.below hb5).there k (by rw [HLN.out]; exact hlt)))
        | (refine wpList_store_mid rfl 118 _ _ rfl w2.heap.size (k * 2) #[.int .i64 (42 + (p : Int)), .slice ha hn hc] rfl rfl (by simpa using HTH.out) sizePut (by simp [Value.oneCell']) ?_))
      go_roundw
      case rel =>
        have hput := HRA.out.put k (by rw [HLN.out]; exact hlt) ⟨42 + (p : Int), ha, hn, hc, pg⟩ rfl (putC_one _)
        have hfill : (N ++ List.replicate (m - k) zeroPut).set k ⟨42 + (p : Int), ha, hn, hc, pg⟩ = (N ++ [⟨42 + (p : Int), ha, hn, hc, pg⟩]) ++ List.replicate (m - (k + 1)) zeroPut := by
          rw [List.set_append_right _ _ (by rw [HNK.out]; exact Nat.le_refl _), HNK.out, Nat.sub_self, show m - k = (m - (k + 1)) + 1 by omega, List.replicate_succ, List.set_cons_zero, List.append_assoc]
          rfl
        rw [hfill] at hput
        have hbw := HB.out.trans (HB5.out.mono HB.out.size)
        have hkeep : ∀ (a : Option Addr) (n c : Nat) (b : List UInt8), OctO wr (.slice a n c) b → OctO _ (.slice a n c) b := fun a n c b ho => (ho.below HB5.out).keep fun q hq => hput.2.block q ((ho.below HB5.out).lt q hq) fun e => (ho.below HB5.out).typed ne_put_octet HRA.out q hq (by rw [e]; rfl)
        refine ⟨k + 1, N ++ [PutM.mk (42 + (p : Int)) ha hn hc pg], by omega, by go_num, by rw [List.length_append, HNK.out]; rfl, ?_, hput.1, fun x hx => ?_, hbw.grown hput.2 (by have := hbw.size; omega) (fun q hq => by simp at hq; omega)⟩
        · rw [List.map_append, HNP.out, dirPutsP_take, HPT.out]; rfl
        · rcases List.mem_append.1 hx with hx | hx
          · exact hkeep _ _ _ _ (HOC.out x hx)
          · rw [List.mem_singleton.1 hx]
            exact hkeep _ _ _ _ HOCT.out
      case measure => simp [intOf]; omega
    · obtain rfl : k = m := by omega
      have hki : ¬ (k : Int) < (k : Int) := by omega
      have hr := HR.out
      rw [Nat.sub_self, List.replicate_zero, List.append_nil] at hr
      have HR2 := Lib.hid hr
      clear hr
      go_wp2
      go_ret
      exact ⟨_, _, rfl, N, HNP.out.trans (by unfold dirPutsP; rw [← HM.out]), ⟨HR2.out, fun q hq => by simp [Value.ownBlock] at hq; have := HB2.out.size; omega, HOC.out⟩, HB2.out.trans (HB.out.mono HB2.out.size)⟩

end Go.Proofs.YtjcmphjjkeigjaaGreat
