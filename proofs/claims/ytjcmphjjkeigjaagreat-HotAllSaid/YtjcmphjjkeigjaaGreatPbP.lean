/-
  A piece of the proof, laid together by program: HtY HtZ HtAA.
-/
import Derived.Test.YtjcmphjjkeigjaaGreatPbJ
import Derived.Test.YtjcmphjjkeigjaaGreatPbL
import Derived.Test.YtjcmphjjkeigjaaGreatPbN
import Derived.Test.YtjcmphjjkeigjaaGreatPbO

namespace Go.Proofs.YtjcmphjjkeigjaaGreat
open Go.RowKit
set_option linter.unusedVariables false
set_option linter.unusedSimpArgs false
set_option maxRecDepth 100000

theorem spots_apart {h : Ht} (hk : HtPre h) {s t : Spt} (hs : s ∈ h.at_) (ht : t ∈ h.at_) (hne : s.key ≠ t.key) {x y : Nat} (hx : x ∈ s.pages) (hy : y ∈ t.pages) : x ≠ y := by
  intro e
  subst e
  obtain ⟨i, hi, rfl⟩ := List.mem_iff_getElem.1 hs
  obtain ⟨j, hj, rfl⟩ := List.mem_iff_getElem.1 ht
  have hij : i ≠ j := fun e => hne (by subst e; rfl)
  have hnn := (List.nodup_append.1 hk.nodup).2.1
  unfold List.Nodup at hnn
  rw [List.pairwise_flatMap] at hnn
  rcases Nat.lt_or_gt_of_ne hij with hij | hij
  · exact List.pairwise_iff_getElem.1 hnn.2 i j hi hj hij x hx x hy rfl
  · exact List.pairwise_iff_getElem.1 hnn.2 j i hj hi hij x hy x hx rfl
theorem pagesAt_mem {b : List Spt} {k p : Nat} (hp : p ∈ pagesAt b k) : ∃ s ∈ b, s.key = k ∧ p ∈ s.pages := by
  unfold pagesAt at hp
  cases ha : atL b k with
  | none => rw [ha] at hp; cases hp
  | some s =>
    rw [ha] at hp
    exact ⟨s, atL_mem ha, by have := List.find?_some ha; simpa using this, hp⟩
theorem used_lt {F : List Bool} {p : Nat} (h : F.getD p false = true) : p < F.length := by
  rcases Nat.lt_or_ge p F.length with hh | hh
  · exact hh
  · rw [List.getD, List.getElem?_eq_none hh] at h; cases h
theorem left_ok {h : Ht} {l : List Chg} (hk : HtPre h) (hm : mayC l = true) : (leftL h l).Nodup ∧ ∀ p ∈ leftL h l, p < h.used.length ∧ h.used.getD p false = true := by
  have hu : ∀ p ∈ leftL h l, h.used.getD p false = true := fun p hp => by
    rcases List.mem_append.1 hp with hp | hp
    · exact (hk.used p).2 (List.mem_append_left _ hp)
    · obtain ⟨c, hc, hp⟩ := List.mem_flatMap.1 hp
      obtain ⟨s, hs, _, hps⟩ := pagesAt_mem hp
      exact (hk.used p).2 (List.mem_append_right _ (List.mem_flatMap.2 ⟨s, hs, hps⟩))
  refine ⟨?_, fun p hp => ⟨used_lt (hu p hp), hu p hp⟩⟩
  have hnod := List.nodup_append.1 hk.nodup
  refine List.nodup_append.2 ⟨hnod.1, ?_, fun a ha b hb => ?_⟩
  · unfold List.Nodup
    rw [List.pairwise_flatMap]
    refine ⟨fun c _ => ?_, ?_⟩
    · unfold pagesAt
      cases ha : atL h.at_ c.id with
      | none => exact List.Pairwise.nil
      | some s =>
        have hnn := hnod.2.1
        unfold List.Nodup at hnn
        rw [List.pairwise_flatMap] at hnn
        exact hnn.1 s (atL_mem ha)
    · have hids := mayC_ids hm
      unfold idsL List.Nodup at hids
      rw [List.pairwise_map] at hids
      refine hids.imp fun {c d} hcd x hx y hy => ?_
      obtain ⟨s, hs, hsk, hxs⟩ := pagesAt_mem hx
      obtain ⟨t, ht, htk, hyt⟩ := pagesAt_mem hy
      exact spots_apart hk hs ht (by rw [hsk, htk]; exact hcd) hxs hyt
  · obtain ⟨c, hc, hp⟩ := List.mem_flatMap.1 hb
    obtain ⟨s, hs, _, hps⟩ := pagesAt_mem hp
    exact hnod.2.2 a ha b (List.mem_flatMap.2 ⟨s, hs, hps⟩)

theorem pagesAt_few {h : Ht} (k : HtPre h) (q : Nat) : (pagesAt h.at_ q).length ≤ 100 := by
  unfold pagesAt
  cases hs : atL h.at_ q with
  | none => simp
  | some s =>
    have h1 := (k.each s (atL_mem hs)).pages
    have h2 := (k.each s (atL_mem hs)).size
    show s.pages.length ≤ 100
    rw [h1]; unfold pfor; omega
theorem exec_load_mid {o : Oper} {a : Act} {u : World} (ty : TypeId) (x : Operand) (ho : o.op = .load ty x) (b off : Nat) (hx : a.eval x = .pointer (some ⟨b, off, none⟩)) (cs : List Value) (d : TypeDesc) (hc : u.rangeAt b off cs)
    (hu : Tryz.prog.underlying ty = some d) (hd : d.isRow = true) (hi : (Tryz.prog.info? ty).map (·.size) = some cs.length) : (execOp a.eval o).run Tryz.prog u = .ok (.value (.agg cs.toArray)) u := by
  unfold execOp
  simp only [ho, hx, Instr.loadAt, Instr.sureAddr, Sem.run_bind, Sem.run_pure, Result.andThen_ok, run_loadVar_mid u b off ty cs d hc hu hd hi]

theorem planL_take (l : List Chg) (s : Pln) (j : Nat) (c : Chg) (hc : l[j]? = some c) : planL (l.take (j + 1)) s = planStep (planL (l.take j) s) c := by
  unfold planL
  rw [List.take_add_one, hc, Option.toList_some, List.foldl_append]
  rfl

theorem mapL_del (M : List SpM) (id : Nat) : mdelV (mapL M) id = mapL (M.filter fun x => !(x.s.key == id)) := by
  unfold mdelV mapL
  rw [List.filter_map]
  rfl
theorem spts_del (M : List SpM) (id : Nat) : (M.filter fun x => !(x.s.key == id)).map (·.s) = delL (M.map (·.s)) id := by
  unfold delL
  rw [List.filter_map]
  rfl
theorem PutsO.offmap {u u' : World} {B : Nat} {v : Value} {N : List PutM} {mb : Nat} {L : List (Nat × Value)} (h : PutsO u B v N) (hm : MapAt u mb L) (ho : Only (fun q => q = mb) u u') : PutsO u' B v N :=
  ⟨h.recs.only ho fun q hq e => by obtain ⟨cur, hc⟩ := h.recs.blk q hq; exact hm.ne_cells hc e, h.own, fun x hx => (h.oct x hx).only ho fun q hq e => by obtain ⟨cur, hc⟩ := (h.oct x hx).blk q hq; exact hm.ne_cells hc e⟩

theorem wp_append_puts {w : World} {o : Oper} {a : Act} {K : Act → World → Prop} {Q : Exit → Act → World → Prop} (s x : Operand)
    (ho : o.op = .call { callee := .builtin .append, args := #[s, x], argTypes := #[104, 104] })
    (v : Value) (N : List PutM) (hs : a.eval s = v) (hown : Recs putC w 118 2 v N)
    (sa : Option Addr) (m c : Nat) (N2 : List PutM) (hx : a.eval x = .slice sa m c) (hsrc : CameAt putC 2 w sa m c N2) (h63 : N.length + m ≤ 1000000)
    (h : ∀ v' w', Recs putC w' 118 2 v' (N ++ N2) → w.grownBy w' v.ownBlock → (v'.ownBlock = v.ownBlock ∨ v'.ownBlock = some w.heap.size) → K (a.put o.dst v') w') : Oper.wp Tryz.prog o a w K Q := by
  obtain ⟨i0, hi, hz0, hz1, hz2⟩ := info_parts infoPut
  obtain ⟨h1, h2, h3, h4, h5⟩ := hsrc
  rcases h5 with ⟨rfl, rfl, rfl⟩ | ⟨ad, rfl, hc⟩
  · have : N2 = [] := List.eq_nil_of_length_eq_zero h1
    subst this
    have hrun := run_append_owned_none (P := Tryz.prog) (w := w) 0 104 o.type 118 i0 2 Tryz.underlying104 hi v N.length _ hown.2.2
    unfold Oper.wp
    simp [execOp, ho, resolve, invoke, builtin, hs, hx, hrun, Result.andThen]
    rw [Oper.upon_value]
    have := h v w (by simpa using hown) (World.grownBy.refl _ _) (.inl rfl)
    simpa using this
  · subst h1
    refine wp_append_recs (f := putC) s x 104 ho 118 i0 _ 2 32 Tryz.underlying104 hi hz0 hz1 hz2 (by simp [Value.cells]) (by omega) v N hs hown ad N2.length c N2 hx rfl (fun y _ => rfl) (fun y _ => putC_one y) (fun j u hu => ?_) (by unfold maxLen; omega) (by omega) h
    have hjl : j < N2.length * 2 := by
      have := (List.getElem?_eq_some_iff.1 hu).1
      rwa [flatMap_len (f := putC) (size := 2) N2 (fun _ _ => rfl)] at this
    have hx : N2[j / 2]? = some N2[j / 2] := List.getElem?_eq_getElem (by omega)
    have hd : j / 2 * 2 + j % 2 = j := by omega
    have := hc (j / 2) (j % 2) _ hx (by omega)
    rw [hd] at this
    rw [this, ← flatMap_at N2 (f := putC) (size := 2) (fun _ _ => rfl) (j / 2) (j % 2) _ hx (by omega), hd, hu]
theorem wpList_append_puts {w : World} {ops : Array Oper} {rest : List Oper} {o : Oper} {a : Act} {Q : Exit → Act → World → Prop} (hgd : o.guard = none) (s x : Operand)
    (ho : o.op = .call { callee := .builtin .append, args := #[s, x], argTypes := #[104, 104] })
    (v : Value) (N : List PutM) (hs : a.eval s = v) (hown : Recs putC w 118 2 v N)
    (sa : Option Addr) (m c : Nat) (N2 : List PutM) (hx : a.eval x = .slice sa m c) (hsrc : CameAt putC 2 w sa m c N2) (h63 : N.length + m ≤ 1000000)
    (h : ∀ v' w', Recs putC w' 118 2 v' (N ++ N2) → w.grownBy w' v.ownBlock → (v'.ownBlock = v.ownBlock ∨ v'.ownBlock = some w.heap.size) → wpList Tryz.prog ops Q rest (a.put o.dst v') w') : wpList Tryz.prog ops Q (o :: rest) a w :=
  wpList_plain hgd fun _ hK => wp_append_puts s x ho v N hs hown sa m c N2 hx hsrc h63 fun v' w' h1 h2 h3 => hK _ _ (h v' w' h1 h2 h3)
theorem news_len : ∀ (l : List Chg) (P : List Nat), (newsL l P).length ≤ l.length ∧ ((newsL l P).flatMap fun s => blobPuts s.data s.pages).length ≤ takeC l
  | [], P => by simp [newsL, takeC_nil]
  | c :: l, P => by
    unfold newsL
    rw [takeC_cons]
    split
    · have := news_len l P
      simp only [List.length_cons]
      omega
    · have := news_len l (P.drop (pfor c.data.length))
      have hb : (blobPuts (newS c (P.take (pfor c.data.length))).data (newS c (P.take (pfor c.data.length))).pages).length = pfor c.data.length := by
        unfold blobPuts; rw [List.length_map, List.length_range]; rfl
      rw [List.flatMap_cons, List.length_append, hb]
      simp only [List.length_cons]
      omega
theorem takeC_mono (l : List Chg) (j : Nat) : takeC (l.take j) ≤ takeC l := by
  induction l generalizing j with
  | nil => simp
  | cons c l ih =>
    cases j with
    | zero => simp [takeC_nil]
    | succ j =>
      rw [List.take_succ_cons, takeC_cons, takeC_cons]
      have := ih j
      omega
/-- what the first changes have come to -/
theorem planL_some {h : Ht} {l : List Chg} {P : List Nat} (hm : mayC l = true) (hP : takeC l ≤ P.length) (j : Nat) : (planL (l.take j) (h.at_, [], P)).2.2 = P.drop (takeC (l.take j)) ∧
    (planL (l.take j) (h.at_, [], P)).2.1.length ≤ takeC l ∧ (planL (l.take j) (h.at_, [], P)).1.length ≤ h.at_.length + j ∧ (∀ c, l[j]? = some c → pfor c.data.length ≤ (planL (l.take j) (h.at_, [], P)).2.2.length) := by
  have hg := mayC_gone hm
  have hg' : ∀ c ∈ l.take j, c.gone = true → c.data.length = 0 := fun c hc => hg c (List.mem_of_mem_take hc)
  have h1 := planL_rest (l.take j) h.at_ [] P hg'
  have h2 := planL_puts (l.take j) h.at_ [] P
  have h3 := news_len (l.take j) P
  have h4 := takeC_mono l j
  have hids : (idsL (l.take j)).Nodup := by
    have := mayC_ids hm
    unfold idsL at *
    rw [List.map_take]
    exact this.sublist (List.take_sublist _ _)
  have h5 := (planL_perm (l.take j) h.at_ [] P hids).length_eq
  have h6 := (kept_sub h.at_ (l.take j)).length_le
  rw [List.length_append] at h5
  have h7 : (l.take j).length ≤ j := by rw [List.length_take]; omega
  refine ⟨h1, by rw [h2]; simp only [List.nil_append]; omega, by omega, fun c hc => ?_⟩
  have h8 := takeC_take l j c hc
  have h9 := takeC_mono l (j + 1)
  rw [h1, List.length_drop]
  omega

theorem insL_del (b : List Spt) (s : Spt) : insL b s = insL (delL b s.key) s := by
  unfold insL delL
  rw [List.filter_filter, List.filter_filter]
  congr 1
  · refine List.filter_congr fun x _ => ?_
    by_cases h : x.key = s.key <;> simp [h]
  · congr 1
    refine List.filter_congr fun x _ => ?_
    by_cases h : x.key = s.key <;> simp [h]

def hotZ : Array Value := #[.pointer none, .map none, .slice none 0 0, .int .i64 0, .slice none 0 0]
theorem sizeHot : (Tryz.prog.info? 103).map (·.size) = some 5 := by kernel_rfl

def PlanTo (r : Option (Ht × List Pt)) (U : Nat → Prop) (gd : Nat) (w : World) (e : Ending) (w' : World) : Prop :=
  (r = none ∧ e = .returned (.tuple #[.agg hotZ, .slice none 0 0, .int .i64 5]) ∧ Below w.heap.size w w') ∨
    ∃ h' q mb da dn dc ba bn bc M pa pc N, r = some (h', q) ∧ e = .returned (.tuple #[.agg (hotC gd mb da dn dc h'.used.length ba bn bc), .slice pa q.length pc, .int .i64 0]) ∧
      HotV w' (fun k => U k ∨ (w.heap.size ≤ k ∧ k < w'.heap.size)) mb da dn dc ba bn bc M h' ∧ N.map PutM.pt = q ∧ PutsO w' w.heap.size (.slice pa q.length pc) N ∧ Below w.heap.size w w'

section
variable {w : World} {S U : Nat → Prop} {g gd : Nat} {D : Dk} {h : Ht}
set_option maxHeartbeats 4000000 in
theorem plan_any {V : Nat → Prop} {a : Option Addr} {n cap : Nat} {M : List ChgM} (k : HotAt w S U g gd D h) (hM : ChgsIn w V a n cap M) (hk : HtPre h) (hdl : h.dir.length ≤ 100) (hm : mayC (M.map (·.c)) = true) (hno : noneC h.at_ (M.map (·.c)) = false) (hn47 : n ≤ 100000) :
    Calls Tryz.prog 49 #[.pointer (some ⟨g, 0, none⟩), .slice a n cap] w (PlanTo (planOf h (M.map (·.c))) U gd w) := by
  have hdat := mayC_data hm
  have hb0 : Below w.heap.size w (w.alloc (.cells hotZ 103)) := (Below.refl _ _).alloc (Nat.le_refl _) _
  have hx0 := heap_alloc_new w (.cells hotZ 103)
  have CN := Lib.hid (needs_any (k.below hb0) (hM.below hb0) (fun x hx => hdat _ (List.mem_map_of_mem (f := fun x : ChgM => x.c) hx)) (by have := hk.few; omega) (by omega) (countC_nonneg _ _ hm hno))
  obtain ⟨r, hr⟩ : ∃ r, r = planOf h (M.map (·.c)) := ⟨_, rfl⟩
  have hr2 := hr
  unfold planOf at hr2
  have HR := Lib.hid hr2
  have HPO := Lib.hid (fun x q (hx : r = some (x, q)) => plan_ok hk hm hno (fun c hc => by
    obtain ⟨y, hy, rfl⟩ := List.mem_map.1 hc
    exact hM.id y hy) (hr ▸ hx : planOf h (M.map (·.c)) = some (x, q)))
  rw [← hr]
  have HK := Lib.hid k
  have HM := Lib.hid hM
  have HB0 := Lib.hid hb0
  have HX0 := Lib.hid hx0
  have HPRE := Lib.hid hk
  have HMAY := Lib.hid hm
  have HNO := Lib.hid hno
  have hNS := fun (N : Nat) hN => needsOf_some (b := h.at_) (l := M.map (·.c)) (n := N) hN
  have HNS := Lib.hid hNS
  clear k hM hr hr2 hb0 hx0 hk hm hno hdat hNS
  generalize hnd : needsOf h.at_ (M.map (·.c)) = nd at *
  unfold hotZ at CN
  go_enter Tryz.func49, Tryz.ntmps49
  go_wp2_with fail
  refine CN.out.mono ?_
  rintro e w1 ⟨rfl, hb1⟩
  unfold hotZ at HB0
  have HB1 := Lib.hid (HB0.out.trans (hb1.mono HB0.out.size))
  have HX1 := Lib.hid ((hb1.block w.heap.size (by simp)).trans HX0.out)
  clear hb1 CN HX0 HB0
  cases nd with
  | none =>
    have hrn := HR.out
    dsimp only at hrn
    subst hrn
    clear HR HNS
    rw [if_pos rfl]
    go_wp2_with (refine wpList_store_row rfl _ _ _ rfl w.heap.size hotZ rfl rfl 103 _ HX1.out sizeHot rfl (by simp [hotZ, Value.oneCell']) ?_)
    exact bodyPost_ret (v := .tuple #[.agg hotZ, .slice none 0 0, .int .i64 5]) (results_cell_slots rfl _ _ w.heap.size 103 hotZ (0, 0) _ _ _ rfl (heap_setRow_same _ _ _ _ _ HX1.out) rfl rfl Tryz.underlying103 rfl sizeHot) rfl (.inl ⟨rfl, rfl, below_setRow HB1.out (Nat.le_refl _) _⟩)
  | some need =>
    obtain ⟨_, hn40, hneed⟩ := HNS.out need rfl
    have HNEED := Lib.hid hneed
    clear hneed
    have hrn := HR.out
    dsimp only at hrn
    have HR := Lib.hid hrn
    obtain ⟨mb, da, dn, dc, ba, bn, bc, MM, hlat⟩ := HK.out.later
    have HLAT := Lib.hid hlat
    obtain ⟨hg1, hv1⟩ := hlat w1 HB1.out
    have hsp := hot_space hg1
    have HSP := Lib.hid hsp
    have CT := Lib.hid (fun u (hu : Below w.heap.size w u) => take_ok h.used.length need ba bn bc h.used u (hlat u hu).2.used (by omega))
    have hff : takeR h.used (need : Int) = if (frees h.used).length < need then ([], [], 5) else (markF h.used ((frees h.used).take need), (frees h.used).take need, 0) := by
      unfold takeR
      rw [if_neg (by omega), Int.toNat_natCast]
      by_cases hc : (frees h.used).length < need
      · rw [if_pos hc, if_pos (by omega)]
      · rw [if_neg hc, if_neg (by omega)]
    rw [hff] at CT
    clear hrn hlat hsp hff hg1 hv1
    rw [if_neg (by simp)]
    have hni : (5 : Int) ≠ 0 := by omega
    unfold spV at CT
    clear HNS
    go_wp2_with (refine wpList_load_mid rfl 101 _ rfl g 3 rfl [.int .i64 (h.used.length : Nat), .slice ba bn bc] _ HSP.out Tryz.underlying101 rfl sizeSp ?_)
    refine (CT.out w1 HB1.out).mono ?_
    by_cases hfew : (frees h.used).length < need
    · rw [if_pos hfew]
      rintro e w2 ⟨a2, n2, c2, a3, c3, rfl, _, _, hb2⟩
      have hrn := HR.out
      rw [if_pos hfew] at hrn
      subst hrn
      have HB2 := Lib.hid (HB1.out.trans (hb2.mono HB1.out.size))
      have hx2 := (hb2.block w.heap.size (Array.getElem?_eq_some_iff.1 HX1.out).1).trans HX1.out
      have HX2 := Lib.hid (((Below.refl w2.heap.size w2).alloc (Nat.le_refl _) (.cells #[.int .i64 (([] : List Bool).length : Nat), .slice a2 n2 c2] 101)).block w.heap.size (Array.getElem?_eq_some_iff.1 hx2).1 |>.trans hx2)
      have HB3 := Lib.hid (HB2.out.alloc HB2.out.size (.cells #[.int .i64 (([] : List Bool).length : Nat), .slice a2 n2 c2] 101))
      clear hb2 hx2 CT HR hfew HX1 HSP
      unfold spV
      go_wp2_with (refine wpList_store_row rfl _ _ _ rfl w.heap.size hotZ rfl rfl 103 _ HX2.out sizeHot rfl (by simp [hotZ, Value.oneCell']) ?_)
      exact bodyPost_ret (v := .tuple #[.agg hotZ, .slice none 0 0, .int .i64 5]) (results_cell_slots rfl _ _ w.heap.size 103 hotZ (0, 0) _ _ _ rfl (heap_setRow_same _ _ _ _ _ HX2.out) rfl rfl Tryz.underlying103 rfl sizeHot) rfl (.inl ⟨rfl, rfl, below_setRow HB3.out (Nat.le_refl _) _⟩)
    · rw [if_neg hfew]
      have hrn := HR.out
      rw [if_neg hfew] at hrn
      have HR := Lib.hid hrn
      have HPL := Lib.hid (show ((frees h.used).take need).length = need by rw [List.length_take]; omega)
      clear hfew hrn
      unfold planAt at HR
      have HPM := Lib.hid (fun p (hp : p ∈ (frees h.used).take need) => (frees_mem _ _).1 (List.mem_of_mem_take hp))
      generalize (frees h.used).take need = P at *
      rintro e w2 ⟨a2, n2, c2, a3, c3, rfl, ho2, ho3, hb2⟩
      dsimp only at ho2 ho3 ⊢
      rw [HPL.out] at ho3 ⊢
      unfold spV
      obtain ⟨N, hN⟩ : ∃ N, N = (markF h.used P).length := ⟨_, rfl⟩
      have hN2 : N = h.used.length := by rw [hN, markF_len]
      have HNL := Lib.hid hN2
      rw [← hN]
      have hsp2 : SpAt w2 N a2 n2 c2 (markF h.used P) := ⟨by rw [← hN, hN2]; have := HPRE.out.len; omega, by rw [hN], BytesAt.owned ho2⟩
      have hi3 : IntsAt w2 a3 need c3 (pagesI P) := ints_owned ho3
      have hb3 : Below w2.heap.size w2 (w2.alloc (.cells #[.int .i64 (N : Nat), .slice a2 n2 c2] 101)) := (Below.refl _ _).alloc (Nat.le_refl _) _
      have hx3 := heap_alloc_new w2 (.cells #[.int .i64 (N : Nat), .slice a2 n2 c2] 101)
      have hz3 : (w2.alloc (.cells #[.int .i64 (N : Nat), .slice a2 n2 c2] 101)).heap.size = w2.heap.size + 1 := by simp
      have HB2 := Lib.hid (HB1.out.trans (hb2.mono HB1.out.size))
      have HI2 := Lib.hid hi3
      have HI2B := Lib.hid (show ∀ p, a3 = some p → w.heap.size < p.block ∧ p.block < w2.heap.size from fun p hp => by
        have := ho3.lt p.block (by rw [hp]; rfl)
        have := HB1.out.size
        have := (Array.getElem?_eq_some_iff.1 HX1.out).1
        omega)
      have HX2 := Lib.hid ((hb2.block w.heap.size (Array.getElem?_eq_some_iff.1 HX1.out).1).trans HX1.out)
      have HB12 := Lib.hid (show w.heap.size < w2.heap.size from Nat.lt_of_lt_of_le (Array.getElem?_eq_some_iff.1 HX1.out).1 hb2.size)
      have HSP2 := Lib.hid hsp2
      clear ho2 ho3 hb2 hsp2 hi3 hN hN2 CT HX1 HSP
      have CL := Lib.hid (fun u (hu : Below w.heap.size w u) => left_any (HK.out.below hu) (HM.out.below hu) (by omega) (fun q => pagesAt_few HPRE.out q) (by omega))
      obtain ⟨hln, hlu⟩ := left_ok HPRE.out HMAY.out
      have htb := turn_back 6 (leftL h (M.map (·.c))) (markF h.used P) hln fun p hp => by
        obtain ⟨h1, h2⟩ := hlu p hp
        refine ⟨by rw [markF_len]; exact h1, by rw [markF_getD, h2]; rfl⟩
      have HTB := Lib.hid htb
      have HCL := Lib.hid (show (clearF (markF h.used P) (leftL h (M.map (·.c)))).length = N by rw [clearF_len, markF_len]; exact HNL.out.symm)
      generalize hLL : leftL h (M.map (·.c)) = LL at *
      generalize hF1 : markF h.used P = F1 at *
      clear hln hlu htb
      go_upto_region 7 with (fail)
      generalize w2.alloc (.cells #[.int .i64 (N : Nat), .slice a2 n2 c2] 101) = w3 at *
      have HB3 := Lib.hid (HB2.out.trans (hb3.mono HB2.out.size))
      have HSP3 := Lib.hid (show SpAt w3 N a2 n2 c2 F1 from ⟨HSP2.out.len, HSP2.out.num, HSP2.out.oct.below hb3⟩)
      have HX3 := Lib.hid (show w3.heap[w.heap.size]? = some (.cells hotZ 103 (0, 0)) from (hb3.block w.heap.size (Array.getElem?_eq_some_iff.1 HX2.out).1).trans HX2.out)
      have HI3 := Lib.hid (show IntsAt w3 a3 need c3 (pagesI P) from CameAt.below HI2.out (by omega) hb3)
      have HBX := Lib.hid hx3
      have HZ3 := Lib.hid hz3
      have HB23 := Lib.hid hb3
      obtain ⟨B9, hB9⟩ : ∃ B, B = w2.heap.size := ⟨_, rfl⟩
      rw [← hB9] at HBX HZ3 ⊢
      have HB9 := Lib.hid hB9
      clear hb3 hx3 hz3 hB9 HX2 HI2 HSP2
      have hrange : ∀ u : World, u.heap[B9]? = some (.cells #[.int .i64 (N : Nat), .slice a2 n2 c2] 101 (0, 0)) → u.rangeAt B9 0 [.int .i64 (N : Nat), .slice a2 n2 c2] := fun u hu j x hj => by
        match j, hj with
        | 0, hj => simp only [List.getElem?_cons_zero, Option.some.injEq] at hj; rw [← hj, cell_of_row _ _ _ _ _ _ hu]; rfl
        | 1, hj => simp only [List.getElem?_cons_succ, List.getElem?_cons_zero, Option.some.injEq] at hj; rw [← hj, cell_of_row _ _ _ _ _ _ hu]; rfl
        | j + 2, hj => simp at hj
      have C1 := Lib.hid (CL.out w3.drew HB3.out.drew)
      clear CL
      refine region_headW 9 8 [0, 1, 2, 3, 4, 5, 6, 7, 8] [3, 4] [7] (fun u => u.heap[B9]? = some (.cells #[.int .i64 (N : Nat), .slice a2 n2 c2] 101 (0, 0))) (by kernel_rfl) (by kernel_rfl) HBX.out ?_
      simp only [pickO, List.filterMap_cons, List.filterMap_nil, List.getElem?_cons_zero, List.getElem?_cons_succ, Option.map_some, List.drop_succ_cons, List.drop_zero]
      refine seqW_read (.agg #[.int .i64 (N : Nat), .slice a2 n2 c2]) (by decide) rfl rfl rfl (fun u hu => exec_load_mid 101 _ rfl B9 0 rfl [.int .i64 (N : Nat), .slice a2 n2 c2] _ (hrange u hu) Tryz.underlying101 rfl sizeSp) ?_
      try simp only [Act.put, List.setIfInBounds_toArray, List.set_cons_zero, List.set_cons_succ]
      clear hrange
      iterate 2
        refine seqW_read _ (by decide) rfl rfl rfl (by rintro u hu; clear hu; go_simp; with_reducible rfl) ?_
        try simp only [Act.put, List.setIfInBounds_toArray, List.set_cons_zero, List.set_cons_succ]
      refine seqW_move (by decide) rfl rfl (fun Kk hK => ?_)
      go_simp
      refine C1.out.mono ?_
      rintro e w4 ⟨a4, c4, rfl, ho4, hb4⟩
      have hbx4 := (hb4.block B9 (by have := HZ3.out; show B9 < w3.heap.size; omega)).trans HBX.out
      refine hK _ _ hbx4 ?_
      clear hK Kk C1
      try simp only [Act.put, List.setIfInBounds_toArray, List.set_cons_zero, List.set_cons_succ]
      have HB4 := Lib.hid (HB3.out.drew.trans (hb4.mono HB3.out.size))
      have HB24 := Lib.hid (show w.heap.size < w4.heap.size from by have := HB12.out; have := HB23.out.size; have := hb4.size; have hdz : w3.drew.heap.size = w3.heap.size := rfl; omega)
      have hb34 : Below w3.heap.size w3 w4 := (Below.refl w3.heap.size w3).drew.trans hb4
      have CG := Lib.hid (give_ok N a2 n2 c2 F1 a4 (pagesI LL).length c4 (pagesI LL) w4 ⟨HSP3.out.len, HSP3.out.num, HSP3.out.oct.below hb34⟩ (came_owned (f := fun z => .int .i64 z) ho4))
      rw [show turnF true 6 F1 (pagesI LL) = (some (clearF F1 LL), 0) from HTB.out] at CG
      simp only [Option.getD_some] at CG
      have HB34 := Lib.hid hb34
      have HBX4 := Lib.hid hbx4
      clear hb4 ho4 hb34 hbx4 HSP3 HBX
      unfold spV at CG
      refine seqW_move (by decide) rfl rfl (fun Kk hK => ?_)
      go_simp
      refine CG.out.mono ?_
      rintro e w5 ⟨a5, n5, c5, rfl, ho5, hb5⟩
      have hbx5 := (hb5.block B9 (Array.getElem?_eq_some_iff.1 HBX4.out).1).trans HBX4.out
      refine hK _ _ hbx5 ?_
      clear hK Kk CG
      unfold spV
      try simp only [Act.put, List.setIfInBounds_toArray, List.set_cons_zero, List.set_cons_succ]
      iterate 2
        refine seqW_read _ (by decide) rfl rfl rfl (by rintro u hu; clear hu; go_simp; with_reducible rfl) ?_
        try simp only [Act.put, List.setIfInBounds_toArray, List.set_cons_zero, List.set_cons_succ]
      refine seqW_free _ (by decide) rfl rfl (by intro u; go_simp; with_reducible rfl) ?_
      try simp only [Act.put, List.setIfInBounds_toArray, List.set_cons_zero, List.set_cons_succ]
      rw [HCL.out]
      refine seqW_last (by decide) rfl (fun Kk hK => ?_)
      refine wp_store_row 101 _ _ rfl B9 (spV N a5 n5 c5) rfl rfl 101 _ hbx5 sizeSp rfl (spV_one _ _ _ _) ?_
      refine hK _ _ ?_
      clear hK Kk
      try simp only [Act.put, List.setIfInBounds_toArray, List.set_cons_zero, List.set_cons_succ]
      refine seqW_nil ?_
      have hb45 : Below w.heap.size w w5 := HB4.out.trans (hb5.mono HB4.out.size)
      have hB9w : w.heap.size ≤ B9 := by rw [HB9.out]; exact HB2.out.size
      have hb6 : Below w.heap.size w (w5.setRow B9 (spV N a5 n5 c5)) := below_setRow hb45 hB9w _
      have hx6 := heap_setRow_same w5 B9 (spV N a5 n5 c5) _ _ hbx5
      have hsz6 : (w5.setRow B9 (spV N a5 n5 c5)).heap.size = w5.heap.size := by simp
      have ho6 := owned_setRow (cs' := spV N a5 n5 c5) ho5 hbx5 (by decide)
      have hold : ∀ q, q < w3.heap.size → q ≠ B9 → (w5.setRow B9 (spV N a5 n5 c5)).heap[q]? = w3.heap[q]? := fun q h1 h2 => (heap_setRow_other _ _ _ _ h2).trans ((hb5.block q (by have := HB34.out.size; omega)).trans (HB34.out.block q h1))
      have HX6 := Lib.hid ((hold w.heap.size (Array.getElem?_eq_some_iff.1 HX3.out).1 (by have := HB9.out; have := HB12.out; omega)).trans HX3.out)
      have HI6 := Lib.hid (show IntsAt (w5.setRow B9 (spV N a5 n5 c5)) a3 need c3 (pagesI P) from HI3.out.keep (by omega) fun p hp _ hl => hold _ hl (by have := HI2B.out p hp; have := HB9.out; omega))
      have HSZ6 := Lib.hid (show w3.heap.size ≤ (w5.setRow B9 (spV N a5 n5 c5)).heap.size by rw [hsz6]; exact Nat.le_trans HB34.out.size hb5.size)
      generalize w5.setRow B9 (spV N a5 n5 c5) = w6 at *
      have HB6 := Lib.hid hb6
      have HBX6 := Lib.hid hx6
      have HO6 := Lib.hid ho6
      obtain ⟨hg6, hv6⟩ := HLAT.out w6 hb6
      obtain ⟨d0, d1, d2, d3, d4, df⟩ := hot_cells hg6
      have CM := Lib.hid (mclone_any hv6.at_)
      have HMEQ := Lib.hid hv6.eq
      clear hb45 hx6 hsz6 ho6 hold hb5 ho5 hbx5 HB4 HB34 HBX4 HX3 HI3 hg6 hv6 d0 d2 d3 d4 df hb6
      go_wp2_with fail
      refine CM.out.mono ?_
      rintro e w7 ⟨rfl, hm7, hb7⟩
      dsimp only
      have hb7w : Below w.heap.size w w7 := HB6.out.trans (hb7.mono HB6.out.size)
      obtain ⟨mb2, hmb2⟩ : ∃ m, m = w6.heap.size := ⟨_, rfl⟩
      have hw3 : w.heap.size < w3.heap.size := (Array.getElem?_eq_some_iff.1 HX6.out).1 |> fun _ => by have := HB12.out; have := HB23.out.size; omega
      have hmbw : w.heap.size < mb2 ∧ B9 < mb2 := by have := HSZ6.out; have := HZ3.out; omega
      rw [← hmb2] at hm7 ⊢
      have HB7 := Lib.hid hb7w
      have HX7 := Lib.hid ((hb7.block _ (Array.getElem?_eq_some_iff.1 HX6.out).1).trans HX6.out)
      have HBX7 := Lib.hid ((hb7.block _ (Array.getElem?_eq_some_iff.1 HBX6.out).1).trans HBX6.out)
      have HO7 := Lib.hid (owned_below HO6.out hb7)
      have HM7 := Lib.hid hm7
      have hmlt : mb2 < w7.heap.size := hm7.lt
      obtain ⟨hg7, hv7⟩ := HLAT.out w7 hb7w
      have HV7 := Lib.hid hv7
      have hT0 : ∀ p, a3 = some p → p.block ≠ mb2 ∧ p.block < w7.heap.size ∧ (U p.block ∨ w.heap.size < p.block) := fun p hp => by
        have h1 := HI2B.out p hp
        have h2 := HB9.out
        exact ⟨by omega, by omega, .inr h1.1⟩
      have hI7 : IntsAt w7 a3 need c3 (pagesI P) := CameAt.below HI6.out (by omega) hb7
      have hstart : ∃ (j : Nat) (pa : Option Addr) (pn pc : Nat) (qa : Option Addr) (qn qc : Nat) (M1 : List SpM) (N1 : List PutM) (X : Pln), Value.int .i64 0 = .int .i64 (j : Nat) ∧ j ≤ n ∧ X = planL ((M.map (·.c)).take j) (h.at_, [], P) ∧ Value.slice a3 need c3 = .slice pa pn pc ∧ Value.slice none 0 0 = .slice qa qn qc ∧ N1.length = qn ∧ M1.map (·.s) = X.1 ∧ MapAt w7 mb2 (mapL M1) ∧
          (∀ x ∈ M1, IntsAt w7 x.a x.n x.cap (pagesI x.s.pages) ∧ ∀ p, x.a = some p → p.block ≠ mb2 ∧ p.block < w7.heap.size ∧ (U p.block ∨ w.heap.size < p.block)) ∧ IntsAt w7 pa pn pc (pagesI X.2.2) ∧ (∀ p, pa = some p → p.block ≠ mb2 ∧ p.block < w7.heap.size ∧ (U p.block ∨ w.heap.size < p.block)) ∧
          PutsO w7 w7.heap.size (.slice qa qn qc) N1 ∧ N1.map PutM.pt = X.2.1 ∧ Only (fun q => q = mb2) w7 w7 :=
        ⟨0, a3, need, c3, none, 0, 0, MM, [], (h.at_, [], P), rfl, Nat.zero_le _, rfl, rfl, rfl, rfl, HMEQ.out, hm7, fun x hx => ⟨hv7.pages x hx, fun p hp => by
          have h1 := hv7.inP x hx p hp
          have h2 := (HLAT.out w (Below.refl _ _)).2.lt _ h1
          exact ⟨by omega, by omega, .inl h1⟩⟩, hI7, hT0, PutsO.nil _ _, rfl, Only.refl _ _⟩
      have HSTART := Lib.hid hstart
      clear hmb2 hb7w hm7 hb7 hg7 hv7 hT0 hI7 hstart CM d1 HX6 HBX6 HO6 HI6 HB6
      go_wp2
      go_loopw [10, 12, 55] (fun s10 s12 s55 wr => ∃ (j : Nat) (pa : Option Addr) (pn pc : Nat) (qa : Option Addr) (qn qc : Nat) (M1 : List SpM) (N1 : List PutM) (X : Pln), s55 = .int .i64 (j : Nat) ∧ j ≤ n ∧ X = planL ((M.map (·.c)).take j) (h.at_, [], P) ∧ s10 = .slice pa pn pc ∧ s12 = .slice qa qn qc ∧ N1.length = qn ∧ M1.map (·.s) = X.1 ∧ MapAt wr mb2 (mapL M1) ∧
          (∀ x ∈ M1, IntsAt w7 x.a x.n x.cap (pagesI x.s.pages) ∧ ∀ p, x.a = some p → p.block ≠ mb2 ∧ p.block < w7.heap.size ∧ (U p.block ∨ w.heap.size < p.block)) ∧ IntsAt w7 pa pn pc (pagesI X.2.2) ∧ (∀ p, pa = some p → p.block ≠ mb2 ∧ p.block < w7.heap.size ∧ (U p.block ∨ w.heap.size < p.block)) ∧
          PutsO wr w7.heap.size (.slice qa qn qc) N1 ∧ N1.map PutM.pt = X.2.1 ∧ Only (fun q => q = mb2) w7 wr) (fun _ _ s55 _ => n - (intOf s55).toNat)
      case atStart => exact HSTART.out
      case round =>
        clear HSTART
        obtain ⟨j, pa, pn, pc, qa, qn, qc, M1, N1, X, rfl, hj, hX, rfl, rfl, hNl, hM1, hmap, hpgs, hpi, hpt, hput, hNp, hon⟩ := hrel
        have HXX := Lib.hid hX
        have HNl := Lib.hid hNl
        have HM1 := Lib.hid hM1
        have HMAP := Lib.hid hmap
        have HPGS := Lib.hid hpgs
        have HPI := Lib.hid hpi
        have HPT := Lib.hid hpt
        have HPUT := Lib.hid hput
        have HNP := Lib.hid hNp
        have HON := Lib.hid hon
        have hbw : Below w.heap.size w wr := HB7.out.trans (hon.below HB7.out.size fun q hq e => by omega)
        have HBW := Lib.hid hbw
        clear hX hNl hM1 hmap hpgs hpi hpt hput hNp hon hbw
        by_cases hlt : j < n
        · have hki : (j : Int) < (n : Int) := by omega
          have hlk : (M.map (·.c))[j]? = some (M.getD j default).c := by
            rw [List.getElem?_map, List.getD, List.getElem?_eq_getElem (by rw [HM.out.mlen]; exact hlt)]; rfl
          have hps := planL_take (M.map (·.c)) (h.at_, [], P) j _ hlk
          rw [← HXX.out] at hps
          obtain ⟨b, off, rfl, hub, hcs⟩ := (HM.out.below HBW.out).at (by omega)
          obtain ⟨x0, x1, x2⟩ := hcs j hlt
          have hid := HM.out.id _ (HM.out.mem j hlt)
          have hby := HM.out.bytes _ (HM.out.mem j hlt)
          have hcm := mayC_data HMAY.out _ (List.mem_of_getElem? hlk)
          generalize M.getD j default = y at *
          obtain ⟨⟨id, dat, gone⟩, ya, yn, yc⟩ := y
          dsimp only at *
          have hdn : dat.length = yn := hby.1
          have HBY := Lib.hid hby
          have HPS := Lib.hid hps
          have HLK := Lib.hid hlk
          have HDN := Lib.hid hdn
          have hbx : Below wr.heap.size wr (wr.alloc (.cells #[.int .u64 (id : Nat), .slice ya yn yc, .bool gone] 76)) := (Below.refl _ _).alloc (Nat.le_refl _) _
          have hbox := heap_alloc_new wr (.cells #[.int .u64 (id : Nat), .slice ya yn yc, .bool gone] 76)
          have HM8 := Lib.hid (HMAP.out.below hbx)
          have HBX8 := Lib.hid hbx
          have HBOX8 := Lib.hid hbox
          clear hcs hlk hps hby hdn hbx hbox
          cases gone with
          | true =>
            obtain ⟨w9, hrun, hm9, ho9⟩ := HM8.out.drop (t := 99) (e := 126) Tryz.underlying99 id hid 0
            have hpm := HPUT.out.below HBX8.out
            have hput9 := hpm.offmap HM8.out ho9
            have HP9 := Lib.hid hput9
            have HM9 := Lib.hid hm9
            have HO9 := Lib.hid ((HON.out.trans (Only.of_below HBX8.out) fun _ _ e => e).trans ho9 fun _ _ e => e)
            clear hpm hput9 hm9 ho9
            go_wp2
            go_roundw
            case rel =>
              have hps := HPS.out
              have hst : planStep X ⟨id, dat, true⟩ = (delL X.1 id, X.2.1, X.2.2) := rfl
              rw [hst] at hps
              have hm9 := HM9.out
              rw [mapL_del] at hm9
              exact ⟨j + 1, pa, pn, pc, qa, qn, qc, M1.filter fun x => !(x.s.key == id), N1, (delL X.1 id, X.2.1, X.2.2), by go_num, by omega, hps.symm, rfl, rfl, HNl.out, by rw [spts_del, HM1.out], hm9, fun x hx => HPGS.out x (List.mem_filter.1 hx).1, HPI.out, HPT.out, HP9.out, HNP.out, HO9.out⟩
            case measure => simp only [intOf]; omega
          | false =>
            obtain ⟨s1, s2, s3, s4⟩ := planL_some (h := h) (P := P) HMAY.out (by have := HNEED.out; have := HPL.out; omega) j
            rw [← HXX.out] at s1 s2 s3 s4
            have s4 := s4 _ HLK.out
            dsimp only at s4
            rw [HDN.out] at s4
            have hpnl : X.2.2.length = pn := by have := HPI.out.1; unfold pagesI at this; rwa [List.length_map] at this
            have hyn : yn ≤ 4032 := by rw [← HDN.out]; exact hcm
            obtain ⟨pf, hpf⟩ : ∃ pf, pf = pfor yn := ⟨_, rfl⟩
            rw [← hpf] at s4
            have hpfn : pf ≤ pn := by omega
            have hpf40 : pf ≤ 40 := by rw [hpf]; unfold pfor; omega
            have CPF := Lib.hid (fun u => hpagesFor_any yn u (by omega))
            rw [← hpf] at CPF
            have HPF := Lib.hid hpf
            obtain ⟨ha, hh1, hh2, hh3⟩ := ints_head pf HPI.out hpfn
            obtain ⟨ta, tc, ht1, ht2, ht3⟩ := ints_from pf HPI.out hpfn
            have HTK := Lib.hid (show ∀ u, IntsAt u pa pn pc (pagesI X.2.2) → IntsAt u ha pf pc (pagesI (X.2.2.take pf)) from fun u hu => by have := hh2 u hu; unfold pagesI at this ⊢; rwa [← List.map_take] at this)
            have HDR := Lib.hid (show ∀ u, IntsAt u pa pn pc (pagesI X.2.2) → IntsAt u ta (pn - pf) tc (pagesI (X.2.2.drop pf)) from fun u hu => by have := ht2 u hu; unfold pagesI at this ⊢; rwa [← List.map_drop] at this)
            have HHB := Lib.hid (show ∀ p, ha = some p → p.block ≠ mb2 ∧ p.block < w7.heap.size ∧ (U p.block ∨ w.heap.size < p.block) from fun p hp => by
              obtain ⟨q, hq, hb⟩ := hh3 p hp
              rw [hb]; exact HPT.out q hq)
            have HTBK := Lib.hid (show ∀ p, ta = some p → p.block ≠ mb2 ∧ p.block < w7.heap.size ∧ (U p.block ∨ w.heap.size < p.block) from fun p hp => by
              obtain ⟨q, hq, hb⟩ := ht3 p hp
              rw [hb]; exact HPT.out q hq)
            have HS2 := Lib.hid (show N1.length ≤ 100 from by
              have h1 := congrArg List.length HNP.out
              rw [List.length_map] at h1
              have := HNEED.out
              omega)
            have HS3 := Lib.hid (show (mapL M1).length < 1000000 from by
              have h1 := congrArg List.length HM1.out
              rw [List.length_map] at h1
              unfold mapL
              rw [List.length_map]
              have := HPRE.out.few
              omega)
            have HSP := Lib.hid (show ∀ p ∈ X.2.2, p < 2006 from fun p hp => by
              rw [s1] at hp
              have := (HPM.out p (List.mem_of_mem_drop hp)).1
              have := HPRE.out.len
              omega)
            have HPNL := Lib.hid hpnl
            clear s1 s2 s3 s4 hpnl hpf hh2 ht2 hh3 ht3
            obtain ⟨Bc, hBc⟩ : ∃ B, B = wr.heap.size := ⟨_, rfl⟩
            have HBC := Lib.hid hBc
            go_upto_region 14 with (fail)
            generalize wr.alloc (.cells #[.int .u64 (id : Nat), .slice ya yn yc, .bool false] 76) = w8 at *
            rw [← hBc] at HBOX8 ⊢
            clear hBc x0 x1 x2
            have y0 : w8.cell? ⟨Bc, 0, none⟩ = some (.int .u64 (id : Nat)) := by rw [cell_of_row _ _ _ _ _ _ HBOX8.out]; rfl
            have y1 : w8.cell? ⟨Bc, 1, none⟩ = some (.slice ya yn yc) := by rw [cell_of_row _ _ _ _ _ _ HBOX8.out]; rfl
            go_wp2_with fail
            refine (CPF.out w8).mono ?_
            rintro e w9 ⟨rfl, hw9⟩
            rw [hw9]
            clear hw9
            go_upto_region 15 with (fail)
            have hby8 : Below w.heap.size w w8 := HBW.out.trans (HBX8.out.mono HBW.out.size)
            have HB8 := Lib.hid hby8
            have CSM := Lib.hid (sum_any ya yn yc dat w8.drew (HBY.out.below hby8.drew))
            have hS0 : w8.drew.cell? ⟨Bc, 0, none⟩ = some (.int .u64 (id : Nat)) ∧ w8.drew.cell? ⟨Bc, 1, none⟩ = some (.slice ya yn yc) := ⟨y0, y1⟩
            clear hby8 y0 y1
            refine region_head 14 [0, 1, 2, 3, 4, 5, 6, 7, 8, 9, 10, 11, 12, 13] [11, 13] (fun u => u.cell? ⟨Bc, 0, none⟩ = some (.int .u64 (id : Nat)) ∧ u.cell? ⟨Bc, 1, none⟩ = some (.slice ya yn yc)) (by kernel_rfl) (by kernel_rfl) hS0 ?_
            simp only [pickO, List.filterMap_cons, List.filterMap_nil, List.getElem?_cons_zero, List.getElem?_cons_succ, Option.map_some, List.drop_succ_cons, List.drop_zero]
            clear hS0
            iterate 5
              refine seqH_read _ rfl rfl (by rintro u ⟨hu1, hu2⟩; go_simp; with_reducible rfl) ?_
              try simp only [Act.put, List.setIfInBounds_toArray, List.set_cons_zero, List.set_cons_succ]
            refine seqH_read (.slice ha pf pc) rfl rfl (by rintro u _; exact exec_slice 78 _ none (some _) rfl (.slice pa pn pc) (.slice ha pf pc) rfl none (some (.int .i64 (pf : Nat))) rfl rfl (hh1 u)) ?_
            try simp only [Act.put, List.setIfInBounds_toArray, List.set_cons_zero, List.set_cons_succ]
            iterate 5
              refine seqH_read _ rfl rfl (by rintro u ⟨hu1, hu2⟩; go_simp; with_reducible rfl) ?_
              try simp only [Act.put, List.setIfInBounds_toArray, List.set_cons_zero, List.set_cons_succ]
            refine seqH_move rfl rfl (fun Kk hK => ?_)
            go_simp
            refine CSM.out.mono ?_
            rintro e w9 ⟨rfl, hb9⟩
            have hbo9 := (hb9.block Bc (by have := (Array.getElem?_eq_some_iff.1 HBOX8.out).1; exact this)).trans HBOX8.out
            have hm9 := (HM8.out.keep (w' := w8.drew) rfl).below hb9
            have HB9' := Lib.hid (HB8.out.drew.trans (hb9.mono HB8.out.size))
            have HB89 := Lib.hid (show Below w8.heap.size w8 w9 from (Below.refl w8.heap.size w8).drew.trans hb9)
            refine hK _ _ ⟨by rw [cell_of_row _ _ _ _ _ _ hbo9]; rfl, by rw [cell_of_row _ _ _ _ _ _ hbo9]; rfl⟩ ?_
            clear hK Kk CSM hb9
            try simp only [Act.put, List.setIfInBounds_toArray, List.set_cons_zero, List.set_cons_succ]
            obtain ⟨sm, hsm⟩ : ∃ sm, sm = sumL dat := ⟨_, rfl⟩
            have HSM := Lib.hid hsm
            rw [← hsm]
            clear hsm
            refine seqH_read (.agg #[.slice ha pf pc, .int .i64 (yn : Nat), .int .u32 (sm : Nat)]) rfl rfl (by rintro u ⟨hu1, hu2⟩; go_simp; try with_reducible rfl) ?_
            try simp only [Act.put, List.setIfInBounds_toArray, List.set_cons_zero, List.set_cons_succ]
            obtain ⟨x, hx⟩ : ∃ x : SpM, x = ⟨⟨id, X.2.2.take pf, dat, sm⟩, ha, pf, pc⟩ := ⟨_, rfl⟩
            have hsv : spotV x = .agg #[.slice ha pf pc, .int .i64 (yn : Nat), .int .u32 (sm : Nat)] := by rw [hx]; unfold spotV; dsimp only; rw [HDN.out]
            obtain ⟨w10, hrun, hm10, ho10⟩ := hm9.put (t := 99) (e := 126) Tryz.underlying99 HS3.out id hid (spotV x)
            rw [hsv] at hrun
            have HXS := Lib.hid hx
            have HSV := Lib.hid hsv
            clear hx hsv
            refine seqH_move rfl rfl (fun Kk hK => ?_)
            go_simp
            have hbo10 := (ho10.block Bc (Array.getElem?_eq_some_iff.1 hbo9).1 (hm9.ne_cells hbo9)).trans hbo9
            refine hK _ _ ⟨by rw [cell_of_row _ _ _ _ _ _ hbo10]; rfl, by rw [cell_of_row _ _ _ _ _ _ hbo10]; rfl⟩ ?_
            clear hK Kk hrun
            try simp only [Act.put, List.setIfInBounds_toArray, List.set_cons_zero, List.set_cons_succ]
            refine seqH_nil ?_
            go_upto_region 16 with (fail)
            have hb10 : Below w.heap.size w w10 := HB9'.out.trans (ho10.below HB9'.out.size fun q hq e => by omega)
            have hon10 : Only (fun q => q = mb2) w7 w10 := ((HON.out.trans (Only.of_below HBX8.out) fun _ _ e => e).trans (Only.of_below HB89.out) fun _ _ e => e).trans ho10 fun _ _ e => e
            have hput10 := ((HPUT.out.below HBX8.out).below HB89.out).offmap hm9 ho10
            have HTL := Lib.hid (show (X.2.2.take pf).length = pf by rw [List.length_take, HPNL.out]; omega)
            have CBP := Lib.hid (blobPuts_any ya yn yc dat ha pf pc (X.2.2.take pf) w10.drew (HBY.out.below hb10.drew) hyn (HTK.out _ (HPI.out.only (by omega) (hon10.trans (Only.drew (S := fun q => q = mb2) w10) fun _ _ e => e) fun p hp _ => (HPT.out p hp).1)) (fun p hp => HSP.out p (List.mem_of_mem_take hp)) (by rw [HTL.out]; exact HPF.out))
            have HM10 := Lib.hid hm10
            have HB10 := Lib.hid hb10
            have HON10 := Lib.hid hon10
            have HP10 := Lib.hid hput10
            have HBO10 := Lib.hid hbo10
            have hS0 : w10.drew.cell? ⟨Bc, 0, none⟩ = some (.int .u64 (id : Nat)) ∧ w10.drew.cell? ⟨Bc, 1, none⟩ = some (.slice ya yn yc) := ⟨by rw [cell_of_row w10.drew Bc 0 _ _ _ hbo10]; rfl, by rw [cell_of_row w10.drew Bc 1 _ _ _ hbo10]; rfl⟩
            clear hbo9 hm9 hm10 ho10 hbo10 hb10 hon10 hput10 HB9' HB89 HM8 HB8 HBX8
            obtain ⟨LP, hLP⟩ : ∃ LP, LP = blobPuts dat (X.2.2.take pf) := ⟨_, rfl⟩
            have HLP := Lib.hid hLP
            rw [← hLP] at CBP
            have HLPL := Lib.hid (show LP.length ≤ 100 by rw [hLP]; unfold blobPuts; rw [List.length_map, List.length_range, HDN.out, ← HPF.out]; omega)
            clear hLP
            refine region_head 8 [0, 1, 2, 3, 4, 5, 6, 7] [6, 7] (fun u => u.cell? ⟨Bc, 0, none⟩ = some (.int .u64 (id : Nat)) ∧ u.cell? ⟨Bc, 1, none⟩ = some (.slice ya yn yc)) (by kernel_rfl) (by kernel_rfl) hS0 ?_
            simp only [pickO, List.filterMap_cons, List.filterMap_nil, List.getElem?_cons_zero, List.getElem?_cons_succ, Option.map_some, List.drop_succ_cons, List.drop_zero]
            clear hS0
            iterate 5
              refine seqH_read _ rfl rfl (by rintro u ⟨hu1, hu2⟩; go_simp; with_reducible rfl) ?_
              try simp only [Act.put, List.setIfInBounds_toArray, List.set_cons_zero, List.set_cons_succ]
            refine seqH_read (.slice ha pf pc) rfl rfl (by rintro u _; exact exec_slice 78 _ none (some _) rfl (.slice pa pn pc) (.slice ha pf pc) rfl none (some (.int .i64 (pf : Nat))) rfl rfl (hh1 u)) ?_
            try simp only [Act.put, List.setIfInBounds_toArray, List.set_cons_zero, List.set_cons_succ]
            refine seqH_move rfl rfl (fun Kk hK => ?_)
            go_simp
            refine CBP.out.mono ?_
            rintro e w11 ⟨ba2, bc2, N2, rfl, hN2, hP2, hb11⟩
            have hbo11 := (hb11.block Bc (by have := (Array.getElem?_eq_some_iff.1 HBO10.out).1; exact this)).trans HBO10.out
            have hput11 := PutsO.below (w := w10.drew) ⟨HP10.out.recs.keep fun _ _ => rfl, HP10.out.own, fun y hy => (HP10.out.oct y hy).keep fun _ _ => rfl⟩ hb11
            refine hK _ _ ⟨by rw [cell_of_row _ _ _ _ _ _ hbo11]; rfl, by rw [cell_of_row _ _ _ _ _ _ hbo11]; rfl⟩ ?_
            clear hK Kk CBP
            try simp only [Act.put, List.setIfInBounds_toArray, List.set_cons_zero, List.set_cons_succ]
            have HB11 := Lib.hid (show Below w10.heap.size w10 w11 from (Below.refl w10.heap.size w10).drew.trans hb11)
            have HBO11 := Lib.hid hbo11
            have HN2 := Lib.hid hN2
            have HP2 := Lib.hid hP2
            have HP11 := Lib.hid hput11
            clear hb11 hbo11 hN2 hP2 hput11
            refine seqH_move rfl rfl (fun Kk hK => ?_)
            refine wp_append_puts (.tmp 81) (.tmp 87) rfl (.slice qa qn qc) N1 rfl HP11.out.recs ba2 LP.length bc2 N2 rfl HP2.out.recs.came (by have := HS2.out; have := HLPL.out; omega) ?_
            intro v12 w12 hr12 hg12 hv12
            have hbs : w7.heap.size ≤ w11.heap.size := Nat.le_trans HON10.out.size HB11.out.size
            have hput12 := HP11.out.more (fun y hy => HP2.out.oct y hy) hr12 hg12 hv12 hbs
            have hbo12 : w12.heap[Bc]? = some (.cells #[.int .u64 (id : Nat), .slice ya yn yc, .bool false] 76 (0, 0)) := (hg12.block Bc (Array.getElem?_eq_some_iff.1 HBO11.out).1 fun e => by have := HP11.out.recs.ne_of HBO11.out (by decide) Bc e.symm; omega).trans HBO11.out
            refine hK _ _ ⟨by rw [cell_of_row _ _ _ _ _ _ hbo12]; rfl, by rw [cell_of_row _ _ _ _ _ _ hbo12]; rfl⟩ ?_
            clear hK Kk
            try simp only [Act.put, List.setIfInBounds_toArray, List.set_cons_zero, List.set_cons_succ]
            refine seqH_nil ?_
            obtain ⟨qa2, qc2, hv0, _, _⟩ := hr12.form
            have hN2l : N2.length = LP.length := by rw [← HN2.out, List.length_map]
            rw [List.length_append, HNl.out, hN2l] at hv0
            subst hv0
            have hon12 : Only (fun q => q = mb2) w7 w12 := (HON10.out.trans (Only.of_below HB11.out) fun _ _ e => e).trans (Only.of_grown (S := fun q => w7.heap.size ≤ q) hg12 fun q e => HP11.out.own q e.symm.symm) fun q hq e => by omega
            have hm12 : MapAt w12 mb2 (mapL (putM M1 x)) := by
              have h1 := HM10.out
              have hxk : x.s.key = id := by rw [HXS.out]
              rw [show mputV (mapL M1) id (spotV x) = mapL (putM M1 x) by rw [← hxk]; exact mapL_put M1 x] at h1
              exact (h1.below HB11.out).keep (hg12.block mb2 (by have := HB11.out.size; have := HON10.out.size; omega) fun e => by have := HP11.out.own mb2 e.symm; omega)
            have HP12 := Lib.hid hput12
            have HON12 := Lib.hid hon12
            have HM12 := Lib.hid hm12
            have HN2L := Lib.hid hN2l
            clear hr12 hg12 hv12 hbs hput12 hbo12 hon12 hm12 hN2l hh1 HP11 HP10 HBO10 HBO11 HB11 HB10 HON10 HM10 HBOX8
            obtain ⟨dn, hdn⟩ : ∃ dn, dn = pn - pf := ⟨_, rfl⟩
            have HDN2 := Lib.hid hdn
            rw [← hdn] at ht1 HDR
            clear hdn
            go_wp2_with (refine wpList_value rfl (.slice ta dn tc) (exec_slice 78 _ (some _) none rfl (.slice pa pn pc) (.slice ta dn tc) rfl (some (.int .i64 (pf : Nat))) none rfl rfl (ht1 _)) ?_)
            go_roundw
            case rel =>
              have hps := HPS.out
              have hpd : pfor dat.length = pf := by rw [HDN.out]; exact HPF.out.symm
              have hst : planStep X ⟨id, dat, false⟩ = (insL (delL X.1 id) (newS ⟨id, dat, false⟩ (X.2.2.take pf)), X.2.1 ++ LP, X.2.2.drop pf) := by
                unfold planStep
                rw [if_neg (by simp), hpd, HLP.out]
              rw [hst] at hps
              refine ⟨j + 1, ta, dn, tc, qa2, qn + LP.length, qc2, putM M1 x, N1 ++ N2, _, by go_num, by omega, hps.symm, rfl, rfl, by rw [List.length_append, HNl.out, HN2L.out], ?_, HM12.out, ?_, HDR.out _ HPI.out, HTBK.out, HP12.out, by rw [List.map_append, HNP.out, HN2.out], HON12.out⟩
              · rw [spts_put, HM1.out]
                show insL X.1 x.s = insL (delL X.1 (newS ⟨id, dat, false⟩ (X.2.2.take pf)).key) (newS ⟨id, dat, false⟩ (X.2.2.take pf))
                rw [← insL_del, HXS.out]
                unfold newS
                rw [HSM.out]
              · intro y hy
                rcases putM_mem M1 x y hy with rfl | hy
                · rw [HXS.out]; exact ⟨HTK.out _ HPI.out, HHB.out⟩
                · exact HPGS.out y hy
            case measure => simp only [intOf]; omega
        · obtain rfl : j = n := by omega
          have hki : ¬ (j : Int) < (j : Int) := by omega
          have hX := HXX.out
          rw [List.take_of_length_le (by rw [List.length_map, HM.out.mlen]; exact Nat.le_refl _)] at hX
          have hrr := HR.out
          rw [← hX] at hrr
          obtain ⟨P2, hpl⟩ := HPO.out _ _ hrr
          have HRR := Lib.hid hrr
          have hok := hpl.ok
          have HLEN := Lib.hid hpl.len
          have HPUTL := Lib.hid (show (planPuts X).length ≤ 40 by rw [hpl.length HMAY.out]; exact hpl.few)
          have hMl : M1.length = X.1.length := by rw [← HM1.out, List.length_map]
          have hsm : ∀ x ∈ M1, x.s ∈ X.1 := fun x hx => by rw [← HM1.out]; exact List.mem_map_of_mem hx
          have hxd : X.2.2.length = pagesN X.1.length := hok.dir
          have hlt6 : ∀ p ∈ X.2.2, p < 2006 := fun p hp => Nat.lt_of_lt_of_le (hok.dirp (h := ⟨X.1, X.2.2, _⟩) hp) hok.len
          have hdf : X.2.2.length ≤ 59 := hpl.dirfew
          have hpnl : X.2.2.length = pn := by have := HPI.out.1; unfold pagesI at this; rwa [List.length_map] at this
          have hiw : ∀ u, Only (fun q => q = mb2) w7 u → IntsAt u pa pn pc (pagesI X.2.2) := fun u hu => HPI.out.only (by omega) hu fun p hp _ => (HPT.out p hp).1
          have CDP := Lib.hid (dirPuts_any HMAP.out (fun x hx => (HPGS.out x hx).1.only (by omega) HON.out fun p hp _ => ((HPGS.out x hx).2 p hp).1) (fun x hx => hok.each _ (hsm x hx)) (fun x hx p hp => Nat.lt_of_lt_of_le (hok.page (h := ⟨X.1, X.2.2, _⟩) (hsm x hx) hp) hok.len) (by rw [hMl]; exact hok.few) (by rw [HM1.out]; exact hok.asc) pa pn pc X.2.2 (hiw wr HON.out) hlt6 (by rw [hMl, hxd]; exact Nat.le_refl _))
          rw [HM1.out] at CDP
          have hN1 : N1.length ≤ 40 := by
            have h1 := congrArg List.length HNP.out
            rw [List.length_map] at h1
            have h2 := HPUTL.out
            unfold planPuts at h2
            rw [List.length_append] at h2
            omega
          have hDl : (dirPuts X.1 X.2.2).length ≤ 40 := by
            have h2 := HPUTL.out
            unfold planPuts at h2
            rw [List.length_append, List.length_append] at h2
            omega
          have HOK := Lib.hid hok
          have HIW := Lib.hid hiw
          have HLT6 := Lib.hid hlt6
          have HPNL := Lib.hid hpnl
          have hpn59 : pn ≤ 59 := by omega
          obtain ⟨DP, hDP⟩ : ∃ DP, DP = dirPuts X.1 X.2.2 := ⟨_, rfl⟩
          have HDP := Lib.hid hDP
          rw [← hDP] at CDP hDl
          clear hX hrr hpl hok hMl hsm hxd hlt6 hdf hpnl hiw hDP HXX HR HPO
          go_wp2_with fail
          refine CDP.out.mono ?_
          rintro e w8 ⟨da2, dc2, N2, rfl, hN2, hP2, hb8⟩
          have hput8 := HPUT.out.below hb8
          have HP8 := Lib.hid hput8
          have HP2 := Lib.hid hP2
          have HN2 := Lib.hid hN2
          have HON8 := Lib.hid (HON.out.trans (Only.of_below hb8) fun _ _ e => e)
          have HM8 := Lib.hid (HMAP.out.below hb8)
          have hbs8 : w7.heap.size ≤ w8.heap.size := Nat.le_trans HON.out.size hb8.size
          clear hput8 hP2 hN2 hb8 CDP
          go_wp2_with (at_builtin; refine wpList_append_puts rfl (.tmp 93) (.tmp 96) rfl (.slice qa qn qc) N1 rfl HP8.out.recs da2 DP.length dc2 N2 rfl HP2.out.recs.came (by omega) ?_; intro v9 w9 hr9 hg9 hv9)
          have hput9 := HP8.out.more (fun y hy => HP2.out.oct y hy) hr9 hg9 hv9 hbs8
          have hon9 : Only (fun q => q = mb2) w7 w9 := HON8.out.trans (Only.of_grown (S := fun q => w7.heap.size ≤ q) hg9 fun q e => HP8.out.own q e) fun q hq e => by omega
          have hm9 : MapAt w9 mb2 (mapL M1) := HM8.out.keep (hg9.block mb2 (by omega) fun e => by have := HP8.out.own mb2 e.symm; omega)
          obtain ⟨qa2, qc2, hv0, _, _⟩ := hr9.form
          have hN2l : N2.length = DP.length := by rw [← HN2.out, List.length_map]
          rw [List.length_append, HNl.out, hN2l] at hv0
          subst hv0
          have CSB := Lib.hid (superH_own pa pn pc X.2.2 w9 (HIW.out w9 hon9) (fun p hp => by have := HLT6.out p hp; omega) (by omega))
          have HP9 := Lib.hid hput9
          have HON9 := Lib.hid hon9
          have HM9 := Lib.hid hm9
          have hbs9 : w7.heap.size ≤ w9.heap.size := hon9.size
          have hNN : (N1 ++ N2).length ≤ 100 := by rw [List.length_append, hN2l]; omega
          have HNN := Lib.hid (show (N1 ++ N2).length = qn + DP.length by rw [List.length_append, HNl.out, hN2l])
          clear hput9 hon9 hm9 hr9 hg9 hv9 hN2l HP8 HON8 HM8 hbs8
          go_wp2_with fail
          refine CSB.out.mono ?_
          rintro e w10 ⟨sa, sm, sc, rfl, _, hb10, _, hso⟩
          have HB10 := Lib.hid hb10
          have HP10 := Lib.hid (HP9.out.below hb10)
          have HSO := Lib.hid hso
          have hal : Below w10.heap.size w10 (w10.alloc (.cells (putV 41 sa sm sc) 118)) := (Below.refl _ _).alloc (Nat.le_refl _) _
          have HP11 := Lib.hid (HP10.out.below hal)
          have HSO11 := Lib.hid (hso.below hal)
          have HAL := Lib.hid hal
          obtain ⟨i0, hi0, hz0, hz1, hz2⟩ := info_parts infoPut
          clear hb10 hso hal CSB
          go_wp2_with (first
            | (refine wpList_buildSliceV rfl 104 1 _ rfl #[(0, .agg (putV 41 sa sm sc))] (by simp [go_sem, putV]) _ _ (built_put _ _ _ _ _) ?_)
            | (at_builtin; refine wpList_append_recs (f := putC) rfl _ _ 104 rfl 118 i0 (.agg #[.int .i64 0, .slice none 0 0]) 2 32 Tryz.underlying104 hi0 hz0 hz1 hz2 rfl (by omega) (.slice qa2 (qn + DP.length) qc2) (N1 ++ N2) rfl HP11.out.recs ⟨w10.heap.size, 0, none⟩ 1 1 [⟨41, sa, sm, sc, superL X.2.2⟩] rfl rfl (fun y hy => rfl) (fun y hy => putC_one y) (put_news (heap_alloc_new w10 _)) (by unfold maxLen; omega) (by omega) ?_; intro v12 w12 hr12 hg12 hv12))
          obtain ⟨qa3, qc3, hv0, _, _⟩ := hr12.form
          rw [List.length_append, List.length_singleton, HNN.out] at hv0
          subst hv0
          have hbs11 : w7.heap.size ≤ (w10.alloc (.cells (putV 41 sa sm sc) 118)).heap.size := by have := HB10.out.size; simp; omega
          have hput12 := HP11.out.more (fun y hy => by rw [List.mem_singleton.1 hy]; exact HSO11.out) hr12 hg12 hv12 hbs11
          have hon12 : Only (fun q => q = mb2) w7 w12 := ((HON9.out.trans (Only.of_below HB10.out) fun _ _ e => e).trans (Only.of_below HAL.out) fun _ _ e => e).trans (Only.of_grown (S := fun q => w7.heap.size ≤ q) hg12 fun q e => HP11.out.own q e) fun q hq e => by omega
          have hm12 : MapAt w12 mb2 (mapL M1) := ((HM9.out.below HB10.out).below HAL.out).keep (hg12.block mb2 (by omega) fun e => by have := HP11.out.own mb2 e.symm; omega)
          have hb12 : Below w.heap.size w w12 := HB7.out.trans (hon12.below HB7.out.size fun q hq e => by omega)
          have HP12 := Lib.hid hput12
          have HON12 := Lib.hid hon12
          have HM12 := Lib.hid hm12
          have HB12' := Lib.hid hb12
          have hx12 := (hon12.block w.heap.size (Array.getElem?_eq_some_iff.1 HX7.out).1 (by omega)).trans HX7.out
          have hbx12 := (hon12.block B9 (Array.getElem?_eq_some_iff.1 HBX7.out).1 (by omega)).trans HBX7.out
          have HX12 := Lib.hid hx12
          have hrange : w12.drew.rangeAt B9 0 [.int .i64 (N : Nat), .slice a5 n5 c5] := fun j x hj => by
            have hbx12 : w12.drew.heap[B9]? = some (.cells (spV N a5 n5 c5) 101 (0, 0)) := hbx12
            match j, hj with
            | 0, hj => simp only [List.getElem?_cons_zero, Option.some.injEq] at hj; rw [← hj, cell_of_row _ _ _ _ _ _ hbx12]; rfl
            | 1, hj => simp only [List.getElem?_cons_succ, List.getElem?_cons_zero, Option.some.injEq] at hj; rw [← hj, cell_of_row _ _ _ _ _ _ hbx12]; rfl
            | j + 2, hj => simp at hj
          have hS0 : w12.drew.cell? ⟨g, 0, none⟩ = some (.pointer (some ⟨gd, 0, none⟩)) ∧ w12.drew.rangeAt B9 0 [.int .i64 (N : Nat), .slice a5 n5 c5] := ⟨(hot_cells (HLAT.out w12.drew hb12.drew).1).1, hrange⟩
          clear hr12 hg12 hv12 hput12 hon12 hm12 hb12 hx12 hbx12 hrange hbs11 hbs9 hi0 hz0 hz1 hz2 HP9 HON9 HM9 HB10 HP10 HSO HP11 HSO11 HAL hNN
          refine region_headW 10 9 [0, 1, 2, 3, 4, 5, 6, 7, 8, 9] [] [8] (fun u => u.cell? ⟨g, 0, none⟩ = some (.pointer (some ⟨gd, 0, none⟩)) ∧ u.rangeAt B9 0 [.int .i64 (N : Nat), .slice a5 n5 c5]) (by kernel_rfl) (by kernel_rfl) hS0 ?_
          simp only [pickO, List.filterMap_cons, List.filterMap_nil, List.getElem?_cons_zero, List.getElem?_cons_succ, Option.map_some, List.drop_succ_cons, List.drop_zero]
          clear hS0
          iterate 6
            refine seqW_read _ (by decide) rfl rfl rfl (by rintro u ⟨hu1, hu2⟩; go_simp; with_reducible rfl) ?_
            try simp only [Act.put, List.setIfInBounds_toArray, List.set_cons_zero, List.set_cons_succ]
          refine seqW_read (.agg #[.int .i64 (N : Nat), .slice a5 n5 c5]) (by decide) rfl rfl rfl (fun u hu => exec_load_mid 101 _ rfl B9 0 rfl [.int .i64 (N : Nat), .slice a5 n5 c5] _ hu.2 Tryz.underlying101 rfl sizeSp) ?_
          try simp only [Act.put, List.setIfInBounds_toArray, List.set_cons_zero, List.set_cons_succ]
          refine seqW_read (.agg (hotC gd mb2 pa pn pc N a5 n5 c5)) (by decide) rfl rfl rfl (by rintro u ⟨hu1, hu2⟩; clear hu1 hu2; unfold hotC; go_simp; try with_reducible rfl) ?_
          try simp only [Act.put, List.setIfInBounds_toArray, List.set_cons_zero, List.set_cons_succ]
          refine seqW_free _ (by decide) rfl rfl (by intro u; go_simp; with_reducible rfl) ?_
          try simp only [Act.put, List.setIfInBounds_toArray, List.set_cons_zero, List.set_cons_succ]
          refine seqW_last (by decide) rfl (fun Kk hK => ?_)
          refine wp_store_row 103 _ _ rfl w.heap.size (hotC gd mb2 pa pn pc N a5 n5 c5) rfl rfl 103 _ HX12.out sizeHot rfl (by simp [hotC, Value.oneCell']) ?_
          refine hK _ _ ?_
          clear hK Kk
          try simp only [Act.put, List.setIfInBounds_toArray, List.set_cons_zero, List.set_cons_succ]
          refine seqW_nil ?_
          go_wp2
          have hb13 : Below w.heap.size w (w12.drew.setRow w.heap.size (hotC gd mb2 pa pn pc N a5 n5 c5)) := below_setRow HB12'.out.drew (Nat.le_refl _) _
          have hx13 := heap_setRow_same w12.drew w.heap.size (hotC gd mb2 pa pn pc N a5 n5 c5) _ _ HX12.out
          have hs13 : (w12.drew.setRow w.heap.size (hotC gd mb2 pa pn pc N a5 n5 c5)).heap.size = w12.heap.size := by
            rw [show (w12.drew.setRow w.heap.size (hotC gd mb2 pa pn pc N a5 n5 c5)).heap.size = w12.drew.heap.size by simp]
            rfl
          have hoth : ∀ q, q ≠ w.heap.size → (w12.drew.setRow w.heap.size (hotC gd mb2 pa pn pc N a5 n5 c5)).heap[q]? = w12.heap[q]? := fun q hq => heap_setRow_other w12.drew w.heap.size q _ hq
          have hoth7 : ∀ q, q < w7.heap.size → q ≠ w.heap.size → q ≠ mb2 → (w12.drew.setRow w.heap.size (hotC gd mb2 pa pn pc N a5 n5 c5)).heap[q]? = w7.heap[q]? := fun q h1 h2 h3 => (hoth q h2).trans (HON12.out.block q h1 h3)
          have hs7 : w7.heap.size ≤ w12.heap.size := HON12.out.size
          have hUlt : ∀ q, U q → q < w.heap.size := (HLAT.out w (Below.refl _ _)).2.lt
          have hints : ∀ (ia : Option Addr) (m c : Nat) (L : List Int), IntsAt w7 ia m c L → (∀ p, ia = some p → p.block ≠ mb2 ∧ p.block < w7.heap.size ∧ (U p.block ∨ w.heap.size < p.block)) → IntsAt (w12.drew.setRow w.heap.size (hotC gd mb2 pa pn pc N a5 n5 c5)) ia m c L := fun ia m c L hi hb => hi.keep (by omega) fun p hp _ _ => by
            obtain ⟨h1, h2, h3⟩ := hb p hp
            exact hoth7 _ h2 (by rcases h3 with h3 | h3; have := hUlt _ h3; omega; omega) h1
          have hinU : ∀ (p : Addr), (p.block ≠ mb2 ∧ p.block < w7.heap.size ∧ (U p.block ∨ w.heap.size < p.block)) → U p.block ∨ (w.heap.size ≤ p.block ∧ p.block < (w12.drew.setRow w.heap.size (hotC gd mb2 pa pn pc N a5 n5 c5)).heap.size) := fun p hp => hp.2.2.imp id fun h => ⟨by omega, by rw [hs13]; omega⟩
          have ho7 := HO7.out
          have hby7 := BytesAt.owned ho7
          have hb4 := HB24.out
          have hbits : BytesAt (w12.drew.setRow w.heap.size (hotC gd mb2 pa pn pc N a5 n5 c5)) a5 n5 c5 (packB (clearF F1 LL)) := hby7.keepN fun p hp hpos => by
            have h1 := hby7.offmap HM7.out p hp hpos
            have h2 := ho7.lt p.block (by rw [hp]; rfl)
            exact hoth7 _ h2.2 (by omega) h1
          have hbit5 : ∀ p, a5 = some p → U p.block ∨ (w.heap.size ≤ p.block ∧ p.block < (w12.drew.setRow w.heap.size (hotC gd mb2 pa pn pc N a5 n5 c5)).heap.size) := fun p hp => by
            have h2 := ho7.lt p.block (by rw [hp]; rfl)
            exact .inr ⟨by omega, by rw [hs13]; omega⟩
          have hq : planPuts X = X.2.1 ++ (DP ++ [(41, superL X.2.2)]) := by unfold planPuts; rw [← HDP.out]
          have hql : (planPuts X).length = qn + DP.length + 1 := by
            have h1 := congrArg List.length HNP.out
            rw [List.length_map, HNl.out] at h1
            rw [hq, List.length_append, List.length_append, ← h1, List.length_singleton]
            omega
          have hHL : (⟨X.1, X.2.2, clearF F1 LL⟩ : Ht).used.length = N := HCL.out
          refine bodyPost_ret (v := .tuple #[.agg (hotC gd mb2 pa pn pc N a5 n5 c5), .slice qa3 (qn + DP.length + 1) qc3, .int .i64 0]) (results_cell_slots rfl _ _ w.heap.size 103 (hotC gd mb2 pa pn pc N a5 n5 c5) (0, 0) _ _ _ rfl hx13 rfl rfl Tryz.underlying103 rfl sizeHot) rfl (.inr ⟨⟨X.1, X.2.2, clearF F1 LL⟩, planPuts X, mb2, pa, pn, pc, a5, n5, c5, M1, qa3, qc3, (N1 ++ N2) ++ [⟨41, sa, sm, sc, superL X.2.2⟩], HRR.out, by rw [hHL, hql], ?_, ?_, ?_, hb13⟩)
          · refine ⟨HM12.out.keep (hoth mb2 (by omega)), HM1.out, fun x hx => hints _ _ _ _ (HPGS.out x hx).1 (HPGS.out x hx).2, hints _ _ _ _ HPI.out HPT.out, ⟨?_, rfl, hbits⟩, ?_, .inr ⟨by omega, by rw [hs13]; omega⟩, fun x hx p hp => hinU p ((HPGS.out x hx).2 p hp), fun p hp => hinU p (HPT.out p hp), hbit5⟩
            · have := HOK.out.len
              exact Nat.le_trans this (by omega)
            · rintro q (hq | hq)
              · have := hUlt q hq; rw [hs13]; omega
              · exact hq.2
          · rw [List.map_append, List.map_append, HNP.out, HN2.out, hq, List.append_assoc]
            rfl
          · rw [hql]
            refine ⟨HP12.out.recs.keep fun q hq => hoth q (by have := HP12.out.own q hq; omega), fun q hq => by have := HP12.out.own q hq; omega, fun y hy => (HP12.out.oct y hy).keep fun q hq => hoth q ((HP12.out.oct y hy).ne_of HX12.out (by decide) q hq)⟩
end

end Go.Proofs.YtjcmphjjkeigjaaGreat

namespace Go.Proofs.YtjcmphjjkeigjaaGreat
open Go.RowKit
set_option linter.unusedVariables false
set_option linter.unusedSimpArgs false
set_option maxRecDepth 100000

/-- a disk, and no block but its own three -/
theorem DiskAt.small {w : World} {S : Nat → Prop} {gd : Nat} {D : Dk} (k : DiskAt w S gd D) : ∃ S₀ : Nat → Prop, DiskAt w S₀ gd D ∧ (∀ q, S₀ q → S q) ∧
    ∀ (q : Nat) (cs : Array Value) (t : TypeId), w.heap[q]? = some (.cells cs t (0, 0)) → t ≠ 87 → t ≠ 138 → t ≠ 141 → ¬ S₀ q := by
  obtain ⟨vs, vw, h⟩ := k
  refine ⟨fun q => q = gd ∨ vs.ownBlock = some q ∨ vw.ownBlock = some q, ⟨vs, vw, ⟨h.ok, ?_, .inl rfl, h.blk, h.secs, h.waits, fun k hk => .inr (.inl hk), fun k hk => .inr (.inr hk)⟩⟩, ?_, ?_⟩
  · rintro q (rfl | hq | hq)
    · exact h.lt _ h.self
    · exact h.lt q (h.inS q hq)
    · exact h.lt q (h.inW q hq)
  · rintro q (rfl | hq | hq)
    · exact h.self
    · exact h.inS q hq
    · exact h.inW q hq
  · rintro q cs t hc h1 h2 h3 (rfl | hq | hq)
    · rw [h.blk] at hc
      injection hc with hc
      injection hc with _ hc
      exact h1 hc.symm
    · obtain ⟨cur, hcur⟩ := h.secs.blk q hq
      rw [hcur] at hc
      injection hc with hc
      injection hc with _ hc
      exact h2 hc.symm
    · obtain ⟨cur, hcur⟩ := h.waits.blk q hq
      rw [hcur] at hc
      injection hc with hc
      injection hc with _ hc
      exact h3 hc.symm

def BatchTo (x : Int × Dk × Ht) (S U : Nat → Prop) (g gd : Nat) (w : World) (e : Ending) (w' : World) : Prop :=
  e = .returned (.int .i64 x.1) ∧ ∃ S' U' : Nat → Prop, HotAt w' S' U' g gd x.2.1 x.2.2 ∧ Only (fun q => q = g ∨ S q) w w' ∧ (∀ k, S' k → S k ∨ w.heap.size ≤ k) ∧ ∀ k, U' k → U k ∨ w.heap.size ≤ k

section
variable {w : World} {S U : Nat → Prop} {g gd : Nat} {D : Dk} {h : Ht}
set_option maxHeartbeats 4000000 in
theorem batch_any {V : Nat → Prop} {a : Option Addr} {n cap : Nat} {M : List ChgM} (k : HotAt w S U g gd D h) (hM : ChgsIn w V a n cap M) (hk : HtPre h) (hdl : h.dir.length ≤ 100) (hn47 : n ≤ 100000) (hf : D.waits.length ≤ 1073741000) :
    Calls Tryz.prog 13 #[.pointer (some ⟨g, 0, none⟩), .slice a n cap] w (BatchTo (batchOf D h (M.map (·.c))) S U g gd w) := by
  have hb0 : Below w.heap.size w (w.alloc (.cells #[.pointer (some ⟨g, 0, none⟩)] 30)) := (Below.refl _ _).alloc (Nat.le_refl _) _
  have hx0 := heap_alloc_new w (.cells #[.pointer (some ⟨g, 0, none⟩)] 30)
  have CV := Lib.hid (hvalid_any (hM.below hb0) (by omega))
  obtain ⟨x, hx⟩ : ∃ x, x = batchOf D h (M.map (·.c)) := ⟨_, rfl⟩
  have hx2 := hx
  unfold batchOf at hx2
  have HX := Lib.hid hx2
  rw [← hx]
  have HK := Lib.hid k
  have HM := Lib.hid hM
  have HPRE := Lib.hid hk
  have HB0 := Lib.hid hb0
  have HX0 := Lib.hid hx0
  have hz0 : (w.alloc (.cells #[.pointer (some ⟨g, 0, none⟩)] 30)).heap.size = w.heap.size + 1 := by simp
  have HZ0 := Lib.hid hz0
  have HMY := Lib.hid (fun (hm : mayC (M.map (·.c)) = true) => hm)
  clear k hM hk hx hx2 hb0 hx0 hz0
  generalize hmay : mayC (M.map (·.c)) = mm at *
  have HMAY := Lib.hid hmay
  clear hmay HMY
  go_enter Tryz.func13, Tryz.ntmps13
  go_wp2_with fail
  refine CV.out.mono ?_
  rintro e w1 ⟨rfl, hb1⟩
  have HB1 := Lib.hid (HB0.out.trans (hb1.mono HB0.out.size))
  have HX1 := Lib.hid ((hb1.block w.heap.size (by have := HZ0.out; omega)).trans HX0.out)
  clear hb1 CV HX0 HB0 HZ0
  cases mm with
  | false =>
    have hrn := HX.out
    rw [if_pos rfl] at hrn
    subst hrn
    clear HX
    go_wp2
    go_ret
    exact ⟨rfl, S, U, HK.out.below HB1.out, Only.of_below HB1.out, fun _ h => .inl h, fun _ h => .inl h⟩
  | true =>
    have hrn := HX.out
    rw [if_neg (by simp)] at hrn
    have HX := Lib.hid hrn
    have CC := Lib.hid (containsC_any 47 #[.pointer (some ⟨w.heap.size, 0, none⟩)] (fun y => y.c.gone && !hasL h.at_ y.c.id) (HM.out.below HB1.out) (enters_of Tryz.func47 (by kernel_rfl) rfl) (fun y hy u hu => by
      obtain ⟨⟨id, dat, gone⟩, ya, yn, yc⟩ := y
      have := batch1_any (HK.out.below (HB1.out.trans (hu.mono HB1.out.size))) w.heap.size ((hu.block w.heap.size (Array.getElem?_eq_some_iff.1 HX1.out).1).trans HX1.out) id (HM.out.id _ hy) ya yn yc gone
      exact this))
    rw [← noneC_any] at CC
    clear hrn
    generalize hnone : noneC h.at_ (M.map (·.c)) = nn at *
    have HNONE := Lib.hid hnone
    clear hnone
    go_wp2_with fail
    refine CC.out.mono ?_
    rintro e w2 ⟨rfl, hb2⟩
    have HB2 := Lib.hid (HB1.out.trans (hb2.mono HB1.out.size))
    have HX2 := Lib.hid ((hb2.block w.heap.size (Array.getElem?_eq_some_iff.1 HX1.out).1).trans HX1.out)
    clear hb2 CC HX1 HB1
    cases nn with
    | true =>
      have hrn := HX.out
      rw [if_pos rfl] at hrn
      subst hrn
      clear HX
      go_wp2
      go_ret
      exact ⟨rfl, S, U, HK.out.below HB2.out, Only.of_below HB2.out, fun _ h => .inl h, fun _ h => .inl h⟩
    | false =>
      have hrn := HX.out
      rw [if_neg (by simp)] at hrn
      have HX := Lib.hid hrn
      have CP := Lib.hid (plan_any (HK.out.below HB2.out) (HM.out.below HB2.out) HPRE.out hdl HMAY.out HNONE.out hn47)
      have c2 : w2.cell? ⟨w.heap.size, 0, none⟩ = some (.pointer (some ⟨g, 0, none⟩)) := by rw [cell_of_row _ _ _ _ _ _ HX2.out]; rfl
      have HPL := Lib.hid (fun x q (hx : planOf h (M.map (·.c)) = some (x, q)) => (plan_ok HPRE.out HMAY.out HNONE.out (fun c hc => by
        obtain ⟨y, hy, rfl⟩ := List.mem_map.1 hc
        exact HM.out.id y hy) hx).elim fun P hP => hP.len)
      clear hrn
      generalize planOf h (M.map (·.c)) = pl at *
      go_wp2_with fail
      refine CP.out.mono ?_
      rintro e w3 (⟨hpl, rfl, hb3⟩ | ⟨h', q, mb, da, dn, dc, ba, bn, bc, MM, pa, pc, N, hpl, rfl, hv3, hN3, hp3, hb3⟩)
      · have hrn := HX.out
        rw [hpl] at hrn
        dsimp only at hrn
        subst hrn
        have HB3 := Lib.hid (HB2.out.trans (hb3.mono HB2.out.size))
        have HB4 := Lib.hid (HB3.out.alloc HB3.out.size (.cells hotZ 103))
        clear HX hpl hb3 CP
        unfold hotZ at HB4 ⊢
        go_wp2
        go_ret
        exact ⟨rfl, S, U, HK.out.below HB4.out, Only.of_below HB4.out, fun _ h => .inl h, fun _ h => .inl h⟩
      · have hrn := HX.out
        rw [hpl] at hrn
        dsimp only at hrn
        have HX := Lib.hid hrn
        have HUL := Lib.hid (HPL.out h' q hpl)
        have HW2 := Lib.hid HB2.out.size
        have hb3w : Below w.heap.size w w3 := HB2.out.trans (hb3.mono HB2.out.size)
        have HB3 := Lib.hid hb3w
        have HX3 := Lib.hid ((hb3.block w.heap.size (Array.getElem?_eq_some_iff.1 HX2.out).1).trans HX2.out)
        have hb34 : Below w3.heap.size w3 (w3.alloc (.cells (hotC gd mb da dn dc h'.used.length ba bn bc) 103)) := (Below.refl _ _).alloc (Nat.le_refl _) _
        have hx4 := heap_alloc_new w3 (.cells (hotC gd mb da dn dc h'.used.length ba bn bc) 103)
        have HB34 := Lib.hid hb34
        have HX4N := Lib.hid hx4
        have HV3 := Lib.hid hv3
        have HN3 := Lib.hid hN3
        have HP3 := Lib.hid hp3
        clear hrn hpl hb3w hb3 hb34 hx4 hv3 hN3 hp3 CP c2 HX2
        have HK3 := Lib.hid (HK.out.below HB3.out)
        have hd4 := (HK.out.below (HB3.out.trans (HB34.out.mono HB3.out.size))).disk
        obtain ⟨S₀, hs0, hs1, hs2⟩ := hd4.small
        have hp4 := HP3.out.below HB34.out
        have hUS : ∀ q', putsU (.slice pa q.length pc) N q' → ¬ S₀ q' := fun q' hq' => by
          rcases hq' with hq' | ⟨y, hy, hq'⟩
          · obtain ⟨cur, hc⟩ := hp4.recs.blk q' hq'
            exact hs2 q' _ _ hc (by decide) (by decide) (by decide)
          · obtain ⟨cur, hc⟩ := (hp4.oct y hy).blk q' hq'
            exact hs2 q' _ _ hc (by decide) (by decide) (by decide)
        have CM := Lib.hid (commit_any gd D S₀ (putsU (.slice pa q.length pc) N) pa q.length pc N _ hs0 hUS (hp4.into rfl) hf)
        rw [HN3.out] at CM
        obtain ⟨mb0, da0, dn0, dc0, ba0, bn0, bc0, MM0, hlat⟩ := HK.out.later
        have HLAT := Lib.hid hlat
        have hg4 := (hlat _ (HB3.out.trans (HB34.out.mono HB3.out.size))).1
        have hx4 := (HB34.out.block w.heap.size (Array.getElem?_eq_some_iff.1 HX3.out).1).trans HX3.out
        obtain ⟨d0, _⟩ := hot_cells hg4
        have c4 : (w3.alloc (.cells (hotC gd mb da dn dc h'.used.length ba bn bc) 103)).cell? ⟨w.heap.size, 0, none⟩ = some (.pointer (some ⟨g, 0, none⟩)) := by rw [cell_of_row _ _ _ _ _ _ hx4]; rfl
        have HS1 := Lib.hid hs1
        have HG4 := Lib.hid hg4
        have HX4 := Lib.hid hx4
        have hcl := commitOf_len D q
        have HCL := Lib.hid hcl
        clear hd4 hs0 hs1 hs2 hp4 hUS hlat hg4 hx4 hcl HP3 HN3
        generalize commitOf D q = r at *
        obtain ⟨r1, D1⟩ := r
        dsimp only at *
        unfold hotC at HX4N HG4 HX4 HB34 CM d0 c4 ⊢
        go_wp2_with fail
        refine CM.out.mono ?_
        rintro e w5 ⟨rfl, S1, hd5, ho5, hS1⟩
        dsimp only
        have hz4 : (w3.alloc (.cells #[.pointer (some ⟨gd, 0, none⟩), .map (some mb), .slice da dn dc, .int .i64 (h'.used.length : Nat), .slice ba bn bc] 103)).heap.size = w3.heap.size + 1 := by simp
        generalize w3.alloc (.cells #[.pointer (some ⟨gd, 0, none⟩), .map (some mb), .slice da dn dc, .int .i64 (h'.used.length : Nat), .slice ba bn bc] 103) = w4 at *
        have hSlt : ∀ q, S q → q < w.heap.size := HK.out.disk.lt
        have hS0lt : ∀ q, S₀ q → q < w.heap.size := fun q hq => hSlt q (HS1.out q hq)
        have hw3 := HB3.out.size
        have hgl := HK.out.lt
        have hg5 := (ho5.block g (Array.getElem?_eq_some_iff.1 HG4.out).1 fun e => HK.out.offS (HS1.out g e)).trans HG4.out
        have hx5 := (ho5.block w.heap.size (Array.getElem?_eq_some_iff.1 HX4.out).1 fun e => by have := hS0lt _ e; omega).trans HX4.out
        have hn5 := (ho5.block w3.heap.size (Array.getElem?_eq_some_iff.1 HX4N.out).1 fun e => by have := hS0lt _ e; omega).trans HX4N.out
        have ho45 : Only (fun q => q = g ∨ S q) w w5 := (Only.of_below (HB3.out.trans (HB34.out.mono HB3.out.size))).trans ho5 fun q _ e => .inr (HS1.out q e)
        have hS1w : ∀ q, S1 q → S q ∨ w.heap.size ≤ q := fun q hq => (hS1 q hq).imp (HS1.out q) fun e => by omega
        have HD5 := Lib.hid hd5
        have HO5 := Lib.hid ho5
        have HO45 := Lib.hid ho45
        have HS1W := Lib.hid hS1w
        have HS1O := Lib.hid hS1
        have HG5 := Lib.hid hg5
        have HX5 := Lib.hid hx5
        have HN5 := Lib.hid hn5
        have c5 : w5.cell? ⟨w.heap.size, 0, none⟩ = some (.pointer (some ⟨g, 0, none⟩)) := by rw [cell_of_row _ _ _ _ _ _ hx5]; rfl
        by_cases hr1 : r1 = 0
        · subst hr1
          have hxx := HX.out
          rw [if_pos rfl] at hxx
          subst hxx
          have hrng : w5.rangeAt w3.heap.size 0 [.pointer (some ⟨gd, 0, none⟩), .map (some mb), .slice da dn dc, .int .i64 (h'.used.length : Nat), .slice ba bn bc] := fun j v hj => by
            rw [Nat.zero_add, cell_of_row _ _ _ _ _ _ hn5]
            simpa using hj
          have HRNG := Lib.hid hrng
          clear hd5 ho5 hS1 ho45 hS1w hg5 hx5 hn5 hrng d0 c4 CM HX
          go_wp2_with (first
            | (refine wpList_load_mid rfl 103 _ rfl w3.heap.size 0 rfl [.pointer (some ⟨gd, 0, none⟩), .map (some mb), .slice da dn dc, .int .i64 (h'.used.length : Nat), .slice ba bn bc] _ HRNG.out Tryz.underlying103 rfl sizeHot ?_)
            | (refine wpList_store_row rfl _ _ _ rfl g #[.pointer (some ⟨gd, 0, none⟩), .map (some mb), .slice da dn dc, .int .i64 (h'.used.length : Nat), .slice ba bn bc] rfl rfl 103 _ HG5.out sizeHot rfl (by simp [Value.oneCell']) ?_))
          go_ret
          have hon : Only (fun q => q = g) w5 (w5.setRow g #[.pointer (some ⟨gd, 0, none⟩), .map (some mb), .slice da dn dc, .int .i64 (h'.used.length : Nat), .slice ba bn bc]) := Only.setRow (S := fun q => q = g) w5 g _ rfl
          have hg6 := heap_setRow_same w5 g #[.pointer (some ⟨gd, 0, none⟩), .map (some mb), .slice da dn dc, .int .i64 (h'.used.length : Nat), .slice ba bn bc] _ _ HG5.out
          have hw2 := HW2.out
          have hv4 := HV3.out.below HB34.out
          have hU3 : ∀ q, (U q ∨ (w2.heap.size ≤ q ∧ q < w3.heap.size)) → ¬ S q := fun q hq e => by
            rcases hq with hq | hq
            · exact HK.out.apart q hq e
            · have := hSlt q e; omega
          have hUg : ¬ (U g ∨ (w2.heap.size ≤ g ∧ g < w3.heap.size)) := by
            rintro (e | e)
            · exact HK.out.offU e
            · omega
          have hv6 := (hv4.only HO5.out fun q hq e => hU3 q hq (HS1.out q e)).only hon fun q hq e => hUg (e ▸ hq)
          have hS1g : ¬ S1 g := fun e => by
            rcases HS1W.out g e with e | e
            · exact HK.out.offS e
            · omega
          refine ⟨rfl, S1, fun q => U q ∨ (w2.heap.size ≤ q ∧ q < w3.heap.size), ⟨HD5.out.only hon fun q hq e => hS1g (e ▸ hq), ⟨mb, da, dn, dc, ba, bn, bc, MM, hg6, hv6⟩, fun q hq e => ?_, hS1g, hUg, by rw [HCL.out, HUL.out]; exact HK.out.size⟩, HO45.out.trans hon (fun q _ e => .inl e), HS1W.out, fun q hq => hq.imp id fun e => by omega⟩
          rcases HS1O.out q e with e | e
          · exact hU3 q hq (HS1.out q e)
          · rcases hq with hq | hq
            · have := (HLAT.out w (Below.refl _ _)).2.lt q hq; omega
            · omega
        · have hxx := HX.out
          rw [if_neg hr1] at hxx
          subst hxx
          clear hd5 ho5 hS1 ho45 hS1w hg5 hx5 hn5 d0 c4 CM HX
          go_wp2
          go_ret
          have hv5 := (HLAT.out w4 (HB3.out.trans (HB34.out.mono HB3.out.size))).2
          have hu5 : HotV w5 U mb0 da0 dn0 dc0 ba0 bn0 bc0 MM0 h := hv5.only HO5.out fun q hq e => HK.out.apart q hq (HS1.out q e)
          refine ⟨rfl, S1, U, ⟨HD5.out, ⟨mb0, da0, dn0, dc0, ba0, bn0, bc0, MM0, HG5.out, hu5⟩, fun q hq e => ?_, fun e => ?_, HK.out.offU, by rw [HCL.out]; exact HK.out.size⟩, HO45.out, HS1W.out, fun _ e => .inl e⟩
          · rcases HS1W.out q e with e | e
            · exact HK.out.apart q hq e
            · have := (HLAT.out w (Below.refl _ _)).2.lt q hq; omega
          · rcases HS1W.out g e with e | e
            · exact HK.out.offS e
            · omega
end

end Go.Proofs.YtjcmphjjkeigjaaGreat

namespace Go.Proofs.YtjcmphjjkeigjaaGreat
open Go.RowKit
set_option linter.unusedVariables false
set_option linter.unusedSimpArgs false
set_option maxRecDepth 100000

theorem blank_pre (n : Nat) (hn : n ≤ 2006) : HtPre (blankH n) := by
  refine ⟨List.Pairwise.nil, by simp [blankH], by simp [blankH], by simpa [blankH] using hn, by simp [blankH], fun p => ?_⟩
  have : (blankH n).used.getD p false = false := by
    show (List.replicate n false).getD p false = false
    rw [List.getD, List.getElem?_replicate]
    split <;> rfl
  rw [this]
  simp [blankH]
theorem ChgsIn.nil (w : World) : ChgsIn w (fun _ => False) none 0 0 [] := ⟨CameAt.nil _ _ _, fun _ h => h.elim, by simp, by simp, by simp, by simp⟩

set_option maxHeartbeats 4000000 in
theorem formatH_any (gd : Nat) (D : Dk) (S : Nat → Prop) (w : World) (k : DiskAt w S gd D) (hf : D.waits.length ≤ 1073740000) :
    Calls Tryz.prog 10 #[.pointer (some ⟨gd, 0, none⟩)] w (OpenTo (formatH D) S gd w) := by
  have CZ := Lib.hid (size_any gd D S w k)
  have CF := Lib.hid (format_any gd D S w k (by omega))
  obtain ⟨x, hx⟩ : ∃ x, x = formatH D := ⟨_, rfl⟩
  have hx2 := hx
  unfold formatH at hx2
  have HX := Lib.hid hx2
  have HFIT := Lib.hid ((Fit.format (n := D.secs.length) (k := D.waits.length) ⟨rfl, Nat.le_refl _⟩))
  rw [← hx]
  have HK := Lib.hid k
  have HMANY := Lib.hid k.ok.many
  clear k hx hx2
  generalize formatOf D = r at *
  obtain ⟨re, D1⟩ := r
  dsimp only at *
  go_enter Tryz.func10, Tryz.ntmps10
  go_wp2_with fail
  refine CZ.out.mono ?_
  rintro e w1 ⟨rfl, hw1⟩
  rw [← hw1]
  clear hw1
  by_cases hs : D.secs.length < 44
  · have hsi : (D.secs.length : Int) < 44 := by omega
    have hh := HX.out
    rw [if_pos hs] at hh
    subst hh
    clear HX hs
    go_wp2
    go_ret2
    exact ⟨S, Only.refl _ _, fun _ h => .inl h, .inl ⟨rfl, rfl, HK.out⟩⟩
  · have hsi : ¬ (D.secs.length : Int) < 44 := by omega
    have hh := HX.out
    rw [if_neg hs] at hh
    have HX := Lib.hid hh
    have HS44 := Lib.hid hs
    clear hh hs
    go_wp2_with fail
    refine CF.out.mono ?_
    rintro e w1 ⟨rfl, S1, hD1, hO1, hS1⟩
    have HD1 := Lib.hid hD1
    have HO1 := Lib.hid hO1
    have HS1 := Lib.hid hS1
    clear hD1 hO1 hS1 CF CZ
    by_cases hre : re = 0
    · subst hre
      have hh := HX.out
      rw [if_neg (by simp)] at hh
      have HX := Lib.hid hh
      have hn1 : D1.secs.length = D.secs.length := HFIT.out.1
      rw [← hn1] at HX
      have CB := Lib.hid (blank_any gd D1 S1 w1 HD1.out (by have := HS44.out; omega))
      clear hh
      go_wp2_with fail
      refine CB.out.mono ?_
      rintro e w2 ⟨g, U, rfl, hA2, hb2, hg2, hU2⟩
      have CH := Lib.hid (batch_any hA2 (ChgsIn.nil w2) (blank_pre _ (by have := HMANY.out; omega)) (by simp [blankH]) (by omega) (by have := HFIT.out.2; omega))
      rw [List.map_nil] at CH
      have hO2 : Only S w w2 := HO1.out.trans (Only.of_below (S := S) hb2) fun _ _ e => e
      have HO2 := Lib.hid hO2
      have HG2 := Lib.hid hg2
      have HU2 := Lib.hid hU2
      have HO1S := Lib.hid HO1.out.size
      have HB2S := Lib.hid hb2.size
      clear hA2 hb2 hg2 hU2 hO2 CB
      generalize batchOf D1 (blankH (D1.secs.length - 42)) [] = b at *
      obtain ⟨be, D2, h2⟩ := b
      dsimp only at HX CH
      go_wp2_with fail
      refine CH.out.mono ?_
      rintro e w3 ⟨rfl, S3, U3, hA3, hO3, hS3, hU3⟩
      dsimp only at hA3 ⊢
      have hs1 := HO1S.out
      have hs2 := HB2S.out
      have hO3w : Only S w w3 := HO2.out.trans hO3 fun q hq e => by
        rcases e with rfl | e
        · have := HG2.out; omega
        · rcases HS1.out q e with e | e
          · exact e
          · omega
      have hS3w : ∀ q, S3 q → S q ∨ w.heap.size ≤ q := fun q hq => by
        rcases hS3 q hq with e | e
        · exact HS1.out q e
        · omega
      have hU3w : ∀ q, U3 q → w.heap.size ≤ q := fun q hq => by
        rcases hU3 q hq with e | e
        · have := HU2.out q e; omega
        · omega
      have HA3 := Lib.hid hA3
      have HO3 := Lib.hid hO3w
      have HS3 := Lib.hid hS3w
      have HU3 := Lib.hid hU3w
      have HGW := Lib.hid (show w.heap.size ≤ g by have := HG2.out; omega)
      clear hA3 hO3 hS3 hU3 hO3w hS3w hU3w CH hs1 hs2
      by_cases hbe : be = 0
      · subst hbe
        have hh := HX.out
        rw [if_neg (by simp)] at hh
        subst hh
        clear HX
        go_wp2
        go_ret2
        exact ⟨S3, HO3.out, HS3.out, .inr ⟨h2, g, U3, rfl, rfl, HA3.out, HGW.out, HU3.out⟩⟩
      · have hh := HX.out
        rw [if_pos hbe] at hh
        subst hh
        clear HX
        go_wp2
        go_ret2
        exact ⟨S3, HO3.out, HS3.out, .inl ⟨rfl, rfl, HA3.out.disk⟩⟩
    · have hh := HX.out
      rw [if_pos hre] at hh
      subst hh
      clear HX
      go_wp2
      go_ret2
      exact ⟨S1, HO1.out, HS1.out, .inl ⟨rfl, rfl, HD1.out⟩⟩

end Go.Proofs.YtjcmphjjkeigjaaGreat
