/-
  Contracts: slices.EqualFunc over rows of octets; package tree's All.
-/
import Derived.Test.YtflboggjbjfkjaaTrH
namespace Go.Proofs.Ytflboggjbjfkjaa
open Go.RowKit Go.Shelf
set_option linter.unusedVariables false
set_option linter.unusedSimpArgs false
set_option maxRecDepth 100000

theorem pagesN_le (n : Nat) (h : n ≤ 600) : pagesN n ≤ 95 := by
  unfold pagesN
  generalize ha : max 1 ((n + 6) / 7) = a
  have ha1 : a ≤ 86 := by omega
  by_cases h1 : a ≤ 1
  · rw [finN_done (a, a) h1]; simp only; omega
  · rw [finN_step (a, a) (by simp only; omega)]
    simp only
    generalize hb : (a + 11) / 12 = b
    by_cases h2 : b ≤ 1
    · rw [finN_done (a + b, b) h2]; simp only; omega
    · rw [finN_step (a + b, b) (by simp only; omega)]
      simp only
      rw [finN_done _ (by simp only; omega)]
      simp only
      omega
theorem pagesN_600 : pagesN 600 = 95 := by decide

theorem allR_len {P : List (List UInt8)} (h : 95 < P.length) : allR P = none := by
  unfold allR
  rw [if_neg]
  rintro ⟨_, h2, h3⟩
  have := congrArg List.length h3
  rw [buildL_length] at this
  have := pagesN_le _ (mayL_asc h2).2
  omega
theorem allR_bad {P : List (List UInt8)} (k : Nat) (hk : k < P.length) (h : isP (P.getD k []) = false) : allR P = none := by
  unfold allR
  rw [if_neg]
  rintro ⟨h1, _, _⟩
  have := List.all_eq_true.1 h1 (P.getD k []) (by rw [List.getD, List.getElem?_eq_getElem hk]; exact List.getElem_mem hk)
  rw [h] at this
  cases this

set_option maxHeartbeats 2000000 in
theorem eqRows_any (a : Option Addr) (n cap : Nat) (P : List (List UInt8)) (b : Option Addr) (m c : Nat) (Q : List (List UInt8)) (w : World) (hP : RowsR w a n cap P) (hQ : RowsR w b m c Q) :
    Calls Try.prog 26 #[.slice a n cap, .slice b m c, .func (.func 27) #[] #[]] w fun e w' => e = .returned (.bool (decide (P = Q))) ∧ w = w' := by
  have HP := Lib.hid hP
  have HQ := Lib.hid hQ
  have HL := Lib.hid hP.len
  have HM := Lib.hid hQ.len
  have hE : ∀ args u, (callFunc 27 args).run Try.prog u = .ok (.enter 27 args) u := enters_of Try.func27 (by kernel_rfl) rfl
  have hnx : n ≤ 9223372036854775807 := by have := hP.caps.1; have := hP.caps.2; unfold maxLen at *; omega
  clear hP hQ
  by_cases hnm : n = m
  · subst hnm
    go_enter Try.func26, Try.ntmps26
    go_wp2
    go_loopw [17] (fun i wr => ∃ k : Nat, k ≤ n ∧ i = .int .i64 k ∧ (∀ j, j < k → P.getD j [] = Q.getD j []) ∧ w = wr) (fun i _ => n - (intOf i).toNat)
    case atStart => exact ⟨0, Nat.zero_le _, rfl, fun j hj => by omega, rfl⟩
    case round =>
      obtain ⟨k, hk, rfl, heq, rfl⟩ := hrel
      have HEQ := Lib.hid heq
      clear heq
      by_cases hlt : k < n
      · obtain ⟨b1, off1, rfl, hb1, hc1⟩ := HP.out.at [] (by omega)
        obtain ⟨⟨ha, hn, hc⟩, hcell1, hE1⟩ := hc1 k hlt
        obtain ⟨b2, off2, rfl, hb2, hc2⟩ := HQ.out.at [] (by omega)
        obtain ⟨⟨ga, gn, gc⟩, hcell2, hE2⟩ := hc2 k hlt
        dsimp only at hcell1 hE1 hcell2 hE2
        have CE := Lib.hid (equal_any ha hn hc _ ga gn gc _ w hE1 hE2)
        have HY := Lib.hid (fun (h : P.getD k [] = Q.getD k []) => (fun j hj => by
          by_cases e : j = k
          · subst e; exact h
          · exact HEQ.out j (by omega) : ∀ j, j < k + 1 → P.getD j [] = Q.getD j []))
        have HN := Lib.hid (fun (h : P.getD k [] ≠ Q.getD k []) => (decide_eq_false (fun e => h (by rw [e])) : decide (P = Q) = false))
        clear hE1 hE2 hc1 hc2
        generalize P.getD k [] = x at *
        generalize Q.getD k [] = y at *
        by_cases hxy : x = y
        · have H := Lib.hid (HY.out hxy)
          rw [decide_eq_true hxy] at CE
          clear HY HN hxy
          go_wp2_with fail
          refine (CE.out).mono ?_
          rintro e w1 ⟨rfl, rfl⟩
          go_wp2
          exact ⟨⟨k + 1, by omega, by go_num, H.out, trivial⟩, by simp [intOf]; omega⟩
        · have H := Lib.hid (HN.out hxy)
          rw [decide_eq_false hxy] at CE
          clear HY HN hxy
          go_wp2_with fail
          refine (CE.out).mono ?_
          rintro e w1 ⟨rfl, rfl⟩
          go_wp2
          go_ret
          exact ⟨congrArg (fun b => Ending.returned (.bool b)) H.out.symm, rfl⟩
      · obtain rfl : k = n := by omega
        have hPQ : P = Q := by
          apply List.ext_getElem?
          intro j
          by_cases hj : j < k
          · have h1 := HEQ.out j hj
            have e1 := HL.out
            have e2 := HM.out
            rw [List.getD, List.getD, List.getElem?_eq_getElem (by omega), List.getElem?_eq_getElem (by omega)] at h1
            rw [List.getElem?_eq_getElem (by omega), List.getElem?_eq_getElem (by omega)]
            exact congrArg some h1
          · have e1 := HL.out
            have e2 := HM.out
            rw [List.getElem?_eq_none (by omega), List.getElem?_eq_none (by omega)]
        have H := Lib.hid (decide_eq_true hPQ)
        clear hPQ HEQ
        go_wp2
        go_ret
        exact ⟨congrArg (fun b => Ending.returned (.bool b)) H.out.symm, rfl⟩
  · have H := Lib.hid (decide_eq_false (fun (e : P = Q) => hnm (by have := HL.out; have := HM.out; rw [e] at *; omega)))
    have hni : ¬ (n : Int) = (m : Int) := by omega
    go_enter Try.func26, Try.ntmps26
    go_wp2
    go_ret
    exact ⟨congrArg (fun b => Ending.returned (.bool b)) H.out.symm, rfl⟩


/-- pairs laid behind pairs of the call's own, whatever slice they come from -/
theorem wpList_append_pairs {w : World} {ops : Array Oper} {rest : List Oper} {o : Oper} {a : Act} {Q : Exit → Act → World → Prop} (hgd : o.guard = none) (s x : Operand)
    (ho : o.op = .call { callee := .builtin .append, args := #[s, x], argTypes := #[22, 22] })
    (v : Value) (L : List (Nat × Nat)) (hs : a.eval s = v) (hown : Recs pairC w 48 2 v L)
    (sa : Option Addr) (m c : Nat) (M : List (Nat × Nat)) (hx : a.eval x = .slice sa m c) (hsrc : PairsAt w sa m c M) (h63 : L.length + m ≤ 1000000)
    (h : ∀ v' w', Recs pairC w' 48 2 v' (L ++ M) → w.grownBy w' v.ownBlock → (v'.ownBlock = v.ownBlock ∨ v'.ownBlock = some w.heap.size) → wpList Try.prog ops Q rest (a.put o.dst v') w') : wpList Try.prog ops Q (o :: rest) a w := by
  obtain ⟨i0, hi, hz0, hz1, hz2⟩ := info_parts infoPair
  obtain ⟨h1, h2, h3, h4, h5⟩ := hsrc
  rcases h5 with ⟨rfl, rfl, rfl⟩ | ⟨ad, rfl, hc⟩
  · have : M = [] := List.eq_nil_of_length_eq_zero h1
    subst this
    refine wpList_append_own_none hgd s x 22 ho 0 48 i0 2 Try.underlying22 hi v L.length _ hs hown.2.2 hx ?_
    exact h v w (by simpa using hown) (World.grownBy.refl _ _) (.inl rfl)
  · refine wpList_append_recs hgd s x 22 ho 48 i0 _ 2 16 Try.underlying22 hi hz0 hz1 hz2 (by simp [Value.cells]) (by omega) v L hs hown ad m c M hx h1 (fun y _ => pairC_len y) (fun y _ => pairC_one y) (fun j u hu => ?_) (by unfold maxLen; omega) (by omega) h
    have hjl : j < M.length * 2 := by
      have := (List.getElem?_eq_some_iff.1 hu).1
      rwa [flatMap_len (f := pairC) (size := 2) M (fun _ _ => rfl)] at this
    have hx : M[j / 2]? = some M[j / 2] := List.getElem?_eq_getElem (by omega)
    have hd : j / 2 * 2 + j % 2 = j := by omega
    have := hc (j / 2) (j % 2) _ hx (by omega)
    rw [hd] at this
    rw [this, ← flatMap_at M (f := pairC) (size := 2) (fun _ _ => rfl) (j / 2) (j % 2) _ hx (by omega), hd, hu]

/-- what All answers -/
def AllTo (P : List (List UInt8)) (w : World) (e : Ending) (w' : World) : Prop :=
  Below w.heap.size w w' ∧ ((allR P = none ∧ e = .returned (.tuple #[.slice none 0 0, .int .i64 3])) ∨
    ∃ (v : Value) (L : List (Nat × Nat)), allR P = some L ∧ e = .returned (.tuple #[v, .int .i64 0]) ∧ Recs pairC w' 48 2 v L)

theorem leaf_fits (P : List (List UInt8)) (h : ∀ b ∈ P, isP b = true) : Fits 1 (P.flatMap leafEnts) := by
  intro p hp
  obtain ⟨b, hb, hpb⟩ := List.mem_flatMap.1 hp
  unfold leafEnts at hpb
  split at hpb
  · rename_i h1
    have := fits_ents b p hpb
    rwa [h1] at this
  · cases hpb
theorem leaf_len (P : List (List UInt8)) (h : ∀ b ∈ P, isP b = true) : (P.flatMap leafEnts).length ≤ 12 * P.length := by
  induction P with
  | nil => simp
  | cons b P ih =>
    have h1 := ih (fun x hx => h x (List.mem_cons_of_mem _ hx))
    have h2 : (leafEnts b).length ≤ 12 := by
      obtain ⟨_, hm⟩ := isP_may (h b List.mem_cons_self)
      unfold leafEnts
      split
      · rw [entsOf_length]
        rcases mayN_cases hm with h | h <;> omega
      · simp
    rw [List.flatMap_cons, List.length_append, List.length_cons]
    omega
theorem leaf_take {P : List (List UInt8)} (k : Nat) (hk : k < P.length) : (P.take (k + 1)).flatMap leafEnts = (P.take k).flatMap leafEnts ++ leafEnts (P.getD k []) := by
  rw [List.take_succ_eq_append_getElem hk, List.flatMap_append]
  simp [List.getD, List.getElem?_eq_getElem hk]

set_option maxHeartbeats 8000000 in
theorem all_any (a : Option Addr) (n cap : Nat) (P : List (List UInt8)) (w : World) (hP : RowsR w a n cap P) :
    Calls Try.prog 14 #[.slice a n cap] w (AllTo P w) := by
  have HP := Lib.hid hP
  have HL := Lib.hid hP.len
  have hnx : n ≤ 9223372036854775807 := by have := hP.caps.1; have := hP.caps.2; unfold maxLen at *; omega
  have CP := pages_any 600 w (Nat.le_refl _)
  rw [pagesN_600] at CP
  have CP := Lib.hid CP
  have HBAD := Lib.hid (fun k (hk : k < n) (h : isP (P.getD k []) = false) => allR_bad k (by rw [hP.len]; exact hk) h)
  have HTK := Lib.hid (fun k (hk : k < n) => leaf_take (P := P) k (by rw [hP.len]; exact hk))
  clear hP
  by_cases hn : 95 < n
  · have hni : (95 : Int) < (n : Int) := by omega
    have H := Lib.hid (allR_len (P := P) (by rw [HL.out]; exact hn))
    go_enter Try.func14, Try.ntmps14
    go_wp2_with (go_at_call 10; refine (CP.out).mono ?_; rintro e w1 ⟨rfl, rfl⟩)
    go_ret2
    exact ⟨Below.refl _ _, .inl ⟨H.out, rfl⟩⟩
  · have hni : ¬ (95 : Int) < (n : Int) := by omega
    go_enter Try.func14, Try.ntmps14
    go_wp2_with (go_at_call 10; refine (CP.out).mono ?_; rintro e w1 ⟨rfl, rfl⟩)
    clear CP
    go_loopw [4, 17] (fun x i wr => ∃ k : Nat, k ≤ n ∧ i = .int .i64 k ∧ (∀ j, j < k → isP (P.getD j []) = true) ∧ Recs pairC wr 48 2 x ((P.take k).flatMap leafEnts) ∧ (∀ q, x.ownBlock = some q → w.heap.size ≤ q) ∧ Below w.heap.size w wr) (fun _ i _ => n - (intOf i).toNat)
    case atStart => exact ⟨0, Nat.zero_le _, rfl, fun j hj => by omega, by rw [List.take_zero]; exact Recs.nil _ _ _ _, fun q hq => by simp [Value.ownBlock] at hq, Below.refl _ _⟩
    case round =>
      obtain ⟨k, hk, rfl, his, hr, hx, hb⟩ := hrel
      have HIS := Lib.hid his
      have HR := Lib.hid hr
      have HX := Lib.hid hx
      have HB := Lib.hid hb
      have hlenk : ((P.take k).flatMap leafEnts).length ≤ 12 * k := by
        have := leaf_len (P.take k) (fun b hb => by
          obtain ⟨j, hj, rfl⟩ := List.mem_iff_getElem.1 hb
          have h1 : j < P.length := by rw [List.length_take] at hj; omega
          have := his j (by rw [List.length_take] at hj; omega)
          rw [List.getD, List.getElem?_eq_getElem h1] at this
          simpa using this)
        rw [List.length_take] at this
        omega
      have HLK := Lib.hid hlenk
      clear his hr hx hb hlenk
      by_cases hlt : k < n
      · obtain ⟨b, off, rfl, hbb, hc⟩ := (HP.out.below HB.out).at [] (by omega)
        obtain ⟨⟨ha, hn2, hc2⟩, hcell, hE⟩ := hc k hlt
        dsimp only at hcell hE
        have htk := HTK.out k hlt
        have hbad := HBAD.out k hlt
        have hisk : isP (P.getD k []) = true → ∀ j, j < k + 1 → isP (P.getD j []) = true := fun h j hj => by
          by_cases e : j = k
          · subst e; exact h
          · exact HIS.out j (by omega)
        generalize P.getD k [] = pg at *
        have CN := Lib.hid (nodeOf_any ha hn2 hc2 pg wr hE)
        have HTK2 := Lib.hid htk
        have HBD := Lib.hid hbad
        have HISK := Lib.hid hisk
        clear hc hE htk hbad hisk
        go_wp2_with fail
        refine (CN.out).mono ?_
        rintro e w1 ⟨hb1, ⟨hp, rfl⟩ | ⟨hp, a1, n1, c1, rfl, hrc, hown⟩⟩
        · have H := Lib.hid (HBD.out hp)
          have hbb := HB.out.trans (hb1.mono HB.out.size)
          have HBB := Lib.hid (hbb.alloc hbb.size (.cells nodeZ 60))
          have HBS := Lib.hid (below_setRow HBB.out hbb.size nodeZ)
          have HSN := Lib.hid (show (Try.prog.info? 60).map (·.size) = some nodeZ.size from sizeNode)
          have HAN := Lib.hid (show nodeZ.all (·.oneCell') = true from all_node _ rfl 0)
          clear hp hb1 hbb CN HBD
          unfold nodeZ at HSN HAN HBS ⊢
          go_wp2_with (refine wpList_store_row rfl _ _ _ rfl w1.heap.size #[.int .u64 0, .slice none 0 0] rfl rfl 60 _ (heap_alloc_new w1 _) HSN.out rfl HAN.out ?_)
          go_ret2
          exact ⟨HBS.out, .inl ⟨H.out, rfl⟩⟩
        · have HIK := Lib.hid (HISK.out hp)
          have hbb := HB.out.trans (hb1.mono HB.out.size)
          have hal : Below w1.heap.size w1 ((w1.alloc (.cells nodeZ 60)).setRow w1.heap.size #[.int .u64 (kindL pg : Nat), .slice a1 n1 c1]) := below_setRow ((Below.refl _ _).alloc (Nat.le_refl _) _) (Nat.le_refl _) _
          have hbx := heap_setRow_same (w1.alloc (.cells nodeZ 60)) w1.heap.size #[.int .u64 (kindL pg : Nat), .slice a1 n1 c1] _ _ (heap_alloc_new w1 _)
          have hpr := CameAt.below hrc.came (Nat.zero_lt_succ 1) hal
          have hr2 := (HR.out.below hb1).below hal
          have hb2 := hbb.trans (hal.mono hbb.size)
          obtain ⟨w2, hw2⟩ : ∃ u, u = (w1.alloc (.cells nodeZ 60)).setRow w1.heap.size #[.int .u64 (kindL pg : Nat), .slice a1 n1 c1] := ⟨_, rfl⟩
          rw [← hw2] at hal hbx hpr hb2 hr2
          have HW2 := Lib.hid hw2
          have HSN := Lib.hid (show (Try.prog.info? 60).map (·.size) = some (#[Value.int .u64 (kindL pg : Nat), Value.slice a1 n1 c1] : Array Value).size from sizeNode)
          have HAN := Lib.hid (all_node (.slice a1 n1 c1) rfl (kindL pg : Nat))
          have c0 : w2.cell? ⟨w1.heap.size, 0, none⟩ = some (.int .u64 (kindL pg : Nat)) := by rw [cell_of_row _ _ _ _ _ _ hbx]; rfl
          have c1' : w2.cell? ⟨w1.heap.size, 1, none⟩ = some (.slice a1 n1 c1) := by rw [cell_of_row _ _ _ _ _ _ hbx]; rfl
          have hel : n1 ≤ 12 := by
            obtain ⟨_, hmy⟩ := isP_may hp
            have hcn : (entsOf pg).length = n1 := hrc.came.1
            rw [entsOf_length] at hcn
            rcases mayN_cases hmy with h | h <;> omega
          have hle : leafEnts pg = if kindL pg = 1 then entsOf pg else [] := rfl
          have HLE := Lib.hid hle
          have HPR := Lib.hid hpr
          have HB2 := Lib.hid hb2
          have HR2 := Lib.hid hr2
          have HSM := Lib.hid (show ((P.take k).flatMap leafEnts).length + n1 ≤ 1000000 by have := HLK.out; omega)
          clear hp hb1 hrc hown hbb hal hbx hpr hb2 hw2 CN HBD hr2 hle
          generalize kindL pg = kd at *
          unfold nodeZ at HW2
          by_cases hk1 : kd = 1
          · have hl1 := HLE.out
            rw [if_pos hk1] at hl1
            subst hk1
            have HT := HTK2.out
            rw [hl1] at HT
            have HT := Lib.hid HT
            clear hl1
            go_wp2_with (first
              | (refine wpList_store_row rfl _ _ _ rfl w1.heap.size #[.int .u64 ((1 : Nat) : Int), .slice a1 n1 c1] rfl rfl 60 _ (heap_alloc_new w1 _) HSN.out rfl HAN.out ?_; rw [← HW2.out])
              | (refine wpList_append_pairs rfl _ _ rfl _ _ rfl HR2.out a1 n1 c1 _ rfl HPR.out HSM.out ?_; intro v3 w3 hr3 hg3 hv3))
            rw [← HT.out] at hr3
            have hb3 : Below w.heap.size w w3 := HB2.out.grown hg3 HB2.out.size (fun q hq => HX.out q hq)
            have hx3 : ∀ q, v3.ownBlock = some q → w.heap.size ≤ q := fun q hq => by
              rcases hv3 with e | e
              · exact HX.out q (e ▸ hq)
              · rw [e] at hq; have := HB2.out.size; simp at hq; omega
            exact ⟨⟨k + 1, by omega, by go_num, HIK.out, hr3, hx3, hb3⟩, by simp [intOf]; omega⟩
          · have hl1 := HLE.out
            rw [if_neg hk1] at hl1
            have HT := HTK2.out
            rw [hl1, List.append_nil] at HT
            have HT := Lib.hid HT
            have hk2 : ¬ (kd : Int) = 1 := by omega
            clear hl1
            go_wp2_with (first
              | (refine wpList_store_row rfl _ _ _ rfl w1.heap.size #[.int .u64 (kd : Int), .slice a1 n1 c1] rfl rfl 60 _ (heap_alloc_new w1 _) HSN.out rfl HAN.out ?_; rw [← HW2.out]))
            exact ⟨⟨k + 1, by omega, by go_num, HIK.out, by rw [HT.out]; exact HR2.out, HX.out, HB2.out⟩, by simp [intOf]; omega⟩
      · obtain rfl : k = n := by omega
        have hr := HR.out
        have htl : P.take k = P := List.take_of_length_le (Nat.le_of_eq HL.out)
        have hlk := HLK.out
        rw [htl] at hr hlk
        have hall : P.all isP = true := List.all_eq_true.2 fun b hb => by
          obtain ⟨j, hj, rfl⟩ := List.mem_iff_getElem.1 hb
          have := HIS.out j (by rw [← HL.out]; exact hj)
          rw [List.getD, List.getElem?_eq_getElem hj] at this
          simpa using this
        have hfit := leaf_fits P (fun b hb => List.all_eq_true.1 hall b hb)
        have hdef : allR P = if P.all isP = true ∧ mayL (P.flatMap leafEnts) = true ∧ buildL (P.flatMap leafEnts) = P then some (P.flatMap leafEnts) else none := rfl
        obtain ⟨ax, cx, rfl, _, _⟩ := hr.form
        generalize P.flatMap leafEnts = L at *
        have HRR := Lib.hid hr
        clear HR HTK HBAD HIS HLK htl hr
        have HD := Lib.hid hdef
        have hLn : L.length ≤ 2000 := by omega
        clear hdef
        cases hm : mayL L with
        | false =>
          have CB := Lib.hid (build_no ax L.length cx L wr HRR.out.came hm)
          have hd := HD.out
          rw [if_neg (by rw [hm]; simp)] at hd
          have H := Lib.hid hd
          clear hd hm hall hfit
          generalize L.length = ln at *
          go_wp2_with fail
          refine (CB.out).mono ?_
          rintro e w1 ⟨rfl, hb1⟩
          go_wp2
          go_ret2
          exact ⟨HB.out.trans (hb1.mono HB.out.size), .inl ⟨H.out, rfl⟩⟩
        | true =>
          have CB := Lib.hid (build_yes ax L.length cx L wr HRR.out.came hm hfit)
          have hd := HD.out
          rw [hall, hm] at hd
          have HDD := Lib.hid hd
          clear hd hall hfit hm
          generalize hln : L.length = ln at *
          have HLN := Lib.hid hln
          clear hln
          go_wp2_with fail
          refine (CB.out).mono ?_
          rintro e w1 ⟨v1, rfl, hro, hown, hb1⟩
          obtain ⟨a1, c1, rfl, _, _⟩ := hro.form
          have CE := Lib.hid (eqRows_any a k cap P a1 (buildL L).length c1 (buildL L) w1 ((HP.out.below HB.out).below hb1) hro.read)
          have HR1 := Lib.hid (HRR.out.below hb1)
          have HB1 := Lib.hid (HB.out.trans (hb1.mono HB.out.size))
          clear hro hown hb1 CB HRR
          have hd := HDD.out
          generalize buildL L = B at *
          generalize hbn : B.length = bn at *
          have HBN := Lib.hid hbn
          clear hbn
          by_cases hPB : P = B
          · rw [if_pos (by simp [hPB])] at hd
            rw [decide_eq_true hPB] at CE
            have H := Lib.hid hd
            clear hd hPB
            go_wp2_with (go_at_call 26; refine (CE.out).mono ?_; rintro e w2 ⟨rfl, rfl⟩)
            go_ret2
            exact ⟨HB1.out, .inr ⟨_, L, H.out, rfl, HR1.out⟩⟩
          · rw [if_neg (by rintro ⟨_, _, h⟩; exact hPB h.symm)] at hd
            rw [decide_eq_false hPB] at CE
            have H := Lib.hid hd
            clear hd hPB
            go_wp2_with (go_at_call 26; refine (CE.out).mono ?_; rintro e w2 ⟨rfl, rfl⟩)
            go_ret2
            exact ⟨HB1.out, .inl ⟨H.out, rfl⟩⟩

end Go.Proofs.Ytflboggjbjfkjaa
