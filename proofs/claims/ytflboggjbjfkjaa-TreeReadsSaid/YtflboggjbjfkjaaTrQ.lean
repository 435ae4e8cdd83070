/-
  Contract of hamperref06's All.
-/
import Derived.Test.YtflboggjbjfkjaaTrP
namespace Go.Proofs.Ytflboggjbjfkjaa
open Go.RowKit
set_option linter.unusedVariables false
set_option linter.unusedSimpArgs false
set_option maxRecDepth 100000

def All6To (P : List (List UInt8)) (w : World) (e : Ending) (w' : World) : Prop :=
  Below w.heap.size w w' ∧ ((allR P = none ∧ e = .returned (.tuple #[.slice none 0 0, .bool false])) ∨
    ∃ (v : Value) (L : List (Nat × Nat)), allR P = some L ∧ e = .returned (.tuple #[v, .bool true]) ∧ Recs pairC w' 48 2 v L)

theorem strs_at {w : World} {a : Option Addr} {n cap : Nat} {S : List (List UInt8)} (h : CameAt strC 1 w a n cap S) (hn : 0 < n) :
    ∃ b off, a = some ⟨b, off, none⟩ ∧ b < w.heap.size ∧ ∀ i, i < n → w.cell? ⟨b, off + i, none⟩ = some (.string ⟨(S.getD i []).toArray⟩) := by
  obtain ⟨b, off, h1, h2, h3⟩ := CameAt.at h hn (by omega)
  refine ⟨b, off, h1, h2, fun i hi => ?_⟩
  have hx : S[i]? = some (S.getD i []) := by rw [List.getD, List.getElem?_eq_getElem (by have := h.1; omega)]; rfl
  have := h3 i 0 _ hx (by omega)
  simpa [strC] using this

set_option maxHeartbeats 4000000 in
theorem all6_any (a : Option Addr) (n cap : Nat) (P : List (List UInt8)) (w : World) (hP : CameAt strC 1 w a n cap P) (hn : n ≤ 99) (hl : ∀ l ∈ P, l.length ≤ 1000000) :
    Calls Try.prog 15 #[.slice a n cap] w (All6To P w) := by
  have HP := Lib.hid hP
  have HL := Lib.hid hP.1
  have HBAD := Lib.hid (fun k (hk : k < n) (h : isP (P.getD k []) = false) => allR_bad k (by rw [hP.1]; exact hk) h)
  have HTK := Lib.hid (fun k (hk : k < n) => leaf_take (P := P) k (by rw [hP.1]; exact hk))
  have HMX := Lib.hid (fun k (hk : k < n) => hl (P.getD k []) (by rw [List.getD, List.getElem?_eq_getElem (by rw [hP.1]; exact hk)]; exact List.getElem_mem (by rw [hP.1]; exact hk)))
  clear hP hl
  go_enter Try.func15, Try.ntmps15
  go_wp2
  go_loopw [4, 5] (fun x i wr => ∃ k : Nat, k ≤ n ∧ i = .int .i64 k ∧ (∀ j, j < k → isP (P.getD j []) = true) ∧ Recs pairC wr 48 2 x ((P.take k).flatMap leafEnts) ∧ (∀ q, x.ownBlock = some q → w.heap.size ≤ q) ∧ Below w.heap.size w wr) (fun _ i _ => n - (intOf i).toNat)
  case atStart => exact ⟨0, Nat.zero_le _, rfl, fun j hj => by omega, by rw [List.take_zero]; exact Recs.nil _ _ _ _, fun q hq => by simp [Value.ownBlock] at hq, Below.refl _ _⟩
  case round =>
    obtain ⟨k, hk, rfl, his, hr, hx, hb⟩ := hrel
    have HIS := Lib.hid his
    have HR := Lib.hid hr
    have HX := Lib.hid hx
    have HB := Lib.hid hb
    have hlenk : ((P.take k).flatMap leafEnts).length ≤ 12 * k := by
      have := leaf_len (P.take k) (fun b hb => by
        obtain ⟨j, hj, rfl⟩ := List.mem_iff_getElem.1 hb
        have h0 := HL.out
        have h1 : j < P.length := by rw [List.length_take] at hj; omega
        have := his j (by rw [List.length_take] at hj; omega)
        rw [List.getD, List.getElem?_eq_getElem h1] at this
        simpa using this)
      rw [List.length_take] at this
      omega
    have HLK := Lib.hid hlenk
    clear his hr hx hb hlenk
    by_cases hlt : k < n
    · obtain ⟨b, off, rfl, hbb, hc⟩ := strs_at (CameAt.below HP.out (Nat.zero_lt_succ 0) HB.out) (by omega)
      have hcell := hc k hlt
      have htk := HTK.out k hlt
      have hbad := HBAD.out k hlt
      have hmx := HMX.out k hlt
      have hisk : isP (P.getD k []) = true → ∀ j, j < k + 1 → isP (P.getD j []) = true := fun h j hj => by
        by_cases e : j = k
        · subst e; exact h
        · exact HIS.out j (by omega)
      have hki : (k : Int) < (n : Int) := by omega
      generalize P.getD k [] = pg at *
      have CI := is_any pg wr hmx
      have HTK2 := Lib.hid htk
      have HBD := Lib.hid hbad
      have HISK := Lib.hid hisk
      clear hc htk hbad hisk hmx
      cases hp : isP pg with
      | false =>
        rw [hp] at CI
        have CI := Lib.hid CI
        have H := Lib.hid (HBD.out hp)
        clear hp
        go_wp2_with fail
        refine (CI.out).mono ?_
        rintro e w1 ⟨rfl, hb1⟩
        go_wp2
        go_ret2
        exact ⟨HB.out.trans (hb1.mono HB.out.size), .inl ⟨H.out, rfl⟩⟩
      | true =>
        rw [hp] at CI
        have CI := Lib.hid CI
        have HIK := Lib.hid (HISK.out hp)
        have CPR := Lib.hid (fun u => pairs6_any pg u hp)
        have hel : (leafEnts pg).length ≤ 12 := by
          have := leaf_len [pg] (fun b hb => by simp only [List.mem_singleton] at hb; subst hb; exact hp)
          simpa using this
        clear hp
        go_wp2_with fail
        refine (CI.out).mono ?_
        rintro e w1 ⟨rfl, hb1⟩
        have hcell1 : w1.cell? ⟨b, off + k, none⟩ = some (.string ⟨pg.toArray⟩) := (hb1.cell (p := ⟨b, off + k, none⟩) hbb).trans hcell
        have HR1 := Lib.hid (HR.out.below hb1)
        have HB1 := Lib.hid (HB.out.trans (hb1.mono HB.out.size))
        clear hb1 hcell CI
        go_wp2_with fail
        refine (CPR.out _).mono ?_
        rintro e w2 ⟨v2, rfl, hr2, _, hb2⟩
        obtain ⟨a2, c2, rfl, _, _⟩ := hr2.form
        have HC2 := Lib.hid hr2.came
        have HR2 := Lib.hid (HR1.out.below hb2)
        have HB2 := Lib.hid (HB1.out.trans (hb2.mono HB1.out.size))
        generalize hln : (leafEnts pg).length = ln at *
        have HSM := Lib.hid (show ((P.take k).flatMap leafEnts).length + ln ≤ 1000000 by have := HLK.out; omega)
        clear hr2 hb2 hcell1 CPR hln
        go_wp2_with (refine wpList_append_pairs rfl _ _ rfl _ _ rfl HR2.out a2 ln c2 _ rfl HC2.out HSM.out ?_; intro v3 w3 hr3 hg3 hv3)
        rw [← HTK2.out] at hr3
        have hb3 : Below w.heap.size w w3 := HB2.out.grown hg3 HB2.out.size (fun q hq => HX.out q hq)
        have hx3 : ∀ q, v3.ownBlock = some q → w.heap.size ≤ q := fun q hq => by
          rcases hv3 with e | e
          · exact HX.out q (e ▸ hq)
          · rw [e] at hq; have := HB2.out.size; simp at hq; omega
        exact ⟨⟨k + 1, by omega, by go_num, HIK.out, hr3, hx3, hb3⟩, by simp [intOf]; omega⟩
    · obtain rfl : k = n := by omega
      have hr := HR.out
      have htl : P.take k = P := List.take_of_length_le (Nat.le_of_eq HL.out)
      have hlk := HLK.out
      rw [htl] at hr hlk
      have hall : P.all isP = true := List.all_eq_true.2 fun b hb => by
        obtain ⟨j, hj, rfl⟩ := List.mem_iff_getElem.1 hb
        have := HIS.out j (by rw [← HL.out]; exact hj)
        rw [List.getD, List.getElem?_eq_getElem hj] at this
        simpa using this
      have hfit := leaf_fits P (fun b hb => List.all_eq_true.1 hall b hb)
      have hdef : allR P = if P.all isP = true ∧ mayL (P.flatMap leafEnts) = true ∧ buildL (P.flatMap leafEnts) = P then some (P.flatMap leafEnts) else none := rfl
      obtain ⟨ax, cx, rfl, _, _⟩ := hr.form
      generalize P.flatMap leafEnts = L at *
      have HRR := Lib.hid hr
      clear HR HTK HBAD HIS HLK htl hr HMX
      have HD := Lib.hid hdef
      have hLn : L.length ≤ 2000 := by omega
      have CM := may6_any ax L.length cx L wr HRR.out.came
      clear hdef
      cases hm : mayL L with
      | false =>
        rw [hm] at CM
        have CM := Lib.hid CM
        have hd := HD.out
        rw [if_neg (by rw [hm]; simp)] at hd
        have H := Lib.hid hd
        clear hd hm hall hfit
        generalize L.length = ln at *
        go_wp2_with fail
        refine (CM.out).mono ?_
        rintro e w1 ⟨rfl, hb1⟩
        go_wp2
        go_ret2
        exact ⟨HB.out.trans (hb1.mono HB.out.size), .inl ⟨H.out, rfl⟩⟩
      | true =>
        obtain ⟨hasc, h600⟩ := mayL_asc hm
        rw [hm] at CM
        have CM := Lib.hid CM
        have CB := Lib.hid (fun u (h : PairsAt u ax L.length cx L) => build6_any ax L.length cx L u h h600 hfit hasc)
        have hd := HD.out
        rw [hall, hm] at hd
        have HDD := Lib.hid hd
        have hb95 : (buildL L).length ≤ 95 := by rw [buildL_length]; exact pagesN_le _ h600
        clear hd hall hfit hm hasc h600
        generalize hln : L.length = ln at *
        have HLN := Lib.hid hln
        clear hln
        go_wp2_with fail
        refine (CM.out).mono ?_
        rintro e w1 ⟨rfl, hb1⟩
        have HR1 := Lib.hid (HRR.out.below hb1)
        have HB1 := Lib.hid (HB.out.trans (hb1.mono HB.out.size))
        clear hb1 CM
        go_wp2_with fail
        refine (CB.out _ HR1.out.came).mono ?_
        rintro e w2 ⟨v2, rfl, hr2, _, hb2⟩
        obtain ⟨a2, c2, rfl, _, _⟩ := hr2.form
        have HR2 := Lib.hid (HR1.out.below hb2)
        have HB2 := Lib.hid (HB1.out.trans (hb2.mono HB1.out.size))
        have hd := HDD.out
        generalize buildL L = B at *
        generalize hbn : B.length = bn at *
        have HBN := Lib.hid hbn
        have HO := Lib.hid hr2
        clear hr2 hb2 CB HRR hbn
        by_cases hlen : bn = k
        · subst hlen
          have HDN := Lib.hid (fun (h : B ≠ P) => (by rw [hd, if_neg (by rintro ⟨_, _, h'⟩; exact h h')] : allR P = none))
          have HDY := Lib.hid (fun (h : B = P) => (by rw [hd, if_pos (by simp [h])] : allR P = some L))
          clear hd HDD HD
          go_wp2
          go_loopw [7] (fun i wx => ∃ j : Nat, j ≤ bn ∧ i = .int .i64 j ∧ (∀ t, t < j → B.getD t [] = P.getD t []) ∧ Below w2.heap.size w2 wx) (fun i _ => bn - (intOf i).toNat)
          case atStart => exact ⟨0, Nat.zero_le _, rfl, fun t ht => by omega, Below.refl _ _⟩
          case round =>
            obtain ⟨j, hj, rfl, heq, hbx⟩ := hrel
            have HEQ := Lib.hid heq
            have HBX := Lib.hid hbx
            clear heq hbx
            by_cases hlt2 : j < bn
            · obtain ⟨b1, off1, rfl, hb1, hc1⟩ := strs_at (CameAt.below HP.out (Nat.zero_lt_succ 0) (HB2.out.trans (HBX.out.mono HB2.out.size))) (by omega)
              have hcell1 := hc1 j hlt2
              have hcm := (HO.out.below HBX.out).came
              obtain ⟨b2, off2, rfl, hb2, hc2⟩ := strs_at hcm (by omega)
              have hcell2 := hc2 j hlt2
              have HY := Lib.hid (fun (h : B.getD j [] = P.getD j []) => (fun t ht => by
                by_cases e : t = j
                · subst e; exact h
                · exact HEQ.out t (by omega) : ∀ t, t < j + 1 → B.getD t [] = P.getD t []))
              have HN := Lib.hid (fun (h : B.getD j [] ≠ P.getD j []) => HDN.out (fun e => h (by rw [e])))
              have hji : (j : Int) < (bn : Int) := by omega
              clear hc1 hc2 hcm
              generalize B.getD j [] = x at *
              generalize P.getD j [] = y at *
              have hS : wr.drew.cell? ⟨b2, off2 + j, none⟩ = some (.string ⟨x.toArray⟩) ∧ wr.drew.cell? ⟨b1, off1 + j, none⟩ = some (.string ⟨y.toArray⟩) := ⟨hcell2, hcell1⟩
              have HS := Lib.hid hS
              clear hcell1 hcell2 hS
              go_upto_region 16 with (fail)
              refine region_head 9 [0, 1, 2, 3, 4, 5, 6, 7, 8] [] (fun u => u.cell? ⟨b2, off2 + j, none⟩ = some (.string ⟨x.toArray⟩) ∧ u.cell? ⟨b1, off1 + j, none⟩ = some (.string ⟨y.toArray⟩)) (by kernel_rfl) (by kernel_rfl) HS.out ?_
              simp only [pickO, List.filterMap_cons, List.filterMap_nil, List.getElem?_cons_zero, List.getElem?_cons_succ, Option.map_some, List.drop_succ_cons, List.drop_zero]
              iterate 8
                refine seqH_read _ rfl rfl (by rintro u ⟨hu1, hu2⟩; go_simp; with_reducible rfl) ?_
                try simp only [Act.put, List.setIfInBounds_toArray, List.set_cons_zero, List.set_cons_succ]
              refine seqH_read (.bool (!(x == y))) rfl rfl (by rintro u ⟨hu1, hu2⟩; clear hu1 hu2; go_simp; try rfl) ?_
              try simp only [Act.put, List.setIfInBounds_toArray, List.set_cons_zero, List.set_cons_succ]
              refine seqH_nil ?_
              by_cases hxy : x = y
              · have hne : (!(x == y)) = false := by rw [hxy]; simp
                rw [hne]
                have H := Lib.hid (HY.out hxy)
                clear HY HN hxy hne
                go_wp2
                exact ⟨⟨j + 1, by omega, by go_num, H.out, HBX.out.drew⟩, by simp [intOf]; omega⟩
              · have hne : (!(x == y)) = true := by simpa using hxy
                rw [hne]
                have H := Lib.hid (HN.out hxy)
                clear HY HN hxy hne
                go_wp2
                go_ret2
                exact ⟨HB2.out.trans (HBX.out.drew.mono HB2.out.size), .inl ⟨H.out, rfl⟩⟩
            · obtain rfl : j = bn := by omega
              have hBP : B = P := by
                have e1 := HBN.out
                have e2 := HL.out
                apply List.ext_getElem?
                intro t
                by_cases ht : t < j
                · have h1 := HEQ.out t ht
                  rw [List.getD, List.getD, List.getElem?_eq_getElem (by omega), List.getElem?_eq_getElem (by omega)] at h1
                  rw [List.getElem?_eq_getElem (by omega), List.getElem?_eq_getElem (by omega)]
                  exact congrArg some h1
                · rw [List.getElem?_eq_none (by omega), List.getElem?_eq_none (by omega)]
              have H := Lib.hid (HDY.out hBP)
              have hfin : All6To P w (.returned (.tuple #[.slice ax ln cx, .bool true])) wr := ⟨HB2.out.trans (HBX.out.mono HB2.out.size), .inr ⟨_, L, H.out, rfl, HR2.out.below HBX.out⟩⟩
              have HFN := Lib.hid hfin
              clear hBP hfin HEQ
              go_wp2
              go_ret2
              exact HFN.out
        · have hno : allR P = none := by
            rw [hd, if_neg]
            rintro ⟨_, _, h'⟩
            have := congrArg List.length h'
            rw [HBN.out, HL.out] at this
            exact hlen this
          have H := Lib.hid hno
          have hni : ((bn : Int) == (k : Int)) = false := beq_eq_false_iff_ne.2 (by omega)
          clear hno hd HDD HD
          go_wp2
          go_ret2
          exact ⟨HB2.out, .inl ⟨H.out, rfl⟩⟩

end Go.Proofs.Ytflboggjbjfkjaa
