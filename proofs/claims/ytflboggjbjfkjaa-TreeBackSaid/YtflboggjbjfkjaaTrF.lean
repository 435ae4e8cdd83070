/-
  Contracts of package tree: addLevel, Build.
-/
import Derived.Test.YtflboggjbjfkjaaTrE
namespace Go.Proofs.Ytflboggjbjfkjaa
open Go.RowKit
set_option linter.unusedVariables false
set_option linter.unusedSimpArgs false
set_option maxRecDepth 100000

theorem built1 (a1 : Option Addr) (n1 c1 : Nat) : ∀ w : World, (Instr.buildSlice 24 1 #[(0, .slice a1 n1 c1)]).run Try.prog w = .ok (.slice (some ⟨w.heap.size, 0, none⟩) 1 1) (w.alloc (.cells #[.slice a1 n1 c1] 34)) :=
  built_rows [.slice a1 n1 c1] (by simp [slice_cells]) (by simp) (by simp) _ rfl 1 rfl

theorem above_take (base : Nat) (ps : List (List (Nat × Nat))) (j : Nat) (hj : j < ps.length) : (aboveL base ps).take (j + 1) = (aboveL base ps).take j ++ [(leastL (ps.getD j []), base + j)] := by
  rw [List.take_succ_eq_append_getElem (by rw [aboveL_length]; exact hj)]
  congr 2
  simp [aboveL]
theorem pages_take (k : Nat) (ps : List (List (Nat × Nat))) (j : Nat) (hj : j < ps.length) : (ps.take (j + 1)).map (pageL k) = (ps.take j).map (pageL k) ++ [pageL k (ps.getD j [])] := by
  rw [List.take_succ_eq_append_getElem hj, List.map_append]
  simp [List.getD, List.getElem?_eq_getElem hj]
theorem Only.ownTrans {v v' : Value} {a b c : World} (h : Only (fun q => v.ownBlock = some q) a b) (k : Only (fun q => v'.ownBlock = some q) b c) (hv : v'.ownBlock = v.ownBlock ∨ ∀ q, v'.ownBlock = some q → a.heap.size ≤ q) : Only (fun q => v.ownBlock = some q) a c :=
  h.trans k fun i hi hk => by
    rcases hv with e | e
    · exact e ▸ hk
    · have := e i hk; omega
theorem ne_pair_row : (48 : TypeId) ≠ 34 := by decide

/-- the state of addLevel between two rounds -/
structure LvW (w : World) (v : Value) (P : List (List UInt8)) (k : Nat) (ps : List (List (Nat × Nat))) (j : Nat) (v1 v2 : Value) (W : World) : Prop where
  rows : RowsO W v1 (P ++ (ps.take j).map (pageL k))
  abv : Recs pairC W 48 2 v2 ((aboveL P.length ps).take j)
  own1 : v1.ownBlock = v.ownBlock ∨ ∀ q, v1.ownBlock = some q → w.heap.size ≤ q
  own2 : ∀ q, v2.ownBlock = some q → w.heap.size ≤ q
  only : Only (fun q => v.ownBlock = some q) w W

/-- rows are kept where pairs grow -/
theorem rows_pairs {w w' : World} {v v2 : Value} {P : List (List UInt8)} {M : List (Nat × Nat)} {Hs : List Hd} (h1 : Recs hdC w 34 1 v Hs) (h3 : ∀ (i : Nat) (h : Hd) (l : List UInt8), Hs[i]? = some h → P[i]? = some l → OctO w (.slice h.1 h.2.1 h.2.2) l)
    (h2 : Recs pairC w 48 2 v2 M) (hg : w.grownBy w' v2.ownBlock) : Recs hdC w' 34 1 v Hs ∧ ∀ (i : Nat) (h : Hd) (l : List UInt8), Hs[i]? = some h → P[i]? = some l → OctO w' (.slice h.1 h.2.1 h.2.2) l := by
  have ho : Only (fun k => v2.ownBlock = some k) w w' := Only.of_grown hg fun k e => e
  refine ⟨h1.only ho (h1.typed (by decide) h2), fun i h l hi hl => ?_⟩
  have := h3 i h l hi hl
  exact this.only ho (this.typed (by decide) h2)
theorem rows_below {w w' : World} {v : Value} {P : List (List UInt8)} {Hs : List Hd} (h1 : Recs hdC w 34 1 v Hs) (h3 : ∀ (i : Nat) (h : Hd) (l : List UInt8), Hs[i]? = some h → P[i]? = some l → OctO w (.slice h.1 h.2.1 h.2.2) l)
    (hb : Below w.heap.size w w') : Recs hdC w' 34 1 v Hs ∧ ∀ (i : Nat) (h : Hd) (l : List UInt8), Hs[i]? = some h → P[i]? = some l → OctO w' (.slice h.1 h.2.1 h.2.2) l :=
  ⟨h1.below hb, fun i h l hi hl => (h3 i h l hi hl).below hb⟩

def LvTo (v : Value) (s : LvS) (w : World) (e : Ending) (w' : World) : Prop :=
  ∃ v1 v2 : Value, e = .returned (.tuple #[v1, v2]) ∧ RowsO w' v1 s.1 ∧ Recs pairC w' 48 2 v2 s.2 ∧ (v1.ownBlock = v.ownBlock ∨ ∀ q, v1.ownBlock = some q → w.heap.size ≤ q) ∧ (∀ q, v2.ownBlock = some q → w.heap.size ≤ q) ∧ Only (fun q => v.ownBlock = some q) w w'

set_option maxHeartbeats 4000000 in
theorem addLevel_any (v : Value) (P : List (List UInt8)) (k : Nat) (pa : Option Addr) (pn pc : Nat) (ps : List (List (Nat × Nat))) (Gs : List Hd) (w : World) (hP : RowsO w v P)
    (hGn : Gs.length = ps.length) (hG : ∀ u, Only (fun q => v.ownBlock = some q) w u → CameAt hdC 1 u pa pn pc Gs ∧ ∀ (i : Nat) (h : Hd) (q : List (Nat × Nat)), Gs[i]? = some h → ps[i]? = some q → PairsAt u h.1 h.2.1 h.2.2 q) (hmay : ∀ p ∈ ps, mayN k p.length = true ∧ Fits k p) (hsz : P.length + ps.length ≤ 60000) :
    Calls Try.prog 19 #[v, .int .u64 k, .slice pa pn pc] w (LvTo v (levelL k P ps) w) := by
  have HG := Lib.hid hG
  have hlen : ps.length = pn := by rw [← hGn]; exact (hG w (Only.refl _ _)).1.1
  have HGN := Lib.hid hGn
  clear hGn
  have HLN := Lib.hid hlen
  have HMAY := Lib.hid (fun j (h : j < ps.length) => hmay (ps.getD j []) (by rw [List.getD, List.getElem?_eq_getElem h]; exact List.getElem_mem h))
  have HAT := Lib.hid (fun j (h : j < ps.length) => above_take P.length ps j h)
  have HPT := Lib.hid (fun j (h : j < ps.length) => pages_take k ps j h)
  have HLV := Lib.hid (show levelL k P ps = (P ++ (ps.take ps.length).map (pageL k), (aboveL P.length ps).take ps.length) by rw [List.take_length, List.take_of_length_le (by rw [aboveL_length]; exact Nat.le_refl _)]; rfl)
  have h0 : LvW w v P k ps 0 v (.slice none 0 0) w := ⟨by simpa using hP, by rw [List.take_zero]; exact Recs.nil _ _ _ _, .inl rfl, fun q hq => by simp [Value.ownBlock] at hq, Only.refl _ _⟩
  have H0 := Lib.hid h0
  have hPn : P.length + pn ≤ 60000 := by omega
  clear hG hmay h0 hlen hP hsz
  go_enter Try.func19, Try.ntmps19
  go_wp2
  go_loopw [0, 8, 13] (fun x y i wr => ∃ j : Nat, j ≤ pn ∧ i = .int .i64 j ∧ LvW w v P k ps j x y wr) (fun _ _ i _ => pn - (intOf i).toNat)
  case atStart => exact ⟨0, Nat.zero_le _, rfl, H0.out⟩
  case round =>
    obtain ⟨j, hj, rfl, hw⟩ := hrel
    have HW := Lib.hid hw
    clear hw H0
    by_cases hlt : j < pn
    · have hjl : j < ps.length := by rw [HLN.out]; exact hlt
      obtain ⟨gb, goff, rfl, hgb, hgc⟩ := CameAt.at (HG.out wr HW.out.only).1 (by omega) (by omega)
      obtain ⟨hh, hgj⟩ : ∃ hh, Gs[j]? = some hh := ⟨_, List.getElem?_eq_getElem (by have := HGN.out; omega)⟩
      have hpj : ps[j]? = some (ps.getD j []) := by rw [List.getD, List.getElem?_eq_getElem hjl]; rfl
      have hcell0 := hgc j 0 _ hgj (by omega)
      rw [Nat.mul_one, Nat.add_zero] at hcell0
      have hEE := fun u ho => (HG.out u ho).2 j _ _ hgj hpj
      obtain ⟨ha, hn, hc⟩ := hh
      have hcell : wr.cell? ⟨gb, goff + j, none⟩ = some (.slice ha hn hc) := hcell0
      clear hcell0
      have hE := hEE wr HW.out.only
      dsimp only at hEE hE
      have HEE := Lib.hid hEE
      clear hEE hgj hpj
      have hmf := HMAY.out j hjl
      have hat := HAT.out j hjl
      have hpt := HPT.out j hjl
      have hEn := hE.1
      generalize ps.getD j [] = p at *
      have hn12 : hn ≤ 12 := by
        rcases mayN_cases hmf.1 with h | h <;> omega
      obtain ⟨Hs, hr1, hr2, hr3⟩ := HW.out.rows
      obtain ⟨a1, c1, rfl, _, _⟩ := hr1.form
      have hHs : Hs.length = P.length + j := by rw [hr2, List.length_append, List.length_map, List.length_take, Nat.min_eq_left (by omega)]
      have hra := HW.out.abv
      obtain ⟨a2, c2, hv2, _, _⟩ := hra.form
      have hla : ((aboveL P.length ps).take j).length = j := by rw [List.length_take, aboveL_length]; omega
      rw [hla] at hv2
      subst hv2
      have CL := Lib.hid (least_any ha hn hc p wr hE)
      have HE := Lib.hid hE
      have HMF := Lib.hid hmf
      have HAT2 := Lib.hid hat
      have HPT2 := Lib.hid hpt
      have HR1 := Lib.hid hr1
      have HR2 := Lib.hid hr2
      have HR3 := Lib.hid hr3
      have HRA := Lib.hid hra
      have HHS := Lib.hid hHs
      clear hE hmf hat hpt hr1 hr2 hr3 hgc HAT HPT HMAY
      have hX : (#[Value.int .u64 (leastL p : Nat), Value.int .u64 ((P.length + j : Nat) : Int)] : Array Value) = (pairC (leastL p, P.length + j)).toArray := rfl
      obtain ⟨i0, hi0, hz0, hz1, hz2⟩ := info_parts infoPair
      have HI := Lib.hid (And.intro hi0 (And.intro hz0 (And.intro hz1 hz2)))
      have hal : Below wr.heap.size wr (wr.alloc (.cells (pairC (leastL p, P.length + j)).toArray 48)) := (Below.refl _ _).alloc (Nat.le_refl _) _
      have HRA3 := Lib.hid (HRA.out.below hal)
      have HAL := Lib.hid hal
      have hbytes1 : ((aboveL P.length ps).take j).length + 1 ≤ maxLen := by rw [hla]; unfold maxLen; omega
      have hbytes2 : (((aboveL P.length ps).take j).length + 1) * 16 ≤ 140737488355328 := by rw [hla]; omega
      have HBY := Lib.hid (And.intro hbytes1 hbytes2)
      have HLA := Lib.hid hla
      have HPX := Lib.hid (show (P ++ (ps.take j).map (pageL k)).length = Hs.length from HR2.out.symm)
      have hPj : Hs.length ≤ 60000 := by omega
      have hconv : (Hs.length : Int) = ((P.length + j : Nat) : Int) := by rw [hHs]
      clear hi0 hz0 hz1 hz2 hal hbytes1 hbytes2 hla hEn
      rw [hHs] at *
      generalize leastL p = lp at *
      generalize hPq : P.length + j = pq at *
      have HPQ := Lib.hid hPq
      clear hPq
      go_wp2_with (first
        | (go_at_call 32; refine (CL.out).mono ?_; rintro e w1 ⟨rfl, rfl⟩)
        | (refine wpList_buildSliceV rfl 22 1 _ rfl #[(0, .agg (pairC (lp, pq)).toArray)] (by simp [go_sem, pairC]) _ _ (built_pair (pairC (lp, pq)).toArray rfl _) ?_)
        | (refine wpList_append_recs rfl _ _ 22 rfl 48 i0 _ 2 16 Try.underlying22 HI.out.1 HI.out.2.1 HI.out.2.2.1 HI.out.2.2.2 (by simp [Value.cells]) (by omega) _ _ rfl HRA3.out ⟨wr.heap.size, 0, none⟩ 1 1 [(lp, pq)] rfl rfl (fun y _ => pairC_len y) (fun y _ => pairC_one y) (one_rec (heap_alloc_new wr _)) HBY.out.1 HBY.out.2 ?_; intro v5 w5 hrec5 hg5 hv5))
      have hbA : Below wr.heap.size wr (wr.alloc (.cells (pairC (lp, pq)).toArray 48)) := HAL.out
      have hszA : (wr.alloc (.cells (pairC (lp, pq)).toArray 48)).heap.size = wr.heap.size + 1 := by simp
      obtain ⟨hrA, hoA⟩ := rows_below HR1.out HR3.out hbA
      obtain ⟨hr5, ho5⟩ := rows_pairs hrA hoA HRA3.out hg5
      have hol5 : Only (fun q => v.ownBlock = some q) w w5 := by
        refine (HW.out.only.trans (Only.of_below hbA) (fun _ _ h => h)).trans (Only.of_grown (S := fun q => (Value.slice a2 j c2).ownBlock = some q) hg5 fun k e => e) (fun i hi hk => ?_)
        have := HW.out.own2 i hk
        omega
      have hsz5 : w.heap.size ≤ w5.heap.size := hol5.size
      have hszr : wr.heap.size ≤ w5.heap.size := Nat.le_trans (by omega) hg5.size
      have hown5 : ∀ q, v5.ownBlock = some q → w.heap.size ≤ q := fun q hq => by
        rcases hv5 with e | e
        · exact HW.out.own2 q (e ▸ hq)
        · rw [e] at hq
          have := HW.out.only.size
          simp at hq
          omega
      rw [← HAT2.out] at hrec5
      have HREC5 := Lib.hid hrec5
      have HR5 := Lib.hid hr5
      have HO5 := Lib.hid ho5
      have HOL5 := Lib.hid hol5
      have HOWN5 := Lib.hid hown5
      have CP := Lib.hid (page_any k ha hn hc p w5 (HEE.out w5 hol5) HMF.out.1 HMF.out.2)
      obtain ⟨a5, c5, hv5e, _, _⟩ := hrec5.form
      clear hrec5 hr5 ho5 hol5 hown5 hv5 hg5 hrA hoA hbA CL HRA3 HI HBY
      subst hv5e
      refine (CP.out).mono ?_
      rintro e w6 ⟨a6, c6, rfl, ho6, hb6⟩
      obtain ⟨hq6, hq6l⟩ := octO_of ho6
      have hal6 : Below w6.heap.size w6 (w6.alloc (.cells (#[.slice a6 128 c6] : Array Value) 34)) := (Below.refl _ _).alloc (Nat.le_refl _) _
      obtain ⟨hr6, hro6⟩ := rows_below HR5.out HO5.out (hb6.trans (hal6.mono hb6.size))
      have hq7 := hq6.below hal6
      have HREC6 := Lib.hid ((HREC5.out.below hb6).below hal6)
      have HR6 := Lib.hid hr6
      have HRO6 := Lib.hid hro6
      have HQ7 := Lib.hid hq7
      have HB6 := Lib.hid hb6
      have HAL6 := Lib.hid hal6
      obtain ⟨j0, hj0, jz0, jz1, jz2⟩ := info_parts infoRow
      have HJ := Lib.hid (And.intro hj0 (And.intro jz0 (And.intro jz1 jz2)))
      have HM1 := Lib.hid (show Hs.length + 1 ≤ maxLen by have := HR1.out.came.1; unfold maxLen; omega)
      have HM2 := Lib.hid (show (Hs.length + 1) * 24 ≤ 140737488355328 by have := HR1.out.came.1; omega)
      clear hr6 hro6 hq7 hq6 ho6 hb6 hal6 hj0 jz0 jz1 jz2 CP
      go_wp2_with (first
        | (refine wpList_buildSliceV rfl 24 1 _ rfl #[(0, .slice a6 128 c6)] (by simp [go_sem]) _ _ (built1 _ _ _ _) ?_)
        | (refine wpList_append_recs rfl _ _ 24 rfl 34 j0 _ 1 24 Try.underlying24 HJ.out.1 HJ.out.2.1 HJ.out.2.2.1 HJ.out.2.2.2 (by simp [Value.cells]) (by omega) _ _ rfl HR6.out ⟨w6.heap.size, 0, none⟩ 1 1 [(a6, 128, c6)] rfl rfl (fun y _ => rfl) (fun y _ => hdC_one y) (one_rec (f := hdC) (x := (a6, 128, c6)) (heap_alloc_new w6 _)) HM1.out HM2.out ?_; intro v7 w7 hrec7 hg7 hv7))
      have hmore := RowsO.more HR6.out (HR1.out.came.1.trans HR2.out) HRO6.out HQ7.out hrec7 hg7
      obtain ⟨a7, c7, hv7e, _, _⟩ := hrec7.form
      subst hv7e
      have hne : ∀ q, (Value.slice a5 ((aboveL P.length ps).take (j + 1)).length c5).ownBlock = some q → ¬ (Value.slice a1 pq c1).ownBlock = some q := HREC6.out.typed (by decide) HR6.out
      have hrec8 := HREC6.out.only (Only.of_grown (S := fun q => (Value.slice a1 pq c1).ownBlock = some q) hg7 fun k e => e) hne
      rw [List.length_take] at hrec8
      have hol7 : Only (fun q => v.ownBlock = some q) w w7 := by
        refine ((HOL5.out.trans (Only.of_below HB6.out) (fun _ _ h => h)).trans (Only.of_below HAL6.out) (fun _ _ h => h)).ownTrans (v' := .slice a1 pq c1) (Only.of_grown hg7 fun k e => e) ?_
        exact HW.out.own1
      have hown8 := HOWN5.out
      rw [List.length_take] at hown8
      refine ⟨⟨j + 1, by omega, by go_num, ?_, hrec8, ?_, hown8, hol7⟩, by simp [intOf]; omega⟩
      · rw [HPT2.out, ← List.append_assoc]; exact hmore
      · rcases hv7 with e | e
        · rcases HW.out.own1 with e1 | e1
          · exact .inl (e.trans e1)
          · exact .inr fun q hq => e1 q (e ▸ hq)
        · refine .inr fun q hq => ?_
          rw [e] at hq
          have := HB6.out.size
          simp at hq
          omega
    · obtain rfl : j = pn := by omega
      have hw := HW.out
      obtain ⟨h1, h2, h3, h4, h5⟩ := hw
      rw [← HLN.out] at h1 h2
      obtain ⟨a1, c1, rfl, _, _⟩ := h1.form
      obtain ⟨a2, c2, rfl, _, _⟩ := h2.form
      have hfin := HLV.out
      have H := Lib.hid (show LvTo v (levelL k P ps) w (.returned (.tuple #[_, _])) wr from ⟨_, _, rfl, by rw [hfin]; exact h1, by rw [hfin]; exact h2, h3, h4, h5⟩)
      clear h1 h2 h3 h4 h5 hfin
      go_wp2
      go_ret2
      exact H.out


def slLen : Value → Nat
  | .slice _ n _ => n
  | _ => 0
/-- pages in new memory -/
def PagesTo (P : List (List UInt8)) (w : World) (e : Ending) (w' : World) : Prop :=
  ∃ v : Value, e = .returned (.tuple #[v, .int .i64 0]) ∧ RowsO w' v P ∧ (∀ q, v.ownBlock = some q → w.heap.size ≤ q) ∧ Below w.heap.size w w'

theorem parts_may7 {l : List (Nat × Nat)} (hf : Fits 1 l) : ∀ p ∈ partsL 7 l, mayN 1 p.length = true ∧ Fits 1 p := fun p hp => by
  obtain ⟨h1, h2, _⟩ := partsL_part (by omega) hp
  exact ⟨by simp [mayN, h1], fun x hx => hf x (h2.subset hx)⟩
theorem parts_may12 {l : List (Nat × Nat)} (h0 : l.length ≠ 0) (hf : Fits 2 l) : ∀ p ∈ partsL 12 l, mayN 2 p.length = true ∧ Fits 2 p := fun p hp => by
  obtain ⟨h1, h2, h3⟩ := partsL_part (by omega) hp
  have : p.length ≠ 0 := fun h => h3 h0 (List.eq_nil_of_length_eq_zero h)
  exact ⟨by simp [mayN]; omega, fun x hx => hf x (h2.subset hx)⟩
theorem only_nil {a b : World} (h : Only (fun q => (Value.slice none 0 0).ownBlock = some q) a b) : Below a.heap.size a b := h.below (Nat.le_refl _) fun i _ => by simp [Value.ownBlock]
theorem below_only {v : Value} {B : Nat} {w a b : World} (h : Only (fun q => v.ownBlock = some q) a b) (hb : Below B w a) (hB : B ≤ a.heap.size) (hv : ∀ q, v.ownBlock = some q → B ≤ q) : Below B w b :=
  hb.trans (h.below hB fun i hi hk => by have := hv i hk; omega)

set_option maxHeartbeats 4000000 in
theorem build_yes (a : Option Addr) (n cap : Nat) (L : List (Nat × Nat)) (w : World) (he : PairsAt w a n cap L) (hm : mayL L = true) (hf : Fits 1 L) :
    Calls Try.prog 7 #[.slice a n cap] w (PagesTo (buildL L) w) := by
  obtain ⟨hasc, h600⟩ := mayL_asc hm
  have HE := Lib.hid he
  have hlen := he.1
  have CV := valid_any a n cap L w he
  rw [hm] at CV
  have CV := Lib.hid CV
  have HLK := Lib.hid (look_start L hasc hf (by omega))
  have HM7 := Lib.hid (parts_may7 hf)
  have hb0 : (startL L) = levelL 1 [] (partsL 7 L) := rfl
  have hpl : (partsL 7 L).length ≤ 200 := by rw [partsL_length _ _ (by omega)]; omega
  have HBL := Lib.hid (show buildL L = finL (startL L) from rfl)
  clear he hm hf hasc
  go_enter Try.func7, Try.ntmps7
  go_wp2_with fail
  refine (CV.out).mono ?_
  rintro e w1 ⟨rfl, hb1⟩
  have CG := Lib.hid (groups_any a n cap 7 L w1 (CameAt.below HE.out (Nat.zero_lt_succ 1) hb1) (by omega) (by omega) (by omega))
  go_wp2_with fail
  refine (CG.out).mono ?_
  rintro e w2 ⟨v2, Gs, rfl, hg1, hg2, hg3, hg4, hg5, hb2⟩
  obtain ⟨ga, gc, rfl, _, _⟩ := hg1.form
  have CA := addLevel_any (.slice none 0 0) [] 1 ga Gs.length gc (partsL 7 L) Gs w2 (RowsO.nil _) hg2
    (fun u ho => ⟨(hg1.below (only_nil ho)).came, fun i h q hi hq => CameAt.below (hg5 i h q hi hq) (Nat.zero_lt_succ 1) (only_nil ho)⟩) HM7.out (by simp; omega)
  rw [← hb0] at CA
  have CA := Lib.hid CA
  have hbw2 : Below w.heap.size w w2 := hb1.trans (hb2.mono hb1.size)
  have HBW2 := Lib.hid hbw2
  clear hg1 hg2 hg3 hg4 hg5 hb1 hb2 CG CV hb0 hpl hbw2
  go_wp2_with fail
  refine (CA.out).mono ?_
  rintro e w3 ⟨v3, v4, rfl, hr3, hr4, ho3, ho4, hon⟩
  have hbw3 : Below w.heap.size w w3 := HBW2.out.trans ((only_nil hon).mono HBW2.out.size)
  have hown3 : ∀ q, v3.ownBlock = some q → w.heap.size ≤ q := fun q hq => by
    rcases ho3 with e | e
    · rw [e] at hq; simp [Value.ownBlock] at hq
    · exact Nat.le_trans HBW2.out.size (e q hq)
  have HR3 := Lib.hid hr3
  have HR4 := Lib.hid hr4
  have HOWN3 := Lib.hid hown3
  have HOWN4 := Lib.hid (fun q (hq : v4.ownBlock = some q) => Nat.le_trans HBW2.out.size (ho4 q hq))
  have HBW3 := Lib.hid hbw3
  clear hr3 hr4 ho3 ho4 hon hbw3 hown3 CA HBW2
  go_wp2
  go_loopw [4, 5] (fun x y wr => ∃ (s : LvS) (d : Nat), Look L s d ∧ finL s = buildL L ∧ RowsO wr x s.1 ∧ Recs pairC wr 48 2 y s.2 ∧ (∀ q, x.ownBlock = some q → w.heap.size ≤ q) ∧ (∀ q, y.ownBlock = some q → w.heap.size ≤ q) ∧ Below w.heap.size w wr) (fun _ y _ => slLen y)
  case atStart => exact ⟨startL L, 0, HLK.out, HBL.out.symm, HR3.out, HR4.out, HOWN3.out, HOWN4.out, HBW3.out⟩
  case round =>
    obtain ⟨s, d, hlk, hfin, hr, hra, hx, hy, hb⟩ := hrel
    clear HR3 HR4 HOWN3 HOWN4 HBW3 HLK
    obtain ⟨ax, cx, rfl, _, _⟩ := hr.form
    obtain ⟨ay, cy, hye, _, _⟩ := hra.form
    have hsm := hlk.small
    have HLK := Lib.hid hlk
    have HR := Lib.hid hr
    have HX := Lib.hid hx
    have HB := Lib.hid hb
    by_cases h1 : 1 < s.2.length
    · obtain ⟨g, cg, hye2, _, _, _⟩ := hra.form' (by omega)
      subst hye2
      have hst := finL_step s h1
      rw [hfin] at hst
      have HST := Lib.hid hst
      have HNX := Lib.hid (look_step hlk h1)
      have hmay := parts_may12 hlk.ne hlk.fit
      have hpl : (partsL 12 s.2).length ≤ s.2.length := by rw [partsL_length _ _ (by omega)]; omega
      have CG := Lib.hid (groups_any (some ⟨g, 0, none⟩) s.2.length cg 12 s.2 wr hra.came (by omega) (by omega) (by omega))
      have HRA := Lib.hid hra
      have HMY := Lib.hid hmay
      have hdef : levelL 2 s.1 (partsL 12 s.2) = stepL s := rfl
      have HDF := Lib.hid hdef
      have hlt : (stepL s).2.length < s.2.length := by have := (stepL_len s h1).1; omega
      have HLT := Lib.hid hlt
      have hsz2 : s.1.length + (partsL 12 s.2).length ≤ 60000 := by omega
      have h1i : (1 : Int) < (s.2.length : Int) := by omega
      clear hye hlk hfin hr hra hx hb hst hmay hdef hy hlt
      generalize hn1 : s.1.length = n1 at *
      generalize hn2 : s.2.length = n2 at *
      have HN1 := Lib.hid hn1
      have HN2 := Lib.hid hn2
      clear hn1 hn2
      go_wp2_with fail
      refine (CG.out).mono ?_
      rintro e w4 ⟨v4, Gs, rfl, hg1, hg2, hg3, hg4, hg5, hb4⟩
      obtain ⟨ga, gc, rfl, _, _⟩ := hg1.form
      have hr4 := HR.out.below hb4
      have hra4 := HRA.out.below hb4
      have CA := addLevel_any (.slice ax n1 cx) s.1 2 ga Gs.length gc (partsL 12 s.2) Gs w4 hr4 hg2
        (fun u ho => by
          obtain ⟨Hs, q1, q2, q3⟩ := hr4
          refine ⟨(hg1.only ho (hg1.typed (by decide) q1)).came, fun i h q hi hq => CameAt.only (hg5 i h q hi hq) (Nat.zero_lt_succ 1) ho fun p hp _ => ?_⟩
          obtain ⟨p0, e1, e2⟩ := hg4 h (List.mem_of_getElem? hi) p hp
          cases e1
          rw [e2]
          exact hra4.typed (by decide) q1 g rfl) HMY.out (by rw [HN1.out]; exact hsz2)
      rw [HDF.out] at CA
      have CA := Lib.hid CA
      have hb04 := HB.out.trans (hb4.mono HB.out.size)
      have HB04 := Lib.hid hb04
      clear hg1 hg2 hg3 hg4 hg5 hb4 hr4 hra4 CG hb04
      go_wp2_with fail
      refine (CA.out).mono ?_
      rintro e w5 ⟨v5, v6, rfl, k1, k2, k3, k4, k5⟩
      have hb5 : Below w.heap.size w w5 := below_only k5 HB04.out HB04.out.size (fun q hq => HX.out q hq)
      have hx5 : ∀ q, v5.ownBlock = some q → w.heap.size ≤ q := fun q hq => by
        rcases k3 with e | e
        · exact HX.out q (e ▸ hq)
        · exact Nat.le_trans HB04.out.size (e q hq)
      have hy5 : ∀ q, v6.ownBlock = some q → w.heap.size ≤ q := fun q hq => Nat.le_trans HB04.out.size (k4 q hq)
      obtain ⟨a6, c6, hv6, _, _⟩ := k2.form
      have hlt5 : slLen v6 < n2 := by rw [hv6]; exact HLT.out
      have HALL := Lib.hid (And.intro k1 (And.intro k2 (And.intro hx5 (And.intro hy5 hb5))))
      clear k1 k2 k3 k4 k5 hb5 hx5 hy5 hv6 CA
      go_wp2
      exact ⟨⟨stepL s, d + 1, HNX.out, HST.out.symm, HALL.out.1, HALL.out.2.1, HALL.out.2.2.1, HALL.out.2.2.2.1, HALL.out.2.2.2.2⟩, hlt5⟩
    · subst hye
      have hdone := finL_done s (by omega)
      rw [hfin] at hdone
      have h1i : ¬ (1 : Int) < (s.2.length : Int) := by omega
      have hfine : PagesTo (buildL L) w (.returned (.tuple #[.slice ax s.1.length cx, .int .i64 0])) wr := ⟨_, rfl, by rw [hdone]; exact hr, hx, hb⟩
      have HF := Lib.hid hfine
      clear hlk hfin hr hra hx hb hy hdone hfine HR HX HB
      generalize s.2.length = n2 at *
      generalize s.1.length = n1 at *
      go_wp2
      go_ret2
      exact HF.out

theorem build_no (a : Option Addr) (n cap : Nat) (L : List (Nat × Nat)) (w : World) (he : PairsAt w a n cap L) (hm : mayL L = false) :
    Calls Try.prog 7 #[.slice a n cap] w fun e w' => e = .returned (.tuple #[.slice none 0 0, .int .i64 1]) ∧ Below w.heap.size w w' := by
  have CV := valid_any a n cap L w he
  rw [hm] at CV
  have CV := Lib.hid CV
  clear he
  go_enter Try.func7, Try.ntmps7
  go_wp2_with fail
  refine (CV.out).mono ?_
  rintro e w1 ⟨rfl, hb1⟩
  go_wp2
  go_ret2
  exact ⟨rfl, hb1⟩

end Go.Proofs.Ytflboggjbjfkjaa
