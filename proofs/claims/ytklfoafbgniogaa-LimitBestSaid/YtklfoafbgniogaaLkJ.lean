/-
  container/heap over the coins: Push, Pop.
-/
import Derived.Test.YtklfoafbgniogaaLkI
namespace Go.Proofs.Ytklfoafbgniogaa
open Go.RowKit Go.Deep
set_option linter.unusedVariables false
set_option linter.unusedSimpArgs false
set_option maxRecDepth 100000

theorem PurW.row {w0 w : World} {g : Nat} {a : Option Addr} {n cap : Nat} {L : List Itm} (h : PurW w0 w g a n cap L) (hn : 0 < n) : ∃ rb, a = some ⟨rb, 0, none⟩ := by
  obtain ⟨rb, rcap, hv, _, _, _⟩ := h.2.1.1.form' (by rw [h.2.1.2.1]; exact hn)
  simp only [Value.slice.injEq] at hv
  exact ⟨rb, hv.1⟩
set_option maxHeartbeats 4000000 in
theorem heapPush_any (w0 w : World) (g : Nat) (a : Option Addr) (n cap : Nat) (L : List Itm) (h : PurW w0 w g a n cap L) (x : Itm) (hn : n ≤ 100000) :
    Calls Try.prog 21 #[.iface 49 (.pointer (some ⟨g, 0, none⟩)), .iface 40 (.agg (cnC x).toArray)] w fun e w' => e = .returned (.tuple #[]) ∧ ∃ a' cap', PurW w0 w' g a' (n + 1) cap' (pushL lexLe L x) := by
  have CP := Lib.hid (purPush_any w0 w g a n cap L h x (by omega))
  have HL := Lib.hid h.2.1.2.1
  have mp := fun k u => m_push k ⟨g, 0, none⟩ u
  have ml := fun k u => m_len k ⟨g, 0, none⟩ u
  clear h
  go_enter Try.func21, Try.ntmps21
  go_wp2_with fail
  refine CP.out.mono ?_
  rintro e w1 ⟨rfl, a1, c1, h1⟩
  obtain ⟨rb, rfl⟩ := h1.row (by omega)
  have CL := Lib.hid (purLen_any w0 w1 g _ (n + 1) c1 (L ++ [x]) h1)
  have CU := Lib.hid (heapUp_any w0 w1 g rb (n + 1) c1 (L ++ [x]) h1 n (n + 1) (by omega) (by omega) (by omega))
  have HPU := Lib.hid (show upL lexLe (n + 1) (L ++ [x]) n = pushL lexLe L x by unfold pushL; rw [HL.out])
  clear h1 CP
  go_wp2_with fail
  refine CL.out.mono ?_
  rintro e w2 ⟨rfl, rfl⟩
  have e1 : IntKind.i64.wrap (((n + 1 : Nat) : Int) - 1) = (n : Int) := by rw [IntWalk.i64_in _ (by omega)]; omega
  have e3 : ((n + 1 : Nat) : Int) - 1 = (n : Int) := by omega
  clear CL
  go_wp2_with fail
  refine CU.out.mono ?_
  rintro e w3 ⟨rfl, h3, _⟩
  have H3 := Lib.hid h3
  clear CU h3
  go_wp2
  go_end0
  exact ⟨rfl, _, _, by rw [← HPU.out]; exact H3.out⟩

set_option maxHeartbeats 4000000 in
theorem heapPop_any (w0 w : World) (g rb n cap : Nat) (L : List Itm) (h : PurW w0 w g (some ⟨rb, 0, none⟩) n cap L) (h0 : 0 < n) (hn : n ≤ 100000) :
    Calls Try.prog 23 #[.iface 49 (.pointer (some ⟨g, 0, none⟩))] w fun e w' => e = .returned (.iface 40 (.agg (cnC ((popL lexLe L).getD (n - 1) default)).toArray)) ∧ PurW w0 w' g (some ⟨rb, 0, none⟩) (n - 1) cap ((popL lexLe L).take (n - 1)) ∧ Only (fun q => q = g ∨ q = rb) w w' := by
  have CL := Lib.hid (purLen_any w0 w g _ n cap L h)
  obtain ⟨m, hm⟩ : ∃ m, m = n - 1 := ⟨_, rfl⟩
  have CS := Lib.hid (purSwap_any w0 w g rb n cap L h 0 m (by omega) (by omega))
  have HP := Lib.hid (show downL lexLe n (swapL L 0 m) 0 m = popL lexLe L by unfold popL; rw [h.2.1.2.1, ← hm])
  have mp := fun k u => m_pop k ⟨g, 0, none⟩ u
  have ml := fun k u => m_len k ⟨g, 0, none⟩ u
  have ms := fun k u => m_swap k ⟨g, 0, none⟩ u
  have e1 : IntKind.i64.wrap ((n : Int) - 1) = (m : Int) := by rw [IntWalk.i64_in _ (by omega)]; omega
  have e3 : (n : Int) - 1 = (m : Int) := by omega
  rw [← hm]
  have HM := Lib.hid hm
  clear h hm
  go_enter Try.func23, Try.ntmps23
  go_wp2_with fail
  refine CL.out.mono ?_
  rintro e w1 ⟨rfl, rfl⟩
  clear CL
  go_wp2_with fail
  refine CS.out.mono ?_
  rintro e w2 ⟨rfl, h2, ho2⟩
  have CD := Lib.hid (heapDown_any w0 w2 g rb n cap _ h2 0 m n h0 (by have := HM.out; omega) (by have := HM.out; omega) (by omega))
  rw [HP.out] at CD
  have HO2 := Lib.hid ho2
  clear h2 ho2 CS
  go_wp2_with fail
  refine CD.out.mono ?_
  rintro e w3 ⟨⟨b, rfl⟩, h3, ho3⟩
  have CP := Lib.hid (purPop_any w0 w3 g _ n cap _ h3 h0)
  rw [← HM.out] at CP
  have HO3 := Lib.hid (HO2.out.trans ho3 fun _ _ e => e)
  clear h3 ho3 CD
  go_wp2_with fail
  refine CP.out.mono ?_
  rintro e w4 ⟨rfl, h4, ho4⟩
  have H4 := Lib.hid h4
  have HO4 := Lib.hid ((HO3.out.more (T := fun q => q = g ∨ q = rb) fun q _ e => .inr e).trans ho4 fun q _ e => .inl e)
  clear h4 ho4 CP
  go_wp2
  go_ret
  exact ⟨rfl, H4.out, HO4.out⟩

/-! ### the coins in order: what is pushed, then popped -/
theorem lexLe_refl (a : Itm) : lexLe a a := .inr ⟨rfl, Nat.le_refl _⟩
theorem lexLe_trans (a b c : Itm) (h : lexLe a b) (k : lexLe b c) : lexLe a c := by unfold lexLe at *; omega
theorem lexLe_total (a b : Itm) : lexLe a b ∨ lexLe b a := by unfold lexLe; omega
/-- the coins of the first i symbols, as they come -/
def rawTo (cs : List Nat) : Nat → List Itm
  | 0 => []
  | k + 1 => if cs.getD k 0 = 0 then rawTo cs k else rawTo cs k ++ [coinI cs k]
theorem insI_perm (p : Itm) : ∀ l, (insI p l).Perm (p :: l)
  | [] => List.Perm.refl _
  | x :: l => by
    unfold insI
    split
    · exact ((insI_perm p l).cons x).trans (List.Perm.swap p x l)
    · exact List.Perm.refl _
theorem rawTo_perm (cs : List Nat) : ∀ k, (rawTo cs k).Perm (coinsTo cs k)
  | 0 => List.Perm.refl _
  | k + 1 => by
    unfold rawTo coinsTo
    split
    · exact rawTo_perm cs k
    · exact ((rawTo_perm cs k).append_right _).trans (List.perm_append_comm.trans (insI_perm _ _).symm)
/-- what is on the way: popped so far, and a heap that has the rest -/
structure OutOk (C O L : List Itm) : Prop where
  perm : (O ++ L).Perm C
  heap : HpS lexLe L L.length 0
  sort : O.Pairwise lexLe
  low : ∀ x ∈ O, ∀ y ∈ L, lexLe x y
theorem outOk_next {C O L : List Itm} (h : OutOk C O L) (h0 : 0 < L.length) : OutOk C (O ++ [(popL lexLe L).getD (L.length - 1) default]) ((popL lexLe L).take (L.length - 1)) := by
  obtain ⟨p1, p2, p3, p4, p5⟩ := popL_spec lexLe lexLe_refl lexLe_trans lexLe_total L h0 h.heap
  have hlast : (popL lexLe L) = (popL lexLe L).take (L.length - 1) ++ [(popL lexLe L).getD (L.length - 1) default] := by
    conv => lhs; rw [← List.take_append_drop (L.length - 1) (popL lexLe L)]
    congr 1
    rw [List.drop_eq_getElem_cons (by omega), List.drop_of_length_le (by omega), List.getD, List.getElem?_eq_getElem (by omega)]; rfl
  have hmem : ∀ y ∈ (popL lexLe L).take (L.length - 1), y ∈ L := fun y hy => p1.mem_iff.1 (List.mem_of_mem_take hy)
  have hl : ((popL lexLe L).take (L.length - 1)).length = L.length - 1 := by rw [List.length_take, p2]; omega
  have hget : (popL lexLe L).getD (L.length - 1) default ∈ L := p1.mem_iff.1 (by rw [List.getD, List.getElem?_eq_getElem (by omega)]; exact List.getElem_mem _)
  refine ⟨?_, ?_, ?_, ?_⟩
  · refine List.Perm.trans ?_ h.perm
    rw [List.append_assoc]
    refine List.Perm.append_left _ (List.Perm.trans ?_ p1)
    conv => rhs; rw [hlast]
    exact List.perm_append_comm
  · rw [hl]
    intro j h1 h2 h3
    have := p4 j h1 h2 h3
    have e : ∀ q, q < L.length - 1 → ((popL lexLe L).take (L.length - 1)).getD q default = (popL lexLe L).getD q default := fun q hq => by
      rw [List.getD, List.getElem?_take_of_lt hq]; rfl
    rw [e _ (by omega), e _ h2]; exact this
  · rw [List.pairwise_append]
    refine ⟨h.sort, List.pairwise_singleton _ _, fun x hx y hy => ?_⟩
    have : y = (popL lexLe L).getD (L.length - 1) default := by simpa using hy
    rw [this]; exact h.low x hx _ hget
  · intro x hx y hy
    rcases List.mem_append.1 hx with hx | hx
    · exact h.low x hx y (hmem y hy)
    · have : x = (popL lexLe L).getD (L.length - 1) default := by simpa using hx
      rw [this, p3]
      obtain ⟨i, hi, he⟩ := List.getElem_of_mem (hmem y hy)
      have := p5 i hi
      rw [List.getD, List.getD, List.getElem?_eq_getElem hi] at this
      rw [List.getD]
      rw [← he]; exact this
/-- all popped: the coins -/
theorem outOk_end {cs : List Nat} {O : List Itm} (h : OutOk (rawTo cs cs.length) O []) : O = coinsL cs := by
  have hp : O.Perm (coinsL cs) := by have := h.perm; rw [List.append_nil] at this; exact this.trans (rawTo_perm cs _)
  refine List.Perm.eq_of_pairwise (le := lexLe) (fun a b ha hb h1 h2 => ?_) h.sort ((coinsTo_lex cs cs.length).imp fun {a b} h => ?_) hp
  · obtain ⟨i, hi, _, rfl⟩ := (coinsTo_mem cs a _).1 (hp.mem_iff.1 ha)
    obtain ⟨j, hj, _, rfl⟩ := (coinsTo_mem cs b _).1 hb
    have : i = j := by unfold lexLe at h1 h2; simp only [coinI, idxI, List.headD_cons] at h1 h2; omega
    rw [this]
  · unfold lexI at h; unfold lexLe; omega
theorem pushed_ok {L M : List Itm} (x : Itm) (h : HpS lexLe L L.length 0) (hp : L.Perm M) : HpS lexLe (pushL lexLe L x) (pushL lexLe L x).length 0 ∧ (pushL lexLe L x).Perm (M ++ [x]) := by
  obtain ⟨h1, h2⟩ := pushL_spec lexLe lexLe_trans lexLe_total L x h
  refine ⟨by rw [h1.length_eq, List.length_append]; exact h2, h1.trans (hp.append_right _)⟩
end Go.Proofs.Ytklfoafbgniogaa
