/-
  All or nothing: what a commit and a recovering come to on any budget, whatever a cut keeps.
-/
import Derived.Test.YtinfgfgmijjhjaaJnEval
import Derived.Test.YtinfgfgmijjhjaaJnPlay
import Derived.Test.YtinfgfgmijjhjaaStrs
namespace Go.Proofs.Ytinfgfgmijjhjaa
set_option linter.unusedVariables false
set_option linter.unusedSimpArgs false
set_option maxRecDepth 100000

/-! ### writes and flushes on any budget -/
theorem wrs_any : ∀ (L : List Pt) (s : List (List UInt8)) (ws : List (Nat × List UInt8)) (b : Int), Fits L s.length →
    ∃ k r p b', wrsOf ⟨s, ws, true, b⟩ L = (r, ⟨s, ws ++ asW (L.take k), p, b'⟩) ∧ ((r = 0 ∧ k = L.length ∧ p = true) ∨ r = 10)
  | [], s, ws, b, _ => ⟨0, 0, true, b, by simp [wrsOf, asW], .inl ⟨rfl, rfl, rfl⟩⟩
  | p :: L, s, ws, b, h => by
    have hp := h p (by simp)
    by_cases hb : b = 0
    · have hw := wr_rec_off s ws b p.1 p.2 hp.1 hp.2.1 hp.2.2 true (.inr hb)
      refine ⟨0, 10, false, b, ?_, .inr rfl⟩
      simp only [wrsOf]
      rw [hw, if_neg (by simp)]
      simp [asW]
    · have hw := wr_rec s ws b p.1 p.2 hp.1 hp.2.1 hp.2.2 hb
      obtain ⟨k, r, q, b', he, hc⟩ := wrs_any L s (ws ++ [(p.1.toNat, p.2)]) (pay b) (fun x hx => h x (by simp [hx]))
      refine ⟨k + 1, r, q, b', ?_, ?_⟩
      · simp only [wrsOf]
        rw [hw, if_pos rfl, he]
        simp [asW]
      · rcases hc with ⟨h1, h2, h3⟩ | h1
        · exact .inl ⟨h1, by simp [h2], h3⟩
        · exact .inr h1

/-- whatever a cut keeps, C holds then; where the answer is OK, nothing waits, and N holds -/
def EndC (C N : List (List UInt8) → Prop) (x : Int × Dk) : Prop := (∀ K, C (Dk.laid K x.2.waits x.2.secs)) ∧ (x.1 = 0 → x.2.waits = [] ∧ N x.2.secs)

theorem pair_end (C N : List (List UInt8) → Prop) (L : List Pt) (r : List Stp) (s : List (List UInt8)) (b : Int) (hf : Fits L s.length)
    (hC : ∀ K k, C (Dk.laid K (asW (L.take k)) s)) (hr : ∀ b', EndC C N (plays r ⟨lay L s, [], true, b'⟩)) : EndC C N (plays (.write L :: .flush :: r) ⟨s, [], true, b⟩) := by
  obtain ⟨k, q, p, b', he, hc⟩ := wrs_any L s [] b hf
  have hw : (Stp.write L).play ⟨s, [], true, b⟩ = (q, ⟨s, asW (L.take k), p, b'⟩) := by show wrsOf _ _ = _; rw [he]; rfl
  rcases hc with ⟨rfl, rfl, rfl⟩ | rfl
  · rw [plays_yes _ (by rw [hw]), hw]
    rw [List.take_length]
    by_cases hb : b' = 0
    · have hfl : (Stp.flush).play ⟨s, asW L, true, b'⟩ = (10, ⟨s, asW L, false, b'⟩) := fl_rec_off _ _ _ _ (.inr hb)
      rw [plays_no _ (by rw [hfl]; simp), hfl]
      refine ⟨fun K => ?_, fun h => by simp at h⟩
      have := hC K L.length
      rw [List.take_length] at this
      exact this
    · have hfl : (Stp.flush).play ⟨s, asW L, true, b'⟩ = (0, ⟨lay L s, [], true, pay b'⟩) := fl_rec _ _ _ hb
      rw [plays_yes _ (by rw [hfl]), hfl]
      exact hr _
  · rw [plays_no _ (by rw [hw]; simp), hw]
    exact ⟨fun K => hC K k, fun h => by simp at h⟩
theorem none_end (C N : List (List UInt8) → Prop) (s : List (List UInt8)) (b : Int) (hC : C s) (hN : N s) : EndC C N (plays [] ⟨s, [], true, b⟩) := ⟨fun K => hC, fun _ => ⟨rfl, hN⟩⟩

/-! ### what is laid -/
theorem laid_still (K : Nat → Bool) (ws : List (Nat × List UInt8)) (s : List (List UInt8)) (j : Nat) (h : ∀ x ∈ ws, x.1 ≠ j) : (Dk.laid K ws s).getD j [] = s.getD j [] := by
  induction ws using Dk.snoc_ind with
  | h0 => rfl
  | h1 l x ih =>
    have ih := ih (fun y hy => h y (by simp [hy]))
    rw [Dk.laid_snoc]
    split
    · rw [List.getD, List.getElem?_set_ne (h x (by simp))]
      exact ih
    · exact ih
theorem over_in (ws : List (Nat × List UInt8)) (j : Nat) (s t : List UInt8) (h : ∃ x ∈ ws, x.1 = j) : Dk.over ws j s = Dk.over ws j t := by
  induction ws using Dk.snoc_ind with
  | h0 => obtain ⟨x, hx, _⟩ := h; simp at hx
  | h1 l x ih =>
    rw [Dk.over_snoc, Dk.over_snoc]
    by_cases hx : x.1 = j
    · rw [if_pos hx, if_pos hx]
    · rw [if_neg hx, if_neg hx]
      obtain ⟨y, hy, hyj⟩ := h
      simp only [List.mem_append, List.mem_singleton] at hy
      rcases hy with hy | rfl
      · exact ih ⟨y, hy, hyj⟩
      · exact absurd hyj hx

/-! ### the states -/
structure OldS (l : List Pt) (s0 s : List (List UInt8)) : Prop where
  len : s.length = s0.length
  head : s.getD 0 [] = sec 0
  home : ∀ j, 41 ≤ j → s.getD j [] = s0.getD j []
structure RdyS (l : List Pt) (s0 s : List (List UInt8)) : Prop where
  len : s.length = s0.length
  head : s.getD 0 [] = hdL l
  copies : ∀ k, k < l.length → s.getD (1 + k) [] = (l.getD k (0, [])).2
  home : ∀ j, 41 ≤ j → (∃ x ∈ asW l, x.1 = j) ∨ s.getD j [] = s0.getD j []
structure NewS (l : List Pt) (s0 s : List (List UInt8)) : Prop where
  len : s.length = s0.length
  head : s.getD 0 [] = sec 0
  home : ∀ j, 41 ≤ j → j < s0.length → s.getD j [] = Dk.over (asW l) j (s0.getD j [])

/-- what there may be, when a commit has answered e -/
def ClsS (e : Int) (l : List Pt) (s0 s : List (List UInt8)) : Prop := NewS l s0 s ∨ (e ≠ 0 ∧ (OldS l s0 s ∨ RdyS l s0 s))

theorem asW_take_mem (l : List Pt) (k : Nat) : ∀ x ∈ asW (l.take k), x ∈ asW l := by
  intro x hx
  obtain ⟨p, hp, rfl⟩ := List.mem_map.1 hx
  exact List.mem_map.2 ⟨p, List.mem_of_mem_take hp, rfl⟩
theorem copies_mem (L : List Pt) : ∀ x ∈ asW (copiesL L), 1 ≤ x.1 ∧ x.1 ≤ L.length := by
  intro x hx
  obtain ⟨p, hp, rfl⟩ := List.mem_map.1 hx
  obtain ⟨y, hy, rfl⟩ := List.mem_map.1 hp
  have := List.mem_zipIdx hy
  dsimp only
  omega
theorem may_mem {L : List Pt} {n : Int} (h : MayP L n) : ∀ x ∈ asW L, 41 ≤ x.1 := by
  intro x hx
  obtain ⟨p, hp, rfl⟩ := List.mem_map.1 hx
  have := h.at p hp
  dsimp only
  omega

theorem copies_snoc (L : List Pt) (p : Pt) : copiesL (L ++ [p]) = copiesL L ++ [(1 + (L.length : Int), p.2)] := by
  simp [copiesL, List.zipIdx_append]
theorem copies_at (L : List Pt) (k : Nat) (hk : k < L.length) (s : List UInt8) : Dk.over (asW (copiesL L)) (1 + k) s = (L.getD k (0, [])).2 := by
  induction L using Dk.snoc_ind with
  | h0 => simp at hk
  | h1 l p ih =>
    rw [copies_snoc]
    unfold asW at ih ⊢
    rw [List.map_append, List.map_singleton, Dk.over_snoc]
    by_cases h : k < l.length
    · rw [if_neg (by dsimp only; omega), ih h]
      simp [List.getD, List.getElem?_append_left h]
    · have hkl : k = l.length := by simp at hk; omega
      rw [if_pos (by dsimp only; omega)]
      simp [List.getD, hkl]

/-- the last two steps of a transaction, from a state that is ready on -/
theorem home_end (e : Int) (l : List Pt) (s0 s : List (List UInt8)) (b : Int) (hm : MayP l s0.length) (hn : 41 < s0.length) (he : e ≠ 0) (h : RdyS l s0 s) :
    EndC (ClsS e l s0) (NewS l s0) (plays (homeR l) ⟨s, [], true, b⟩) := by
  have hmem := may_mem hm
  have hrdy : ∀ K k, RdyS l s0 (Dk.laid K (asW (l.take k)) s) := fun K k => by
    have hlow : ∀ j, j < 41 → (Dk.laid K (asW (l.take k)) s).getD j [] = s.getD j [] := fun j hj => laid_still _ _ _ _ fun x hx => by have := hmem x (asW_take_mem l k x hx); omega
    refine ⟨(Dk.laid_length _ _ _).trans h.len, ?_, fun i hi => ?_, fun j hj => ?_⟩
    · rw [hlow 0 (by omega)]; exact h.head
    · rw [hlow (1 + i) (by have := hm.few; omega)]; exact h.copies i hi
    · by_cases hx : ∃ x ∈ asW l, x.1 = j
      · exact .inl hx
      · right
        rw [laid_still _ _ _ _ fun x hx' hxj => hx ⟨x, asW_take_mem l k x hx', hxj⟩]
        exact (h.home j hj).resolve_left hx
  have hl : RdyS l s0 (lay l s) := by have := hrdy (fun _ => true) l.length; rw [List.take_length] at this; exact this
  have hhome : ∀ j, 41 ≤ j → j < s0.length → (lay l s).getD j [] = Dk.over (asW l) j (s0.getD j []) := fun j hj hjn => by
    rw [lay_getD _ _ _ (by rw [h.len]; exact hjn)]
    rcases h.home j hj with hx | hx
    · exact over_in _ _ _ _ hx
    · rw [hx]
  have hz : ∀ K : Nat → Bool, Dk.laid K (asW [((0 : Int), sec 0)]) (lay l s) = if K 0 then (lay l s).set 0 (sec 0) else lay l s := fun K => Dk.laid_snoc K [] (0, sec 0) (lay l s)
  have hnew : NewS l s0 ((lay l s).set 0 (sec 0)) := by
    refine ⟨by rw [List.length_set]; exact hl.len, ?_, fun j hj hjn => ?_⟩
    · rw [List.getD, List.getElem?_set_self (by rw [hl.len]; omega)]; rfl
    · rw [List.getD, List.getElem?_set_ne (by omega)]; exact hhome j hj hjn
  unfold homeR
  refine pair_end _ _ _ _ _ _ (by rw [h.len]; exact fits_may hm) (fun K k => .inr ⟨he, .inr (hrdy K k)⟩) fun b' => ?_
  refine pair_end _ _ _ _ _ _ (by rw [hl.len]; exact fits_zero _ hn) (fun K k => ?_) fun b'' => ?_
  · match k with
    | 0 => exact .inr ⟨he, .inr hl⟩
    | k + 1 =>
      rw [show List.take (k + 1) [((0 : Int), sec 0)] = [((0 : Int), sec 0)] by simp, hz]
      split
      · exact .inl hnew
      · exact .inr ⟨he, .inr hl⟩
  · have : lay [((0 : Int), sec 0)] (lay l s) = (lay l s).set 0 (sec 0) := by
      have := hz fun _ => true
      rw [if_pos rfl] at this
      exact this
    rw [this]
    exact none_end _ _ _ _ (.inl hnew) hnew

/-- a commit, from a state with an empty head on -/
theorem commit_end (l : List Pt) (s0 : List (List UInt8)) (b : Int) (hm : mayB l s0.length = true) (hn : 41 < s0.length) (h0 : s0.getD 0 [] = sec 0) :
    EndC (ClsS 1 l s0) (NewS l s0) (commitOf ⟨s0, [], true, b⟩ l) := by
  have hmp := (may_iff _ _).1 hm
  have hfew := hmp.few
  unfold commitOf
  rw [if_pos hm]
  unfold commitR
  have hold : ∀ K k, OldS l s0 (Dk.laid K (asW ((copiesL l).take k)) s0) := fun K k => by
    have hmem := fun x hx => copies_mem l x (asW_take_mem (copiesL l) k x hx)
    refine ⟨Dk.laid_length _ _ _, ?_, fun j hj => ?_⟩
    · rw [laid_still _ _ _ _ fun x hx => by have := hmem x hx; omega]; exact h0
    · rw [laid_still _ _ _ _ fun x hx => by have := hmem x hx; omega]
  have hl : OldS l s0 (lay (copiesL l) s0) := by have := hold (fun _ => true) (copiesL l).length; rw [List.take_length] at this; exact this
  have hcp : ∀ k, k < l.length → (lay (copiesL l) s0).getD (1 + k) [] = (l.getD k (0, [])).2 := fun k hk => by
    rw [lay_getD _ _ _ (by omega)]; exact copies_at l k hk _
  have hz : ∀ K : Nat → Bool, Dk.laid K (asW [((0 : Int), hdL l)]) (lay (copiesL l) s0) = if K 0 then (lay (copiesL l) s0).set 0 (hdL l) else lay (copiesL l) s0 := fun K => Dk.laid_snoc K [] (0, hdL l) (lay (copiesL l) s0)
  have hrdy : RdyS l s0 ((lay (copiesL l) s0).set 0 (hdL l)) := by
    refine ⟨by rw [List.length_set]; exact hl.len, ?_, fun k hk => ?_, fun j hj => .inr ?_⟩
    · rw [List.getD, List.getElem?_set_self (by rw [hl.len]; omega)]; rfl
    · rw [List.getD, List.getElem?_set_ne (by omega)]; exact hcp k hk
    · rw [List.getD, List.getElem?_set_ne (by omega)]; exact hl.home j hj
  refine pair_end _ _ _ _ _ _ (fits_copies hmp hn) (fun K k => .inr ⟨by omega, .inl (hold K k)⟩) fun b' => ?_
  refine pair_end _ _ _ _ _ _ (by rw [lay_len]; exact fits_head l _ hfew hn) (fun K k => ?_) fun b'' => ?_
  · match k with
    | 0 => exact .inr ⟨by omega, .inl hl⟩
    | k + 1 =>
      rw [show List.take (k + 1) [((0 : Int), hdL l)] = [((0 : Int), hdL l)] by simp, hz]
      split
      · exact .inr ⟨by omega, .inr hrdy⟩
      · exact .inr ⟨by omega, .inl hl⟩
  · have : lay [((0 : Int), hdL l)] (lay (copiesL l) s0) = (lay (copiesL l) s0).set 0 (hdL l) := by
      have := hz fun _ => true
      rw [if_pos rfl] at this
      exact this
    rw [this]
    exact home_end 1 l s0 _ b'' hmp hn (by omega) hrdy

theorem cls_end {e : Int} {l : List Pt} {s0 : List (List UInt8)} {x : Int × Dk} (h : EndC (ClsS 1 l s0) (NewS l s0) x) (he : x.1 = e) : ∀ K, ClsS e l s0 (Dk.laid K x.2.waits x.2.secs) := by
  intro K
  subst he
  by_cases h0 : x.1 = 0
  · obtain ⟨hw, hN⟩ := h.2 h0
    rw [hw]
    exact .inl hN
  · rcases h.1 K with h1 | ⟨_, h1⟩
    · exact .inl h1
    · exact .inr ⟨h0, h1⟩

/-- what a disk may have in it, whatever a cut keeps -/
def Loose (e : Int) (l : List Pt) (s0 : List (List UInt8)) (D : Dk) : Prop := ∀ K, ClsS e l s0 (Dk.laid K D.waits D.secs)
theorem loose_commit (l : List Pt) (s0 : List (List UInt8)) (b : Int) (hm : mayB l s0.length = true) (hn : 41 < s0.length) (h0 : s0.getD 0 [] = sec 0) :
    Loose (commitOf ⟨s0, [], true, b⟩ l).1 l s0 (commitOf ⟨s0, [], true, b⟩ l).2 := cls_end (commit_end l s0 b hm hn h0) rfl
theorem loose_cut {e : Int} {l : List Pt} {s0 : List (List UInt8)} {D : Dk} (h : Loose e l s0 D) (keep : List Bool) : Loose e l s0 (D.cut keep) := fun K => h _
theorem loose_on {e : Int} {l : List Pt} {s0 : List (List UInt8)} {D : Dk} (h : Loose e l s0 D) : Loose e l s0 D.on := fun K => h fun _ => false
theorem loose_budget {e : Int} {l : List Pt} {s0 : List (List UInt8)} {D : Dk} (h : Loose e l s0 D) (b : Int) : Loose e l s0 { D with budget := b } := h
theorem loose_still {e : Int} {l : List Pt} {s0 s : List (List UInt8)} {p : Bool} {b : Int} (h : ClsS e l s0 s) : Loose e l s0 ⟨s, [], p, b⟩ := fun K => h

/-- recovering, from a state that is ready on -/
theorem rdy_begun {l : List Pt} {s0 s : List (List UInt8)} {p : Bool} {b : Int} (hm : mayB l s0.length = true) (hn : 41 < s0.length) (hs : s0.length ≤ 2048) (h : RdyS l s0 s) :
    begunL (rowsL ⟨s, [], p, b⟩) s.length = l :=
  begun_of l _ _ (by rw [h.len]; exact hm) (by rw [h.len]; omega) (by rw [rowsL_getD _ _ (by omega)]; exact h.head) (fun k hk => by rw [rowsL_getD _ _ (by have := ((may_iff _ _).1 hm).few; omega)]; exact h.copies k hk)
theorem recR_home {l : List Pt} (h : l ≠ []) : recR l = homeR l := by unfold recR; rw [if_neg h]; rfl

theorem loose_recover {e : Int} {l : List Pt} {s0 s : List (List UInt8)} {b : Int} (hm : mayB l s0.length = true) (hn : 41 < s0.length) (hs : s0.length ≤ 2048) (h : ClsS e l s0 s) :
    Loose e l s0 (recoverOf ⟨s, [], true, b⟩).2.2 := by
  have hquiet : s.length = s0.length → s.getD 0 [] = sec 0 → Loose e l s0 (recoverOf ⟨s, [], true, b⟩).2.2 := fun hlen hz => by
    rw [recoverOf_none (D := ⟨s, [], true, b⟩) (by show 41 < s.length; omega) rfl hz]
    exact loose_still h
  rcases h with h1 | ⟨he, h1 | h1⟩
  · exact hquiet h1.len h1.head
  · exact hquiet h1.len h1.head
  · rw [recoverOf_home (D := ⟨s, [], true, b⟩) (by show 41 < s.length; rw [h1.len]; exact hn) rfl (rdy_begun hm hn hs h1) (may_ne hm)]
    show Loose e l s0 (homeOf l ⟨s, [], true, b⟩).2
    rw [← homeOf_plays]
    exact (home_end e l s0 s b ((may_iff _ _).1 hm) hn he h1).1

/-- what recovering leaves, where no budget is -/
def DoneS (e : Int) (l : List Pt) (s0 s : List (List UInt8)) : Prop := NewS l s0 s ∨ (e ≠ 0 ∧ OldS l s0 s)
theorem loose_done {e : Int} {l : List Pt} {s0 s : List (List UInt8)} (hm : mayB l s0.length = true) (hn : 41 < s0.length) (hs : s0.length ≤ 2048) (h : ClsS e l s0 s) :
    ∃ n s', recoverOf ⟨s, [], true, -1⟩ = (n, 0, ⟨s', [], true, -1⟩) ∧ recoverOf ⟨s', [], true, -1⟩ = (0, 0, ⟨s', [], true, -1⟩) ∧ DoneS e l s0 s' := by
  have hquiet : s.length = s0.length → s.getD 0 [] = sec 0 → recoverOf ⟨s, [], true, -1⟩ = (0, 0, ⟨s, [], true, -1⟩) := fun hlen hz => recoverOf_none (by show 41 < s.length; omega) rfl hz
  rcases h with h1 | ⟨he, h1 | h1⟩
  · exact ⟨0, s, hquiet h1.len h1.head, hquiet h1.len h1.head, .inl h1⟩
  · exact ⟨0, s, hquiet h1.len h1.head, hquiet h1.len h1.head, .inr ⟨he, h1⟩⟩
  · have hr := recover_free l s (by rw [h1.len]; exact hm) (by rw [h1.len]; exact hn) (by rw [h1.len]; exact hs) h1.head h1.copies
    have hE := home_end e l s0 s (-1) ((may_iff _ _).1 hm) hn he h1
    have h2 := recoverOf_home (D := ⟨s, [], true, -1⟩) (by show 41 < s.length; rw [h1.len]; exact hn) rfl (rdy_begun hm hn hs h1) (may_ne hm)
    rw [← homeOf_plays] at h2
    have h3 : plays (homeR l) ⟨s, [], true, -1⟩ = (0, ⟨lay [((0 : Int), sec 0)] (lay l s), [], true, -1⟩) := by
      have := h2.symm.trans hr
      exact congrArg (·.2) this
    rw [h3] at hE
    have hN := (hE.2 rfl).2
    refine ⟨_, _, hr, ?_, .inl hN⟩
    exact recoverOf_none (by show 41 < (lay _ _).length; rw [lay_len, lay_len, h1.len]; exact hn) rfl hN.head

/-- the state ahead: an empty head, nothing waits -/
structure BaseS (n : Nat) (s : List (List UInt8)) : Prop where
  len : s.length = n
  head : s.getD 0 [] = sec 0
theorem base_new (n : Nat) (h : 41 < n) : BaseS n (Dk.new n).secs := ⟨new_len n, new_getD n 0 (by omega)⟩
theorem base_commit (n : Nat) (L : List Pt) (s : List (List UInt8)) (h : BaseS n s) (hn : 41 < n) (hm : mayB L (n : Nat) = true) :
    ∃ s', commitOf ⟨s, [], true, -1⟩ L = (0, ⟨s', [], true, -1⟩) ∧ BaseS n s' := by
  have hc := commit_free L s (by rw [h.len]; exact hm) (by rw [h.len]; exact hn)
  have hE := commit_end L s (-1) (by rw [h.len]; exact hm) (by rw [h.len]; exact hn) h.head
  rw [hc] at hE
  have hN := (hE.2 rfl).2
  exact ⟨_, hc, hN.len.trans h.len, hN.head⟩

/-! ### recovering whatever there is, where no budget is -/
theorem settles (s : List (List UInt8)) (hn : 41 < s.length) (hs : s.length ≤ 2048) :
    ∃ L s', recoverOf ⟨s, [], true, -1⟩ = ((L.length : Int), 0, ⟨s', [], true, -1⟩) ∧ recoverOf ⟨s', [], true, -1⟩ = (0, 0, ⟨s', [], true, -1⟩) ∧ s'.length = s.length ∧ s'.getD 0 [] = sec 0 ∧ L.length ≤ 40 ∧ ∀ j, 41 ≤ j → j < s.length → (∀ x ∈ asW L, x.1 ≠ j) → s'.getD j [] = s.getD j [] := by
  by_cases h0 : s.getD 0 [] = sec 0
  · have := recoverOf_none (D := ⟨s, [], true, -1⟩) hn rfl h0
    exact ⟨[], s, this, this, rfl, h0, by simp, fun _ _ _ _ => rfl⟩
  · have hzero : ∀ t : List (List UInt8), 41 < t.length → (lay [((0 : Int), sec 0)] t).getD 0 [] = sec 0 ∧ ∀ j, 41 ≤ j → j < t.length → (lay [((0 : Int), sec 0)] t).getD j [] = t.getD j [] := fun t ht => by
      refine ⟨?_, fun j hj hjn => ?_⟩
      · rw [lay_getD _ _ _ (by omega)]; rfl
      · rw [lay_getD _ _ _ hjn]
        exact Dk.over_none _ _ _ fun x hx => by
          have : x = (0, sec 0) := by simpa [asW] using hx
          subst this
          dsimp only
          omega
    by_cases hb : begunL (rowsL ⟨s, [], true, -1⟩) s.length = []
    · have hr := recoverOf_fmt (D := ⟨s, [], true, -1⟩) hn rfl hb h0
      have hf : fmtOf ⟨s, [], true, -1⟩ = (0, ⟨lay [((0 : Int), sec 0)] s, [], true, -1⟩) := by
        rw [← fmtOf_plays]
        have := format_free s hn
        unfold formatOf at this
        rw [if_pos hn] at this
        exact this
      rw [hf] at hr
      refine ⟨[], _, hr, recoverOf_none (by show 41 < (lay _ _).length; rw [lay_len]; exact hn) rfl (hzero s hn).1, lay_len _ _, (hzero s hn).1, by simp, fun j hj hjn _ => (hzero s hn).2 j hj hjn⟩
    · obtain ⟨hm, hh⟩ := begunL_may _ _ hb
      have hmp := (may_iff _ _).1 hm
      generalize hL : begunL (rowsL ⟨s, [], true, -1⟩) s.length = L at hm hh hmp hb
      have hr := recoverOf_home (D := ⟨s, [], true, -1⟩) hn rfl hL hb
      have hpl : plays (homeR L) ⟨s, [], true, -1⟩ = (0, ⟨lay [((0 : Int), sec 0)] (lay L s), [], true, -1⟩) := by
        unfold homeR
        rw [play_write_free _ _ _ (fits_may hmp), play_write_free _ _ _ (by rw [lay_len]; exact fits_zero _ hn)]
        rfl
      rw [← homeOf_plays, hpl] at hr
      have hz := hzero (lay L s) (by rw [lay_len]; exact hn)
      refine ⟨L, _, hr, recoverOf_none (by show 41 < (lay _ _).length; rw [lay_len, lay_len]; exact hn) rfl hz.1, by rw [lay_len, lay_len], hz.1, hmp.few, fun j hj hjn hx => ?_⟩
      rw [hz.2 j hj (by rw [lay_len]; exact hjn), lay_getD _ _ _ hjn, Dk.over_none _ _ _ hx]

/-- how many of the first places at home a list names -/
def namesAt (L : List Pt) (j : Nat) : Bool := (asW L).any fun x => x.1 == j
def countAt (L : List Pt) (k : Nat) : Nat := ((List.range k).filter fun j => namesAt L (41 + j)).length
theorem countAt_succ (L : List Pt) (k : Nat) : countAt L (k + 1) = countAt L k + if namesAt L (41 + k) = true then 1 else 0 := by
  unfold countAt
  rw [List.range_succ, List.filter_append, List.length_append]
  congr 1
  by_cases h : namesAt L (41 + k) = true <;> simp [h]
theorem countAt_cons (p : Pt) (L : List Pt) (k : Nat) : countAt (p :: L) k ≤ countAt L k + if p.1.toNat < 41 + k then 1 else 0 := by
  induction k with
  | zero => simp [countAt]
  | succ k ih =>
    rw [countAt_succ, countAt_succ]
    have hn : namesAt (p :: L) (41 + k) = (p.1.toNat == 41 + k || namesAt L (41 + k)) := rfl
    rw [hn]
    by_cases h1 : p.1.toNat = 41 + k
    · rw [if_neg (by omega)] at ih
      rw [if_pos (show p.1.toNat < 41 + (k + 1) by omega)]
      have : (if (p.1.toNat == 41 + k || namesAt L (41 + k)) = true then 1 else 0) ≤ 1 := by split <;> omega
      omega
    · have : (p.1.toNat == 41 + k) = false := by simpa using h1
      rw [this, Bool.false_or]
      have : (if p.1.toNat < 41 + k then 1 else 0) ≤ (if p.1.toNat < 41 + (k + 1) then 1 else 0) := by split <;> split <;> omega
      omega
theorem countAt_le (L : List Pt) (k : Nat) : countAt L k ≤ L.length := by
  induction L with
  | nil =>
    have : ∀ k, countAt [] k = 0 := fun k => by
      induction k with
      | zero => rfl
      | succ k ih => rw [countAt_succ, ih]; simp [namesAt, asW]
    rw [this]; exact Nat.zero_le _
  | cons p L ih =>
    have := countAt_cons p L k
    have : (if p.1.toNat < 41 + k then 1 else 0) ≤ 1 := by split <;> omega
    simp only [List.length_cons]; omega

open Go.ChangeShapes Go.WideShapes Go.ChangeAt Go.RowKit Go.Deep
open Go.ChangeMaps (open_string shut_string)
structure FailM where
  n : Nat
  ka : Option Addr
  kn : Nat
  kc : Nat
  keep : List Bool
deriving Inhabited

def failC (x : FailM) : List Value := [.int .u16 x.n, .slice x.ka x.kn x.kc]
structure FailM.Good (W : World) (x : FailM) : Prop where
  few : x.n ≤ 65535
  keep : BoolsAt W x.ka x.kn x.kc x.keep

section
variable {H : Type} {enc : TypeId × Value → H} {W : World} {held : Bool}
theorem fail_of {fuel : Nat} {cs : List Value} {y : DataW H × List MemPlace} (h : DataW.trod enc Try.prog W 0 (fun _ => true) held fuel 67 cs = some y) : ∃ x : FailM, cs = failC x ∧ x.Good W := by
  obtain ⟨xs, n, _, _, hlen, hxl, hf⟩ := DataW.trod_struct Try.underlying67 h
  have h2 : cs.length = 2 := hlen.trans (by kernel_rfl)
  have hx2 : xs.length = 2 := hxl.trans (by simp)
  have c1 : Try.prog.cellsOf 65 = 1 := by kernel_rfl
  have c2 : Try.prog.cellsOf 38 = 1 := by kernel_rfl
  match cs, h2, xs, hx2 with
  | [v0, v1], _, [y0, y1], _ =>
    have g0 := hf 0 _ rfl
    have g1 := hf 1 _ rfl
    simp only [c1, c2, List.drop_zero, List.drop_succ_cons, List.take_succ_cons, List.take_zero, List.getElem?_cons_zero, List.getElem?_cons_succ] at g0 g1
    obtain ⟨n0, e0, _, w0⟩ := DataW.trod_int Try.underlying65 g0
    obtain ⟨a, len, cap, L, e1, hb⟩ := boolsJ_of g1
    obtain ⟨rfl, _⟩ := List.cons.inj e0
    obtain ⟨rfl, _⟩ := List.cons.inj e1
    have r0 : 0 ≤ n0 ∧ n0 ≤ 65535 := by
      simpa [Lit.wf, IntKind.min, IntKind.max, IntKind.signed, IntKind.bits] using w0
    refine ⟨⟨n0.toNat, a, len, cap, L⟩, ?_, by dsimp only; omega, hb⟩
    have : ((n0.toNat : Nat) : Int) = n0 := by omega
    simp only [failC, this]

theorem fails_of {r : Reach} {b0 : Nat} {v : Value} {d : DataW H} {p : List MemPlace} (hv : Value.okWide Try.prog W r b0 62 v) (h : DataW.Trod enc Try.prog W 0 (fun _ => true) held 62 v d p) :
    ∃ a n cap L, v = .slice a n cap ∧ CameAt failC 2 W a n cap L ∧ ∀ x ∈ L, x.Good W := by
  have c5 : Try.prog.cellsOf 67 = 2 := by kernel_rfl
  rcases slice_of Try.underlying62 hv h with rfl | ⟨x, len, cap, rfl, hl, hm, hx⟩
  · exact ⟨_, _, _, [], rfl, CameAt.nil _ _ _, by simp⟩
  · obtain ⟨B, hB⟩ := choose_lt (α := FailM) (n := len) (p := fun i y => (∀ j, j < 2 → W.cell? (x.add (i * 2 + j)) = (failC y)[j]?) ∧ y.Good W) (fun i hi => by
      obtain ⟨cs, n, y, h1, h2, h3⟩ := hx i hi
      obtain ⟨z, rfl, hz⟩ := fail_of h3
      rw [c5] at h2
      exact ⟨z, fun j hj => h2 j (by simpa [failC] using hj), hz⟩)
    refine ⟨_, _, _, (List.range len).map B, rfl, ⟨by simp, hl, hm, fun _ _ => rfl, .inr ⟨x, rfl, fun i j y hi hj => ?_⟩⟩, fun y hy => ?_⟩
    · have hil : i < len := by simpa using (List.getElem?_eq_some_iff.1 hi).1
      simp [hil] at hi
      rw [← hi]
      exact (hB i hil).1 j hj
    · simp only [List.mem_map, List.mem_range] at hy
      obtain ⟨i, hi, rfl⟩ := hy
      exact (hB i hi).2
end

/-- the law's disk beside its transaction -/
structure SceneA (w0 w : World) (S : Nat → Prop) (g : Nat) (D : Dk) (U : Nat → Prop) (a : Option Addr) (n c : Nat) (M : List PutM) : Prop where
  run : Run w0 w S g D
  puts : PutsIn w U a n c M
  offU : ∀ j, U j → ¬ S j
section
variable {w0 w w' : World} {S S' U : Nat → Prop} {g n c : Nat} {D D' : Dk} {a : Option Addr} {M : List PutM}
theorem SceneA.quiet (h : SceneA w0 w S g D U a n c M) (hb : Below w.heap.size w w') : SceneA w0 w' S g D U a n c M := ⟨h.run.quiet hb, h.puts.below hb, h.offU⟩
theorem SceneA.disk (h : SceneA w0 w S g D U a n c M) (hd : DiskAt w' S' g D') (ho : Only S w w') (hs : ∀ k, S' k → S k ∨ w.heap.size ≤ k) : SceneA w0 w' S' g D' U a n c M := by
  refine ⟨h.run.to hd ho hs, h.puts.only ho h.offU, fun j hj hS => ?_⟩
  rcases hs j hS with h1 | h1
  · exact h.offU j hj h1
  · have := h.puts.lt j hj; omega
/-- puts that were made since the disk was -/
theorem SceneA.mk' (hr : Run w0 w S g D) (hb : Below w.heap.size w w') (hp : PutsIn w' U a n c M) (hU : ∀ j, U j → w.heap.size ≤ j) : SceneA w0 w' S g D U a n c M :=
  ⟨hr.quiet hb, hp, fun j hj hS => by have := hU j hj; have := hr.disk.lt j hS; omega⟩
end

/-- and its texts -/
structure SceneS (w0 w : World) (S : Nat → Prop) (g : Nat) (D : Dk) (U : Nat → Prop) (a : Option Addr) (n c : Nat) (M : List PutM) (vs : Value) (R : List (List UInt8)) : Prop where
  sc : SceneA w0 w S g D U a n c M
  strs : StrsAt w0 w S vs R
  offV : ∀ k, vs.ownBlock = some k → ¬ U k
section
variable {w0 w w' w'' : World} {S S' U : Nat → Prop} {g n c : Nat} {D D' : Dk} {a : Option Addr} {M : List PutM} {vs vs' : Value} {R : List (List UInt8)} {x : List UInt8}
theorem SceneS.start (h : SceneA w0 w S g D U a n c M) : SceneS w0 w S g D U a n c M (.slice none 0 0) [] := ⟨h, StrsAt.nil _ _ _, fun k hk => by simp [Value.ownBlock] at hk⟩
theorem SceneS.quiet (h : SceneS w0 w S g D U a n c M vs R) (hb : Below w.heap.size w w') : SceneS w0 w' S g D U a n c M vs R := ⟨h.sc.quiet hb, h.strs.below hb, h.offV⟩
theorem SceneS.disk (h : SceneS w0 w S g D U a n c M vs R) (hd : DiskAt w' S' g D') (ho : Only S w w') (hs : ∀ k, S' k → S k ∨ w.heap.size ≤ k) : SceneS w0 w' S' g D' U a n c M vs R :=
  ⟨h.sc.disk hd ho hs, h.strs.step ho hs, h.offV⟩
theorem SceneS.more (h : SceneS w0 w S g D U a n c M vs R) (hb : Below w.heap.size w w') (hrec : Recs strC w'' 9 1 vs' (R ++ [x])) (hg : w'.grownBy w'' vs.ownBlock) (hv : vs'.ownBlock = vs.ownBlock ∨ vs'.ownBlock = some w'.heap.size) :
    SceneS w0 w'' S g D U a n c M vs' (R ++ [x]) := by
  have hm := h.strs.more h.sc.run hb hrec hg hv
  refine ⟨⟨hm.2, (h.sc.puts.below hb).keep hg.size (fun k hU => hg.block k ?_ ?_), h.sc.offU⟩, hm.1, fun k hk hU => ?_⟩
  · have := h.sc.puts.lt k hU; have := hb.size; omega
  · intro e
    exact h.offV k e.symm hU
  · rcases hv with hv | hv
    · exact h.offV k (by rw [← hv]; exact hk) hU
    · rw [hv] at hk
      injection hk with hk
      have := h.sc.puts.lt k hU; have := hb.size; omega
end

end Go.Proofs.Ytinfgfgmijjhjaa
