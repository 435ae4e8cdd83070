/-
  The arguments of layer 6's statements; few, some; the chapter's examples.
-/
import Derived.Test.YtflboggjbjfkjaaTrI
import Derived.Test.YtflboggjbjfkjaaTrK
import Derived.Test.YtflboggjbjfkjaaOpen
import Derived.Deep.Grids
namespace Go.Proofs.Ytflboggjbjfkjaa
open Go.ChangeShapes Go.WideShapes Go.ChangeAt Go.RowKit Go.Deep
set_option linter.unusedVariables false
set_option linter.unusedSimpArgs false
set_option maxRecDepth 100000

section
variable {H : Type} {enc : TypeId × Value → H} {W : World} {held : Bool}
theorem pair_of {fuel : Nat} {cs : List Value} {y : DataW H × List MemPlace} (h : DataW.trod enc Try.prog W 0 (fun _ => true) held fuel 48 cs = some y) : ∃ x : Nat × Nat, cs = pairC x ∧ x.1 < 18446744073709551616 ∧ x.2 < 18446744073709551616 := by
  obtain ⟨xs, n, _, _, hlen, hxl, hf⟩ := DataW.trod_struct Try.underlying48 h
  have h5 : cs.length = 2 := hlen.trans (by kernel_rfl)
  have hx5 : xs.length = 2 := hxl.trans (by simp)
  have c1 : Try.prog.cellsOf 44 = 1 := by kernel_rfl
  match cs, h5, xs, hx5 with
  | [v0, v1], _, [y0, y1], _ =>
    have g0 := hf 0 _ rfl
    have g1 := hf 1 _ rfl
    simp only [c1, List.drop_zero, List.drop_succ_cons, List.take_succ_cons, List.take_zero, List.getElem?_cons_zero, List.getElem?_cons_succ] at g0 g1
    obtain ⟨n0, e0, _, w0⟩ := DataW.trod_int Try.underlying44 g0
    obtain ⟨n1, e1, _, w1⟩ := DataW.trod_int Try.underlying44 g1
    obtain ⟨rfl, _⟩ := List.cons.inj e0
    obtain ⟨rfl, _⟩ := List.cons.inj e1
    have r0 : 0 ≤ n0 ∧ n0 ≤ 18446744073709551615 := by
      simpa [Lit.wf, IntKind.min, IntKind.max, IntKind.signed, IntKind.bits] using w0
    have r1 : 0 ≤ n1 ∧ n1 ≤ 18446744073709551615 := by
      simpa [Lit.wf, IntKind.min, IntKind.max, IntKind.signed, IntKind.bits] using w1
    obtain ⟨m0, rfl⟩ := Int.eq_ofNat_of_zero_le r0.1
    obtain ⟨m1, rfl⟩ := Int.eq_ofNat_of_zero_le r1.1
    exact ⟨(m0, m1), rfl, by simp only; omega, by simp only; omega⟩
theorem pairs_of {r : Reach} {b0 : Nat} {v : Value} {d : DataW H} {p : List MemPlace} (hv : Value.okWide Try.prog W r b0 22 v) (h : DataW.Trod enc Try.prog W 0 (fun _ => true) held 22 v d p) :
    ∃ a n cap L, v = .slice a n cap ∧ CameAt pairC 2 W a n cap L ∧ ∀ x ∈ L, x.1 < 18446744073709551616 ∧ x.2 < 18446744073709551616 := by
  have c5 : Try.prog.cellsOf 48 = 2 := by kernel_rfl
  rcases slice_of Try.underlying22 hv h with rfl | ⟨x, len, cap, rfl, hl, hm, hx⟩
  · exact ⟨_, _, _, [], rfl, CameAt.nil _ _ _, by simp⟩
  · obtain ⟨B, hB⟩ := choose_lt (α := Nat × Nat) (n := len) (p := fun i y => (∀ j, j < 2 → W.cell? (x.add (i * 2 + j)) = (pairC y)[j]?) ∧ y.1 < 18446744073709551616 ∧ y.2 < 18446744073709551616) (fun i hi => by
      obtain ⟨cs, n, y, h1, h2, h3⟩ := hx i hi
      obtain ⟨z, rfl, hz⟩ := pair_of h3
      rw [c5] at h2
      exact ⟨z, fun j hj => h2 j (by simpa [pairC] using hj), hz⟩)
    refine ⟨_, _, _, (List.range len).map B, rfl, ⟨by simp, hl, hm, fun _ _ => rfl, .inr ⟨x, rfl, fun i j y hi hj => ?_⟩⟩, fun y hy => ?_⟩
    · have hil : i < len := by simpa using (List.getElem?_eq_some_iff.1 hi).1
      simp [hil] at hi
      rw [← hi]
      exact (hB i hil).1 j hj
    · simp only [List.mem_map, List.mem_range] at hy
      obtain ⟨i, hi, rfl⟩ := hy
      exact (hB i hi).2
end

theorem CameAt.cutHead {α : Type} {f : α → List Value} {w : World} {size n cap : Nat} {a : Option Addr} {L : List α} (h : CameAt f size w a n cap L) (m : Nat) (hm : m ≤ n) : CameAt f size w a m cap (L.take m) := by
  obtain ⟨h1, h2, h3, h4, h5⟩ := h
  refine ⟨by simp; omega, by omega, h3, fun x hx => h4 x (List.mem_of_mem_take hx), ?_⟩
  rcases h5 with ⟨rfl, h6, h7⟩ | ⟨p, rfl, hc⟩
  · exact .inl ⟨rfl, by omega, h7⟩
  · refine .inr ⟨p, rfl, fun i j x hi hj => hc i j x ?_ hj⟩
    have : i < m := by
      have := (List.getElem?_eq_some_iff.1 hi).1
      simp at this
      omega
    rwa [List.getElem?_take_of_lt this] at hi

theorem few6_any (a : Option Addr) (n cap : Nat) (L : List (Nat × Nat)) (w : World) (he : PairsAt w a n cap L) :
    Calls Try.prog 6 #[.slice a n cap] w fun e w' => (∃ m, m ≤ 601 ∧ e = .returned (.slice a m cap) ∧ PairsAt w a m cap (L.take 601)) ∧ w = w' := by
  have HE := Lib.hid he
  have hcap := he.2.1
  have hmax := he.2.2.1
  unfold maxLen at hmax
  clear he
  by_cases hn : 601 < n
  · have hcc : 601 ≤ cap := by omega
    go_enter Try.func6, Try.ntmps6
    go_wp2
    go_ret
    exact ⟨⟨601, Nat.le_refl _, rfl, HE.out.cutHead 601 (by omega)⟩, rfl⟩
  · go_enter Try.func6, Try.ntmps6
    go_wp2
    go_ret
    refine ⟨⟨n, by omega, rfl, ?_⟩, rfl⟩
    rw [List.take_of_length_le (by rw [HE.out.1]; omega)]
    exact HE.out

def someL (n : Nat) : List (Nat × Nat) := (List.range n).map fun i => (i + 1, 3 * (i + 1))
theorem someL_length (n : Nat) : (someL n).length = n := by simp [someL]
theorem someL_succ (n : Nat) : someL (n + 1) = someL n ++ [(n + 1, 3 * (n + 1))] := by simp [someL, List.range_succ]
theorem someL_fits (n : Nat) (h : n ≤ 600) : Fits 1 (someL n) := by
  intro p hp
  simp only [someL, List.mem_map, List.mem_range] at hp
  obtain ⟨i, hi, rfl⟩ := hp
  exact ⟨by simp only; omega, by show 3 * (i + 1) < 256 ^ 8; omega⟩
theorem someL_asc (n : Nat) : (someL n).Pairwise fun a b => a.1 < b.1 := by
  unfold someL
  rw [List.pairwise_map]
  exact List.pairwise_lt_range.imp (fun h => by simp only; omega)
theorem mayL_of {L : List (Nat × Nat)} (h : L.Pairwise fun a b => a.1 < b.1) (h6 : L.length ≤ 600) : mayL L = true := by
  have := mayL_iff (L := L) (fun j hj => by
    have := List.pairwise_iff_getElem.1 h j (j + 1) (by omega) hj (by omega)
    simpa [List.getD, List.getElem?_eq_getElem hj, List.getElem?_eq_getElem (show j < L.length by omega)] using this)
  rw [this, decide_eq_true (by omega)]

set_option maxHeartbeats 1000000 in
theorem some6_any (n : Nat) (w : World) (hn : n ≤ 600) :
    Calls Try.prog 9 #[.int .i64 n] w (FreshP (someL n) w) := by
  obtain ⟨i0, hi0, hz0, hz1, hz2⟩ := info_parts infoPair
  have HI := Lib.hid (And.intro hi0 (And.intro hz0 (And.intro hz1 hz2)))
  clear hi0 hz0 hz1 hz2
  go_enter Try.func9, Try.ntmps9
  go_wp2
  go_loopw [3, 4] (fun x i wr => ∃ k t : Nat, t = k + 1 ∧ k ≤ n ∧ i = .int .i64 t ∧ Recs pairC wr 48 2 x (someL k) ∧ (∀ q, x.ownBlock = some q → w.heap.size ≤ q) ∧ Below w.heap.size w wr) (fun _ i _ => n + 1 - (intOf i).toNat)
  case atStart => exact ⟨0, 1, rfl, Nat.zero_le _, rfl, Recs.nil _ _ _ _, fun q hq => by simp [Value.ownBlock] at hq, Below.refl _ _⟩
  case round =>
    obtain ⟨k, t, ht, hk, rfl, hr, ho, hb⟩ := hrel
    have HT := Lib.hid ht
    have HR := Lib.hid hr
    have HO := Lib.hid ho
    have HB := Lib.hid hb
    by_cases hlt : t ≤ n
    · have hti : (t : Int) ≤ (n : Int) := by omega
      have hs := someL_succ k
      rw [← ht] at hs
      obtain ⟨t3, ht3⟩ : ∃ x, 3 * t = x := ⟨_, rfl⟩
      rw [ht3] at hs
      have h3i : (3 : Int) * (t : Int) = (t3 : Int) := by omega
      have h3b : t3 ≤ 1800 := by omega
      have HS := Lib.hid hs
      have hal : Below wr.heap.size wr (wr.alloc (.cells (pairC (t, t3)).toArray 48)) := (Below.refl _ _).alloc (Nat.le_refl _) _
      have HR2 := Lib.hid (HR.out.below hal)
      have HM1 := Lib.hid (show (someL k).length + 1 ≤ maxLen by rw [someL_length]; unfold maxLen; omega)
      have HM2 := Lib.hid (show ((someL k).length + 1) * 16 ≤ 140737488355328 by rw [someL_length]; omega)
      clear ht hr ho hb hs ht3 hal
      go_wp2_with (first
        | (refine wpList_buildSliceV rfl 22 1 _ rfl #[(0, .agg (pairC (t, t3)).toArray)] (by simp [go_sem, pairC]) _ _ (built_pair (pairC (t, t3)).toArray rfl _) ?_)
        | (refine wpList_append_recs rfl _ _ 22 rfl 48 i0 _ 2 16 Try.underlying22 HI.out.1 HI.out.2.1 HI.out.2.2.1 HI.out.2.2.2 (by simp [Value.cells]) (by omega) _ _ rfl HR2.out ⟨wr.heap.size, 0, none⟩ 1 1 [(t, t3)] rfl rfl (fun y _ => pairC_len y) (fun y _ => pairC_one y) (one_rec (heap_alloc_new wr _)) HM1.out HM2.out ?_; intro v5 w5 hrec5 hg5 hv5))
      rw [← HS.out] at hrec5
      have hb1 := HB.out.alloc HB.out.size (.cells (pairC (t, t3)).toArray 48)
      have hb5 : Below w.heap.size w w5 := hb1.grown hg5 hb1.size (fun q hq => HO.out q hq)
      have hown5 : ∀ q, v5.ownBlock = some q → w.heap.size ≤ q := fun q hq => by
        rcases hv5 with e | e
        · exact HO.out q (e ▸ hq)
        · rw [e] at hq; have := HB.out.size; simp at hq; omega
      have hT := HT.out
      exact ⟨⟨t, t + 1, rfl, hlt, by go_num, by rw [hT] at hrec5 ⊢; exact hrec5, hown5, hb5⟩, by simp [intOf]; omega⟩
    · obtain rfl : k = n := by omega
      have H := Lib.hid (show FreshP (someL k) w (.returned _) wr from ⟨_, rfl, hr, ho, hb⟩)
      have hti : ¬ (t : Int) ≤ (k : Int) := by omega
      clear ht hr ho hb
      go_wp2
      go_ret
      exact H.out

end Go.Proofs.Ytflboggjbjfkjaa
