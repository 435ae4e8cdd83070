/-
  Streams of several numbers: where each of them stands, and that it is taken.
-/
import Derived.Test.YtkkjmkihehbomaaBtV
import Derived.Test.YtkkjmkihehbomaaBtO
import Derived.Test.YtkkjmkihehbomaaFill
namespace Go.Proofs.Ytkkjmkihehbomaa
open Go.RowKit
set_option linter.unusedVariables false
set_option linter.unusedSimpArgs false

/-- a step's bits -/
def partL (s : StepM) : List Bool := if s.act = 0 then bitsL s.v s.n.toNat else (bitsL s.v s.n.toNat).reverse
def allL (K : List StepM) : List Bool := K.flatMap partL
theorem partL_length (s : StepM) : (partL s).length = s.n.toNat := by unfold partL; split <;> simp [bitsL_length]
theorem allL_snoc (K : List StepM) (x : StepM) : allL (K ++ [x]) = allL K ++ partL x := by simp [allL]
theorem allL_put {K : List StepM} {x : StepM} (h0 : x.act = 0) (h : fitE x.v x.n = 0) : putL x.v x.n (allL K) = allL (K ++ [x]) := by
  rw [allL_snoc]; unfold putL partL; rw [if_pos h, if_pos h0]
theorem allL_turn {K : List StepM} {x : StepM} (h0 : ¬ x.act = 0) (h : fitE x.v x.n = 0) : turnL x.v x.n (allL K) = allL (K ++ [x]) := by
  rw [allL_snoc]; unfold turnL partL; rw [if_pos h, if_neg h0]
theorem allL_split (K : List StepM) (i : Nat) (h : i < K.length) : allL K = allL (K.take i) ++ partL (K.getD i default) ++ allL (K.drop (i + 1)) := by
  conv => lhs; rw [← List.take_append_drop i K, List.drop_eq_getElem_cons h]
  simp only [allL, List.flatMap_append, List.flatMap_cons, List.getD, List.getElem?_eq_getElem h, Option.getD_some, List.append_assoc]
theorem allL_take (K : List StepM) (i : Nat) (h : i < K.length) : allL (K.take (i + 1)) = allL (K.take i) ++ partL (K.getD i default) := by
  rw [List.take_succ_eq_append_getElem h, allL_snoc, List.getD, List.getElem?_eq_getElem h]; rfl
theorem allL_len (K : List StepM) (h : ∀ x ∈ K, x.n.toNat ≤ 32) : (allL K).length ≤ K.length * 32 := by
  induction K with
  | nil => simp [allL]
  | cons x K ih =>
    have h1 := ih fun y hy => h y (by simp [hy])
    have h2 := h x (by simp)
    have : (allL (x :: K)).length = (partL x).length + (allL K).length := by simp [allL]
    rw [this, partL_length, List.length_cons]; omega

theorem takeN_congr (F G : List Bool) (a n : Nat) (h : ∀ p, F.getD p false = G.getD p false) : takeN F a n = takeN G a n := octF_congr n fun j _ => h (a + j)
theorem mayN_nat (m : Nat) (h : m ≤ 32) : mayN m = true := by unfold mayN; simp; omega
theorem pack_room (F : List Bool) (p : Nat) (h : p ≤ F.length) : ¬ 8 * (packB F).length < p := by rw [packB_len]; have := octN_le F.length; omega
/-- a number that was put is taken -/
theorem takeR_put (A G : List Bool) (v m : Nat) (hm : m ≤ 32) (hv : v < 2 ^ m) : takeR (packB (A ++ bitsL v m ++ G)) A.length m = (v, 0, A.length + m) := by
  unfold takeR
  rw [if_neg (by rw [mayN_nat m hm]; simp), Int.toNat_natCast, if_neg (pack_room _ _ (by simp only [List.length_append, bitsL_length]; omega))]
  rw [takeN_congr (G := A ++ bitsL v m ++ G) _ _ _ (fun p => by rw [of_pack, wholeL_at]), takeN_put _ _ _ _ hv]
/-- one bit is taken -/
theorem takeR_one (F : List Bool) (p : Nat) (h : p < F.length) : takeR (packB F) p 1 = ((F.getD p false).toNat, 0, p + 1) := by
  unfold takeR
  have hn : ((1 : Int)).toNat = 1 := rfl
  rw [if_neg (by rw [show mayN 1 = true from by decide]; simp), hn, if_neg (pack_room _ _ (by omega))]
  rw [takeN_congr (G := F) _ _ _ (fun p => by rw [of_pack, wholeL_at])]
  unfold takeN octF octF
  simp only [Nat.add_zero, Nat.zero_add, Nat.pow_zero]
  cases F.getD p false <;> rfl
theorem rev_at (v m k : Nat) (h : k < m) : (bitsL v m).reverse.getD k false = v.testBit (m - 1 - k) := by
  rw [List.getD, List.getElem?_reverse (by rw [bitsL_length]; exact h), bitsL_length]
  have := bitsL_at v m (m - 1 - k) (by omega)
  rwa [List.getD] at this
/-- a turned number, one bit further -/
theorem turn_step (v m k : Nat) (h : k < m) : 2 * (v / 2 ^ (m - k)) + (v.testBit (m - 1 - k)).toNat = v / 2 ^ (m - (k + 1)) := by
  obtain ⟨e, he⟩ : ∃ e, e = m - 1 - k := ⟨_, rfl⟩
  rw [show m - k = e + 1 by omega, show m - (k + 1) = e by omega, ← he, Nat.pow_succ, ← Nat.div_div_eq_div_mul]
  rw [← testBit_shr, Nat.testBit_zero]
  generalize v / 2 ^ e = q
  by_cases h : q % 2 = 1
  · simp [h]; omega
  · simp [h]; omega
theorem turn_end (v m : Nat) : v / 2 ^ (m - m) = v := by simp
theorem turn_start (v m : Nat) (h : v < 2 ^ m) : v / 2 ^ (m - 0) = 0 := by rw [Nat.sub_zero]; exact Nat.div_eq_of_lt h

/-! ### steps of the call's own -/
theorem infoStep : (Try.prog.info? 29).map (fun i => (i.zero, i.size, i.bytes)) = some (some (.agg #[.int .i64 0, .int .i64 0, .int .u64 0, .slice none 0 0]), 4, 48) := by kernel_rfl
def StI (w wr : World) (a : Option Addr) (n c : Nat) (K : List StepM) : Prop :=
  Recs stepC wr 29 4 (.slice a n c) K ∧ K.length = n ∧ (∀ k, (Value.slice a n c).ownBlock = some k → w.heap.size ≤ k) ∧ Below w.heap.size w wr
theorem recs_came2 {α : Type} {f : α → List Value} {w : World} {e : TypeId} {size n cap : Nat} {a : Option Addr} {L : List α} (h : Recs f w e size (.slice a n cap) L) : CameAt f size w a n cap L := by
  obtain ⟨a', cap', hv, h1, h2⟩ := h.form
  simp only [Value.slice.injEq] at hv
  obtain ⟨rfl, rfl, rfl⟩ := hv
  refine ⟨rfl, h1, h2, h.1, ?_⟩
  by_cases hp : 0 < L.length
  · obtain ⟨g, cap2, hv, _, _, _⟩ := h.form' hp
    simp only [Value.slice.injEq] at hv
    obtain ⟨rfl, _, rfl⟩ := hv
    exact .inr ⟨_, rfl, fun i j x hi hj => by rw [Addr.add_mid, Nat.zero_add]; exact h.cellAt i j x hi hj⟩
  · rcases h.2.2.2 with ⟨hv, h0⟩ | ⟨g, cap2, cur, hv, _⟩
    · simp at hv; exact .inl ⟨hv.1, by omega, hv.2.2⟩
    · simp only [Value.slice.injEq] at hv
      obtain ⟨rfl, _, rfl⟩ := hv
      exact .inr ⟨_, rfl, fun i j x hi hj => by have := (List.getElem?_eq_some_iff.1 hi).1; omega⟩
theorem keep_recs {α : Type} {f : α → List Value} {e : TypeId} {size : Nat} {B : Nat} {w w' : World} {v : Value} {L : List α} (hk : KeepT B w w') (h : Recs f w e size v L) (he : e ≠ 5) (he2 : e ≠ 55)
    (hB : ∃ c, w.heap[B]? = some (.cells c 55 (0, 0))) : Recs f w' e size v L := by
  refine h.keep fun k hkk => ?_
  obtain ⟨cur, hc⟩ := h.blk k hkk
  obtain ⟨c, hB⟩ := hB
  rw [hc, hk k cur _ hc (h.ne_of hB he2 k hkk) he]
theorem StI.keepW {w wr w2 : World} {n0 B : Nat} {G : List Bool} {a : Option Addr} {n c : Nat} {K : List StepM} (h : StI w wr a n c K) (hB : ∃ c, wr.heap[B]? = some (.cells c 55 (0, 0))) (hk : WrK n0 B G wr w2) (hn : w.heap.size ≤ n0 := by omega) : StI w w2 a n c K :=
  ⟨keep_recs hk.2.2 h.1 (by decide) (by decide) hB, h.2.1, h.2.2.1, h.2.2.2.trans (hk.2.1.mono hn)⟩
theorem StI.below {w wr w' : World} {a : Option Addr} {n c : Nat} {K : List StepM} (h : StI w wr a n c K) (hb : Below wr.heap.size wr w') : StI w w' a n c K :=
  ⟨h.1.below hb, h.2.1, h.2.2.1, h.2.2.2.trans (hb.mono h.2.2.2.size)⟩
theorem StI.more {w wr w' : World} {a : Option Addr} {n cap : Nat} {v' : Value} {L M : List StepM} {o : Obj} (h : StI w wr a n cap L) (hr : Recs stepC w' 29 4 v' (L ++ M)) (hg : (wr.alloc o).grownBy w' (Value.slice a n cap).ownBlock)
    (hk : v'.ownBlock = (Value.slice a n cap).ownBlock ∨ v'.ownBlock = some (wr.alloc o).heap.size) : ∃ a' cap', v' = .slice a' (n + M.length) cap' ∧ StI w w' a' (n + M.length) cap' (L ++ M) := by
  obtain ⟨h1, h2, h3, h4⟩ := h
  obtain ⟨a', cap', hv, hc1, hc2⟩ := hr.form
  rw [List.length_append, h2] at hv
  subst hv
  refine ⟨a', cap', rfl, hr, by rw [List.length_append, h2], fun k hk2 => ?_, ?_⟩
  · rcases hk with hk | hk
    · rw [hk] at hk2; exact h3 k hk2
    · rw [hk] at hk2; injection hk2 with hk2; have := h4.size; simp at hk2; omega
  · exact (h4.alloc h4.size o).grown hg (by have := h4.size; simp; omega) h3
theorem built_step (X : Array Value) (hX : X.size = 4) : ∀ w : World, (Instr.buildSlice 22 1 #[(0, .agg X)]).run Try.prog w = .ok (.slice (some ⟨w.heap.size, 0, none⟩) 1 1) (w.alloc (.cells X 29)) := fun w => by
  obtain ⟨i0, hi, hz0, hz1, hz2⟩ := info_parts infoStep
  exact run_buildSlice_one w _ _ _ i0 _ 4 Try.underlying22 hi hz0 hz1 (by simp [hX]) (by omega) (by omega)
theorem step_cells {w : World} {g : Nat} {x : StepM} (h : w.heap[g]? = some (.cells (stepC x).toArray 29 (0, 0))) :
    w.cell? ⟨g, 0, none⟩ = some (.int .i64 x.act) ∧ w.cell? ⟨g, 1, none⟩ = some (.int .i64 x.n) ∧ w.cell? ⟨g, 2, none⟩ = some (.int .u64 (x.v : Int)) ∧ w.cell? ⟨g, 3, none⟩ = some (.slice x.a x.m x.c) ∧ w.rangeAt g 0 (stepC x) :=
  ⟨by rw [cell_of_row _ _ _ _ _ _ h]; rfl, by rw [cell_of_row _ _ _ _ _ _ h]; rfl, by rw [cell_of_row _ _ _ _ _ _ h]; rfl, by rw [cell_of_row _ _ _ _ _ _ h]; rfl, fun j v hj => by rw [Nat.zero_add, cell_of_row _ _ _ _ _ _ h]; simpa using hj⟩
/-- rows of steps grow: the writer stays -/
theorem WrS.grownSt {w wr : World} {n0 B : Nat} {G : List Bool} {v : Value} {K : List StepM} (h : WrS n0 w B G) (hb : Recs stepC w 29 4 v K) (hg : w.grownBy wr v.ownBlock) : WrS n0 wr B G := by
  obtain ⟨u, h1, h2, h3⟩ := h
  have hne : ∀ k, v.ownBlock = some k → k ≠ B := hb.ne_of h1.1 (by decide)
  refine ⟨u, ⟨(hg.block B h1.lt (fun e => hne B e.symm rfl)).trans h1.1, h1.2.keep fun k hk => hg.block k (h1.2.lt k hk) fun e => ?_⟩, h2, h3⟩
  obtain ⟨cur, hc⟩ := h1.2.blk k hk
  exact hb.ne_of hc (by decide) k e.symm rfl
end Go.Proofs.Ytkkjmkihehbomaa
