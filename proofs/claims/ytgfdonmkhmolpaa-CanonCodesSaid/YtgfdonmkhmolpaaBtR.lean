/-
  The document's own answers for layer 8 (hamperref08): Fits, Bits, Back, Whole, Number.
-/
import Derived.Test.YtgfdonmkhmolpaaBtC
import Derived.Test.YtgfdonmkhmolpaaCame
namespace Go.Proofs.Ytgfdonmkhmolpaa
open Go.RowKit
set_option linter.unusedVariables false
set_option linter.unusedSimpArgs false
set_option maxRecDepth 100000

theorem infoBo : (Try.prog.info? 4).map (fun i => (i.zero, i.size, i.bytes)) = some (some (.bool false), 1, 1) := by kernel_rfl
theorem boolC_one (b : Bool) : ∀ u ∈ boolC b, u.oneCell' = true := by
  intro u hu; simp only [boolC, List.mem_singleton] at hu; subst hu; rfl
abbrev BoO (w : World) (v : Value) (L : List Bool) := Recs boolC w 4 1 v L
/-- flags of the call's own, so far -/
def BoI (w wr : World) (a : Option Addr) (n cap : Nat) (L : List Bool) : Prop :=
  BoO wr (.slice a n cap) L ∧ L.length = n ∧ (∀ k, (Value.slice a n cap).ownBlock = some k → w.heap.size ≤ k) ∧ Below w.heap.size w wr
/-- flags that are handed out -/
def FreshBo (L : List Bool) (w : World) (e : Ending) (w' : World) : Prop := ∃ a n cap, e = .returned (.slice a n cap) ∧ BoI w w' a n cap L
theorem BoI.nil (w : World) : BoI w w none 0 0 [] := ⟨Recs.nil _ _ _ _, rfl, fun k hk => by simp [Value.ownBlock] at hk, Below.refl _ _⟩
theorem BoO.came {w : World} {a : Option Addr} {n cap : Nat} {L : List Bool} (h : BoO w (.slice a n cap) L) : BoolsAt w a n cap L := by
  obtain ⟨a', cap', hv, h1, h2⟩ := h.form
  simp only [Value.slice.injEq] at hv
  obtain ⟨rfl, rfl, rfl⟩ := hv
  refine ⟨rfl, h1, h2, h.1, ?_⟩
  by_cases hp : 0 < L.length
  · obtain ⟨g, cap2, hv, _, _, _⟩ := h.form' hp
    simp only [Value.slice.injEq] at hv
    obtain ⟨rfl, _, rfl⟩ := hv
    exact .inr ⟨_, rfl, fun i j x hi hj => by rw [Addr.add_mid, Nat.zero_add]; exact h.cellAt i j x hi hj⟩
  · rcases h.2.2.2 with ⟨hv, h0⟩ | ⟨g, cap2, cur, hv, _⟩
    · simp at hv; exact .inl ⟨hv.1, by omega, hv.2.2⟩
    · simp only [Value.slice.injEq] at hv
      obtain ⟨rfl, _, rfl⟩ := hv
      exact .inr ⟨_, rfl, fun i j x hi hj => by have := (List.getElem?_eq_some_iff.1 hi).1; omega⟩
theorem BoI.came {w wr : World} {a : Option Addr} {n cap : Nat} {L : List Bool} (h : BoI w wr a n cap L) : BoolsAt wr a n cap L := BoO.came h.1
/-- flags laid behind -/
theorem BoI.more {w wr w' : World} {a : Option Addr} {n cap : Nat} {v' : Value} {L M : List Bool} {o : Obj} (h : BoI w wr a n cap L) (hr : BoO w' v' (L ++ M)) (hg : (wr.alloc o).grownBy w' (Value.slice a n cap).ownBlock)
    (hk : v'.ownBlock = (Value.slice a n cap).ownBlock ∨ v'.ownBlock = some (wr.alloc o).heap.size) : ∃ a' cap', v' = .slice a' (n + M.length) cap' ∧ BoI w w' a' (n + M.length) cap' (L ++ M) := by
  obtain ⟨h1, h2, h3, h4⟩ := h
  obtain ⟨a', cap', hv, hc1, hc2⟩ := hr.form
  rw [List.length_append, h2] at hv
  subst hv
  refine ⟨a', cap', rfl, hr, by rw [List.length_append, h2], fun k hk2 => ?_, ?_⟩
  · rcases hk with hk | hk
    · rw [hk] at hk2; exact h3 k hk2
    · rw [hk] at hk2; injection hk2 with hk2; have := h4.size; simp at hk2; omega
  · exact (h4.alloc h4.size o).grown hg (by have := h4.size; simp; omega) h3
theorem BoI.more0 {w wr w' : World} {a : Option Addr} {n cap : Nat} {v' : Value} {L M : List Bool} (h : BoI w wr a n cap L) (hr : BoO w' v' (L ++ M)) (hg : wr.grownBy w' (Value.slice a n cap).ownBlock)
    (hk : v'.ownBlock = (Value.slice a n cap).ownBlock ∨ v'.ownBlock = some wr.heap.size) : ∃ a' cap', v' = .slice a' (n + M.length) cap' ∧ BoI w w' a' (n + M.length) cap' (L ++ M) := by
  obtain ⟨h1, h2, h3, h4⟩ := h
  obtain ⟨a', cap', hv, hc1, hc2⟩ := hr.form
  rw [List.length_append, h2] at hv
  subst hv
  refine ⟨a', cap', rfl, hr, by rw [List.length_append, h2], fun k hk2 => ?_, ?_⟩
  · rcases hk with hk | hk
    · rw [hk] at hk2; exact h3 k hk2
    · rw [hk] at hk2; injection hk2 with hk2; have := h4.size; omega
  · exact h4.grown hg h4.size h3
theorem BoI.below {w wr w' : World} {a : Option Addr} {n cap : Nat} {L : List Bool} (h : BoI w wr a n cap L) (hb : Below wr.heap.size wr w') : BoI w w' a n cap L :=
  ⟨h.1.below hb, h.2.1, h.2.2.1, h.2.2.2.trans (hb.mono h.2.2.2.size)⟩
theorem one_bool (w : World) (b : Bool) : ∀ j u, ([b].flatMap boolC)[j]? = some u → (w.alloc (.cells #[.bool b] 4)).cell? ((⟨w.heap.size, 0, none⟩ : Addr).add j) = some u :=
  one_rec (f := boolC) (x := b) (w := w.alloc (.cells #[.bool b] 4)) (B := w.heap.size) (t := 4) (fr := (0, 0)) (heap_alloc_new w _)

/-- Fits -/
theorem rfits_any (v m : Nat) (w : World) (hv : v < 18446744073709551616) (hm : m ≤ 64) :
    Calls Try.prog 22 #[.int .u64 v, .int .i64 m] w fun e w' => e = .returned (.bool (decide (v < 2 ^ m))) ∧ w = w' := by
  go_enter Try.func22, Try.ntmps22
  go_wp2
  go_loop [0, 5] (fun s0 s5 => ∃ k q : Nat, k ≤ m ∧ s5 = .int .i64 k ∧ s0 = .int .u64 q ∧ q = v / 2 ^ k) (fun _ s5 => m - (intOf s5).toNat)
  case atStart => exact ⟨0, v, Nat.zero_le _, rfl, rfl, by simp⟩
  case round =>
    obtain ⟨k, q, hk, rfl, rfl, hq⟩ := hrel
    have hq64 : q < 18446744073709551616 := by rw [hq]; exact Nat.lt_of_le_of_lt (Nat.div_le_self _ _) hv
    have HQ := Lib.hid hq
    clear hq
    by_cases hlt : k < m
    · go_wp2
      go_round
      case rel => exact ⟨k + 1, q / 2, by omega, by go_num, by go_num, by rw [HQ.out, Nat.div_div_eq_div_mul, Nat.pow_succ]⟩
      case measure => simp [intOf]; omega
    · obtain rfl : k = m := by omega
      go_wp2
      go_ret
      refine ⟨congrArg (fun x => Ending.returned (.bool x)) ?_, rfl⟩
      have hp : 0 < 2 ^ k := Nat.pow_pos (by omega)
      rw [Bool.eq_iff_iff, decide_eq_true_iff, beq_iff_eq, ← Nat.div_eq_zero_iff_lt hp, ← HQ.out]
      omega

set_option maxHeartbeats 1000000 in
/-- Bits -/
theorem rbits_any (v m : Nat) (w : World) (hv : v < 18446744073709551616) (hm : m ≤ 64) :
    Calls Try.prog 24 #[.int .u64 v, .int .i64 m] w (FreshBo (bitsL v m) w) := by
  obtain ⟨i0, hi, hz0, hz1, hz2⟩ := info_parts infoBo
  go_enter Try.func24, Try.ntmps24
  go_wp2
  go_loopw [0, 5, 6] (fun s0 s5 s6 wr => ∃ (k q : Nat) (a : Option Addr) (cap : Nat), k ≤ m ∧ s6 = .int .i64 k ∧ s0 = .int .u64 q ∧ s5 = .slice a k cap ∧ q = v / 2 ^ k ∧ BoI w wr a k cap (bitsL v k)) (fun _ _ s6 _ => m - (intOf s6).toNat)
  case atStart => exact ⟨0, v, none, 0, Nat.zero_le _, rfl, rfl, rfl, by simp, BoI.nil w⟩
  case round =>
    obtain ⟨k, q, a, cap, hk, rfl, rfl, rfl, hq, hI⟩ := hrel
    have hq64 : q < 18446744073709551616 := by rw [hq]; exact Nat.lt_of_le_of_lt (Nat.div_le_self _ _) hv
    have HQ := Lib.hid hq
    have HI := Lib.hid hI
    by_cases hlt : k < m
    · have hb : ((q : Int) % 2 == 1) = v.testBit k := by
        rw [← testBit_shr, ← hq, Nat.testBit_zero, Bool.eq_iff_iff, beq_iff_eq, decide_eq_true_iff]
        omega
      clear hq hI
      have HS := Lib.hid (bitsL_succ v k)
      generalize v.testBit k = b at *
      have HZ := Lib.hid (one_bool wr b)
      go_wp2_with (at_builtin; refine wpList_append_recs (f := boolC) rfl _ _ 42 rfl 4 i0 (.bool false) 1 1 Try.underlying42 hi hz0 hz1 hz2 rfl (by omega) _ (bitsL v k) rfl (HI.out.1.below ((Below.refl _ _).alloc (Nat.le_refl _) _)) ⟨wr.heap.size, 0, none⟩ 1 1 [b] rfl rfl (fun _ _ => rfl) (fun y _ => boolC_one y) HZ.out (by rw [HI.out.2.1]; unfold maxLen; omega) (by rw [HI.out.2.1]; omega) ?_; intro v' w' hr hg hbk; obtain ⟨a', cap', rfl, hI2⟩ := BoI.more HI.out hr hg hbk; have HI2 := Lib.hid hI2; clear hr hg hbk hI2)
      go_roundw
      case rel => exact ⟨k + 1, q / 2, a', cap', by omega, by go_num, by go_num, rfl, by rw [HQ.out, Nat.div_div_eq_div_mul, Nat.pow_succ], by rw [HS.out]; exact HI2.out⟩
      case measure => simp [intOf]; omega
    · obtain rfl : k = m := by omega
      clear hq hI
      go_wp2
      go_ret
      exact ⟨a, k, cap, rfl, HI.out⟩

/-- flags laid behind, whatever slice they come from -/
theorem wpList_append_bo {w : World} {ops : Array Oper} {rest : List Oper} {o : Oper} {a : Act} {Q : Exit → Act → World → Prop} (hgd : o.guard = none) (s x : Operand)
    (ho : o.op = .call { callee := .builtin .append, args := #[s, x], argTypes := #[42, 42] })
    (v : Value) (L : List Bool) (hs : a.eval s = v) (hown : BoO w v L) (sa : Option Addr) (m c : Nat) (M : List Bool) (hx : a.eval x = .slice sa m c) (hsrc : BoolsAt w sa m c M)
    (hb : L.length + m ≤ 140737488350000)
    (h : ∀ v' w', BoO w' v' (L ++ M) → w.grownBy w' v.ownBlock → (v'.ownBlock = v.ownBlock ∨ v'.ownBlock = some w.heap.size) → wpList Try.prog ops Q rest (a.put o.dst v') w') : wpList Try.prog ops Q (o :: rest) a w := by
  obtain ⟨i0, hi, hz0, hz1, hz2⟩ := info_parts infoBo
  obtain ⟨h1, h2, h3, h4, h5⟩ := hsrc
  rcases h5 with ⟨rfl, rfl, rfl⟩ | ⟨ad, rfl, hc⟩
  · obtain rfl : M = [] := List.eq_nil_of_length_eq_zero h1
    refine wpList_append_own_none hgd s x 42 ho 0 4 i0 1 Try.underlying42 hi v L.length (L.flatMap boolC) hs hown.2.2 hx ?_
    have := h v w (by simpa using hown) (World.grownBy.refl _ _) (.inl rfl)
    simpa using this
  · refine wpList_append_recs (f := boolC) hgd s x 42 ho 4 i0 (.bool false) 1 1 Try.underlying42 hi hz0 hz1 hz2 rfl (by omega) v L hs hown ad m c M hx h1 (fun _ _ => rfl) (fun y _ => boolC_one y) (fun j u hj => ?_) (by unfold maxLen; omega) (by omega) h
    have hl : (M.flatMap boolC).length = M.length * 1 := flatMap_len M (fun _ _ => rfl)
    have hj2 : j < M.length := by have := (List.getElem?_eq_some_iff.1 hj).1; omega
    have hq := hc j 0 _ (List.getElem?_eq_getElem hj2) (by omega)
    have hq2 := flatMap_at (f := boolC) (size := 1) M (fun _ _ => rfl) j 0 _ (List.getElem?_eq_getElem hj2) (by omega)
    rw [Nat.mul_one, Nat.add_zero] at hq hq2
    rw [hq, ← hq2, hj]

theorem one_came (w : World) (b : Bool) : BoolsAt (w.alloc (.cells #[.bool b] 4)) (some ⟨w.heap.size, 0, none⟩) 1 1 [b] := by
  refine ⟨rfl, Nat.le_refl _, by unfold maxLen; omega, fun _ _ => rfl, .inr ⟨_, rfl, fun i j y hi hj => ?_⟩⟩
  have h0 : i = 0 := by have := (List.getElem?_eq_some_iff.1 hi).1; simpa using this
  subst h0
  obtain rfl : j = 0 := by omega
  simp only [List.getElem?_cons_zero, Option.some.injEq] at hi
  subst hi
  exact one_bool w b 0 _ rfl

theorem bo_new (w : World) : BoI w (w.alloc (.cells #[] 4)) (some ⟨w.heap.size, 0, none⟩) 0 0 [] :=
  ⟨⟨by simp, by simp, rfl, .inr ⟨w.heap.size, 0, #[], rfl, Nat.zero_le _, heap_alloc_new w _, by simp, by simp, rfl, rfl⟩⟩, rfl, fun k hk => by simp [Value.ownBlock] at hk; omega, (Below.refl _ _).alloc (Nat.le_refl _) _⟩

set_option maxHeartbeats 1000000 in
/-- Back -/
theorem rback_any (sa : Option Addr) (m c : Nat) (L : List Bool) (w : World) (h : BoolsAt w sa m c L) (hm : m ≤ 1099511627776) :
    Calls Try.prog 23 #[.slice sa m c] w (FreshBo L.reverse w) := by
  obtain ⟨i0, hi, hz0, hz1, hz2⟩ := info_parts infoBo
  have hl := h.1
  have HL := Lib.hid hl
  have HH := Lib.hid h
  clear h hl
  go_enter Try.func23, Try.ntmps23
  go_wp2
  go_loopw [3, 4] (fun s3 s4 wr => ∃ (k : Nat) (a : Option Addr) (cap : Nat), k ≤ m ∧ s4 = .int .i64 ((m : Int) - 1 - k) ∧ s3 = .slice a k cap ∧ BoI w wr a k cap (L.reverse.take k)) (fun _ s4 _ => (intOf s4 + 1).toNat)
  case atStart => exact ⟨0, none, 0, Nat.zero_le _, by simp, rfl, BoI.nil w⟩
  case round =>
    obtain ⟨k, a, cap, hk, rfl, rfl, hI⟩ := hrel
    have HI := Lib.hid hI
    by_cases hlt : k < m
    · obtain ⟨b, off, rfl, _, hc⟩ := BoolsAt.cell (CameAt.below HH.out (by omega) hI.2.2.2) (by omega)
      obtain ⟨j, hj⟩ : ∃ j, j = m - 1 - k := ⟨_, rfl⟩
      have hji : (m : Int) - 1 - k = (j : Int) := by omega
      have hcj := hc j (by omega)
      have hjm : j < m := by omega
      have HS := Lib.hid (revTake L k (by rw [HL.out]; exact hlt))
      rw [HL.out, ← hj] at HS
      have HJ := Lib.hid hj
      rw [hji]
      clear hI hc hj hji
      generalize L.getD j false = x at *
      have HZ := Lib.hid (one_came wr x)
      go_wp2_with (at_builtin; refine wpList_append_bo rfl _ _ rfl _ (L.reverse.take k) rfl (HI.out.1.below ((Below.refl _ _).alloc (Nat.le_refl _) _)) (some ⟨wr.heap.size, 0, none⟩) 1 1 [x] rfl HZ.out (by rw [HI.out.2.1]; omega) ?_; intro v' w' hr hg hbk; obtain ⟨a', cap', rfl, hI2⟩ := BoI.more HI.out hr hg hbk; have HI2 := Lib.hid hI2; clear hr hg hbk hI2)
      go_roundw
      case rel => exact ⟨k + 1, a', cap', by omega, by have := HJ.out; congr 1; omega, rfl, by rw [HS.out]; exact HI2.out⟩
      case measure => simp [intOf]
    · obtain rfl : k = m := by omega
      have hneg : (k : Int) - 1 - k = -1 := by omega
      rw [hneg]
      rw [List.take_of_length_le (by rw [List.length_reverse, HL.out]; omega)] at HI
      clear hI hneg
      go_wp2
      go_ret
      exact ⟨a, k, cap, rfl, HI.out⟩
end Go.Proofs.Ytgfdonmkhmolpaa
