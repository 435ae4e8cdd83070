/-
  What the laws of layer 5 ask: one contract a function, whatever space comes; the arguments opened.
-/
import Derived.Test.YtcmhijhoemcdcaaAwake05
import Derived.Test.YtcmhijhoemcdcaaOpen
import Derived.BigFrame
namespace Go.Proofs.Ytcmhijhoemcdcaa
open Go.ChangeShapes Go.WideShapes Go.ChangeAt Go.RowKit
set_option linter.unusedVariables false
set_option linter.unusedSimpArgs false
set_option maxRecDepth 100000

theorem ivals_eq (P : List Nat) : ivals P = (P.map Int.ofNat).map fun z => .int .i64 z := by simp [ivals]
def zvals (L : List Int) : List Value := L.map fun z => .int .i64 z
theorem zvals_one (l : List Int) : ∀ u ∈ zvals l, u.oneCell' = true := by
  intro u hu
  simp only [zvals, List.mem_map] at hu
  obtain ⟨b, _, rfl⟩ := hu
  rfl
theorem zints_owned {w : World} {base n cap : Nat} {a : Option Addr} {L : List Int} {t : TypeId} (h : w.ownsRow base t 1 (.slice a n cap) n (zvals L)) : IntsAt w a n cap L := came_owned h
/-- ints laid behind a row of the call's own, whatever slice they come from; the operation may stand behind a guard -/
theorem wpList_append_intsG {w : World} {ops : Array Oper} {rest : List Oper} {o : Oper} {a : Act} {Q : Exit → Act → World → Prop} (hw : Region.wanted o (yielded ops a.tmps) = true) (s x : Operand)
    (ho : o.op = .call { callee := .builtin .append, args := #[s, x], argTypes := #[34, 34] })
    (base : Nat) (v : Value) (n : Nat) (xs : List Value) (hs : a.eval s = v) (hown : w.ownsRow base 3 1 v n xs)
    (sa : Option Addr) (m c : Nat) (l : List Int) (hx : a.eval x = .slice sa m c) (hsrc : IntsAt w sa m c l) (N : Nat) (hN : N = n + m)
    (h63 : N * 8 ≤ 140737488355328) (hbase : base ≤ w.heap.size)
    (h : ∀ a' cap' w', w'.ownsRow base 3 1 (.slice a' N cap') N (xs ++ zvals l) → w.grownBy w' v.ownBlock → wpList Try.prog ops Q rest (a.put o.dst (.slice a' N cap')) w') : wpList Try.prog ops Q (o :: rest) a w := by
  refine Go.BigFrame.wpList_want hw fun K hK => ?_
  obtain ⟨i0, hi, hz0, hz1, hz2⟩ := info_parts infoInt
  subst hN
  obtain ⟨h1, h2, h3, h5, h4⟩ := hsrc
  rcases h4 with ⟨rfl, rfl, rfl⟩ | ⟨ad, rfl, hc⟩
  · have : l = [] := List.eq_nil_of_length_eq_zero h1
    subst this
    have hrun := run_append_owned_none (P := Try.prog) (w := w) base 34 o.type 3 i0 1 Try.underlying34 hi v n xs hown
    unfold Oper.wp
    simp [execOp, ho, resolve, invoke, builtin, hs, hx, hrun, Result.andThen]
    rw [Oper.upon_value]
    obtain ⟨a', cap', rfl⟩ := owned_shape hown
    have := h a' cap' w (by simpa [zvals] using hown) (World.grownBy.refl _ _)
    exact hK _ _ (by simpa using this)
  · subst h1
    refine wp_append_own w s x 34 ho base 3 i0 (.int .i64 0) 1 8 Try.underlying34 hi hz0 hz1 hz2 rfl (by decide) v n xs hs hown ad l.length c (zvals l) hx (by simp [zvals]) ?_ (zvals_one l) (by unfold maxLen; omega) (by omega) hbase ?_
    · intro j u hj
      have hj' : j < l.length := by
        have := (List.getElem?_eq_some_iff.1 hj).1
        simpa [zvals] using this
      have := hc j 0 l[j] (List.getElem?_eq_getElem hj') (by omega)
      rw [Nat.mul_one, Nat.add_zero] at this
      rw [this, ← hj]
      simp [intC, zvals, List.getElem?_eq_getElem hj']
    · intro v' w' ho' hg' _
      obtain ⟨a', cap', rfl⟩ := owned_shape ho'
      exact hK _ _ (h a' cap' w' ho' hg')
theorem build_ints (u : World) : (Instr.buildSlice 34 0 #[]).run Try.prog u = .ok (.slice (some ⟨u.heap.size, 0, none⟩) 0 0) (u.alloc (.cells #[] 3)) := by
  obtain ⟨i0, hi, hz0, hz1, hz2⟩ := info_parts infoInt
  simp [Instr.buildSlice, run_underlying Try.underlying34, sizeOf, typeInfo, hi, Instr.fill, newRow, Array.range_zero']

def takeU (N : Int) (l : List UInt8) (k : Int) : List Bool × List Nat × Int := if mayS N l then takeR (flagsL N.toNat l) k else ([], [], 1)
def giveU (N : Int) (l : List UInt8) (L : List Int) : Option (List Bool) × Int := if mayS N l then turnF true 6 (flagsL N.toNat l) L else (none, 1)
def markU (N : Int) (l : List UInt8) (L : List Int) : Option (List Bool) × Int := if mayS N l then turnF false 15 (flagsL N.toNat l) L else (none, 1)

theorem sp_of_may {N : Int} {l : List UInt8} (h : mayS N l = true) {w : World} {a : Option Addr} {n cap : Nat} (hb : BytesAt w a n cap l) : SpAt w N a n cap (flagsL N.toNat l) := by
  obtain ⟨F, hF, rfl, rfl⟩ := (mayS_iff N l).1 h
  rw [Int.toNat_natCast, flags_pack]
  exact ⟨hF, rfl, hb⟩
theorem may_len2 {N : Int} {l : List UInt8} (h : mayS N l = true) : N.toNat ≤ 2048 ∧ 0 ≤ N := by
  obtain ⟨F, hF, rfl, rfl⟩ := (mayS_iff N l).1 h
  omega

section
variable {u : World} {N : Int} {a : Option Addr} {n cap : Nat} {F : List Bool} {l : List UInt8}
theorem take_at (h : SpAt u N a n cap F) (k : Int) : Calls Try.prog 18 #[.agg #[.int .i64 N, .slice a n cap], .int .i64 k] u (TakeRd (takeR F k) u) := by
  by_cases hk : k < 0
  · have e : takeR F k = ([], [], 1) := by rw [takeR, if_pos hk]
    rw [e]
    exact take_rd (by simp) (take_neg N k a n cap F u h hk)
  · exact take_rd (takeR_len F k h.len) (take_ok N k a n cap F u h (by omega))
theorem take_gen (h : BytesAt u a n cap l) (k : Int) : Calls Try.prog 18 #[.agg #[.int .i64 N, .slice a n cap], .int .i64 k] u (TakeRd (takeU N l k) u) := by
  unfold takeU
  cases hm : mayS N l with
  | true => rw [if_pos rfl]; exact take_at (sp_of_may hm h) k
  | false => rw [if_neg (by simp)]; exact take_rd (by simp) (take_no N k a n cap l u h hm)
theorem give_at (h : SpAt u N a n cap F) {la : Option Addr} {ln lc : Nat} {L : List Int} (hl : IntsAt u la ln lc L) : Calls Try.prog 19 #[.agg #[.int .i64 N, .slice a n cap], .slice la ln lc] u
    (SpRd (fun v => .tuple #[v, .int .i64 (turnF true 6 F L).2]) ((turnF true 6 F L).1.getD []) u) := sp_rd (turnF_getD _ _ _ _ h.len) (give_ok N a n cap F la ln lc L u h hl)
theorem give_gen (h : BytesAt u a n cap l) {la : Option Addr} {ln lc : Nat} {L : List Int} (hl : IntsAt u la ln lc L) : Calls Try.prog 19 #[.agg #[.int .i64 N, .slice a n cap], .slice la ln lc] u
    (SpRd (fun v => .tuple #[v, .int .i64 (giveU N l L).2]) ((giveU N l L).1.getD []) u) := by
  unfold giveU
  cases hm : mayS N l with
  | true => rw [if_pos rfl]; exact give_at (sp_of_may hm h) hl
  | false => rw [if_neg (by simp)]; exact sp_rd (by simp) (give_no N a n cap l _ u h hm)
theorem mark_gen (h : BytesAt u a n cap l) {la : Option Addr} {ln lc : Nat} {L : List Int} (hl : IntsAt u la ln lc L) : Calls Try.prog 20 #[.agg #[.int .i64 N, .slice a n cap], .slice la ln lc] u
    (SpRd (fun v => .tuple #[v, .int .i64 (markU N l L).2]) ((markU N l L).1.getD []) u) := by
  unfold markU
  cases hm : mayS N l with
  | true => rw [if_pos rfl]; exact sp_rd (turnF_getD _ _ _ _ (sp_of_may hm h).len) (mark_ok N a n cap _ la ln lc L u (sp_of_may hm h) hl)
  | false => rw [if_neg (by simp)]; exact sp_rd (by simp) (mark_no N a n cap l _ u h hm)
/-- what is used, of any space -/
def FU (N : Int) (l : List UInt8) : List Bool := if mayS N l then flagsL N.toNat l else []
theorem count_gen (h : BytesAt u a n cap l) : Calls Try.prog 13 #[.agg #[.int .i64 N, .slice a n cap]] u fun e w' => e = .returned (.int .i64 ((FU N l).count true : Nat)) ∧ Below u.heap.size u w' := by
  unfold FU
  cases hm : mayS N l with
  | true => rw [if_pos rfl]; exact count_ok N a n cap _ u (sp_of_may hm h)
  | false => rw [if_neg (by simp)]; exact count_no N a n cap l u h hm
theorem used_at (h : SpAt u N a n cap F) (p : Int) : Calls Try.prog 14 #[.agg #[.int .i64 N, .slice a n cap], .int .i64 p] u fun e w' => e = .returned (.bool (decide (0 ≤ p) && F.getD p.toNat false)) ∧ Below u.heap.size u w' := used_ok p N a n cap F u h
theorem used_gen (h : BytesAt u a n cap l) (p : Int) : Calls Try.prog 14 #[.agg #[.int .i64 N, .slice a n cap], .int .i64 p] u fun e w' => e = .returned (.bool (decide (0 ≤ p) && (FU N l).getD p.toNat false)) ∧ Below u.heap.size u w' := by
  unfold FU
  cases hm : mayS N l with
  | true => rw [if_pos rfl]; exact used_ok p N a n cap _ u (sp_of_may hm h)
  | false =>
    rw [if_neg (by simp)]
    have := used_no N p a n cap l u h hm
    unfold spV at this
    simpa using this
def IntsRd (P : List Nat) (u : World) (e : Ending) (w' : World) : Prop := ∃ a cap, e = .returned (.slice a P.length cap) ∧ IntsAt w' a P.length cap (P.map Int.ofNat) ∧ Below u.heap.size u w'
theorem free_gen (h : BytesAt u a n cap l) : Calls Try.prog 16 #[.agg #[.int .i64 N, .slice a n cap]] u (IntsRd (frees (FU N l)) u) := by
  have key : ∀ P, Calls Try.prog 16 #[.agg #[.int .i64 N, .slice a n cap]] u (FreshI P u) → Calls Try.prog 16 #[.agg #[.int .i64 N, .slice a n cap]] u (IntsRd P u) :=
    fun P hh => hh.mono fun _ _ ⟨av, cv, he, ho, hb⟩ => ⟨av, cv, he, ints_owned ho, hb⟩
  unfold FU
  cases hm : mayS N l with
  | true => rw [if_pos rfl]; exact key _ (free_ok N a n cap _ u (sp_of_may hm h))
  | false => rw [if_neg (by simp)]; exact key _ (free_no N a n cap l u h hm)
theorem may_gen (h : BytesAt u a n cap l) : Calls Try.prog 12 #[.agg #[.int .i64 N, .slice a n cap]] u fun e w' => e = .returned (.bool (mayS N l)) ∧ Below u.heap.size u w' := may_any N a n cap l u h
theorem few_gen (h : BytesAt u a n cap l) : Calls Try.prog 7 #[.agg #[.int .i64 N, .slice a n cap]] u fun e w' => e = .returned (.agg #[.int .i64 N, .slice a (min n 258) cap]) ∧ Below u.heap.size u w' := few_any N a n cap l u h
end

section
variable {H : Type} {enc : TypeId × Value → H} {W : World} {base : Nat} {sp : Nat → Bool} {held : Bool}
theorem open_space {r : Reach} {b0 : Nat} {v : Value} {d : DataW H} {p : List MemPlace} (hv : Value.okWide Try.prog W r b0 24 v) (h : DataW.Trod enc Try.prog W base sp held 24 v d p) :
    ∃ N a n cap l, v = .agg #[.int .i64 N, .slice a n cap] ∧ BytesAt W a n cap l := by
  obtain ⟨cs, n, rfl, hlen, hf⟩ := fields_of Try.underlying24 hv h
  have hc2 : Try.prog.cellsOf 24 = 2 := by kernel_rfl
  have kb : Try.prog.cellsOf 22 = 1 := by kernel_rfl
  have ki : Try.prog.cellsOf 3 = 1 := by kernel_rfl
  rw [hc2] at hlen
  match cs, hlen with
  | [c0, c1], _ =>
    obtain ⟨y0, f0⟩ : ∃ y, DataW.trod enc Try.prog W base sp held n 3 (([c0, c1].drop 0).take (Try.prog.cellsOf 3)) = some y := hf 0 _ rfl
    obtain ⟨y1, f1⟩ : ∃ y, DataW.trod enc Try.prog W base sp held n 22 (([c0, c1].drop 1).take (Try.prog.cellsOf 22)) = some y := hf 1 _ rfl
    rw [ki] at f0
    rw [kb] at f1
    obtain ⟨N, e0, _, _⟩ := DataW.trod_int Try.underlying3 f0
    obtain ⟨a, m, cap, l, e1, hl⟩ := trod_bytes f1
    simp at e0 e1
    subst e0 e1
    exact ⟨N, a, m, cap, l, rfl, hl⟩
theorem open_intsAt {r : Reach} {b0 : Nat} {v : Value} {d : DataW H} {p : List MemPlace} (hv : Value.okWide Try.prog W r b0 34 v) (h : DataW.Trod enc Try.prog W base sp held 34 v d p) :
    ∃ a n cap L, v = .slice a n cap ∧ IntsAt W a n cap L := by
  obtain ⟨a, len, cap, rfl⟩ := okWide_slice Try.underlying34 hv
  obtain ⟨fuel, hf⟩ := h
  rcases open_ints Try.underlying34 Try.underlying3 (by kernel_rfl) hf with ⟨hcs, _⟩ | ⟨x, l, c, zs, hcs, _, hl, hm, hz, _, hcell, hwz⟩
  · simp [Value.cells] at hcs
    obtain ⟨rfl, rfl, rfl⟩ := hcs
    exact ⟨_, _, _, [], rfl, CameAt.nil _ _ _⟩
  · simp [Value.cells] at hcs
    obtain ⟨rfl, rfl, rfl⟩ := hcs
    refine ⟨_, _, _, zs.take len, rfl, by simp; split at hz <;> omega, hl, hm, by simp [intC], .inr ⟨_, rfl, fun i j z hi hj => ?_⟩⟩
    obtain rfl : j = 0 := by omega
    rw [Nat.mul_one, Nat.add_zero]
    have hil : i < (zs.take len).length := (List.getElem?_eq_some_iff.1 hi).1
    have hil2 : i < zs.length := by simp at hil; omega
    have hil3 : i < len := by simp at hil; omega
    rw [hcell i hil2]
    rw [List.getElem?_take_of_lt hil3, List.getElem?_eq_getElem hil2] at hi
    simp only [Option.some.injEq] at hi
    simp [intC, ← hi, List.getD, List.getElem?_eq_getElem hil2]
end

end Go.Proofs.Ytcmhijhoemcdcaa
