/-
  A piece of the proof, laid together by program: OctCon TrA TrB SpA SpB.
-/
import Derived.Test.YtjcmphjjkeigjaaGreatPbA
import Derived.Test.YtjcmphjjkeigjaaGreatPbB
import Derived.Test.YtjcmphjjkeigjaaGreatPbC
import Derived.Test.YtjcmphjjkeigjaaGreatPbE
import Derived.Laws.CopyOwn
import Derived.Lib.AppendZeros
import Derived.Deep.MidRow
import Derived.Deep.QuietTactic
import Derived.BigQuiet
import Derived.StillTailTactics
import Derived.Deep.WholeRow
import Derived.Deep.DeepCutAuto
import Derived.Lib.SliceRun
import Derived.Laws.BitsAllLaws
import Derived.Lib.Strings
import Derived.Lib.Slices
import Derived.Lib.Small
import Derived.Lib.Walk
import Derived.Lib.BitFns

namespace Go.Proofs.YtjcmphjjkeigjaaGreat
open Go.RowKit
set_option linter.unusedVariables false
set_option linter.unusedSimpArgs false

theorem mayWidth_yes (n : Int) (w : World) (h1 : 1 ≤ n) (h2 : n ≤ 8) : Calls Tryz.prog 188 #[.int .i64 n] w fun e w' => e = .returned (.bool true) ∧ w = w' := by
  go_enter Tryz.func188, Tryz.ntmps188
  go_wp2
  go_ret
  exact ⟨rfl, rfl⟩

theorem mayWidth_no (n : Int) (w : World) (h1 : n < 1 ∨ 8 < n) : Calls Tryz.prog 188 #[.int .i64 n] w fun e w' => e = .returned (.bool false) ∧ w = w' := by
  rcases h1 with h1 | h1
  · go_enter Tryz.func188, Tryz.ntmps188
    go_wp2
    go_ret
    exact ⟨rfl, rfl⟩
  · go_enter Tryz.func188, Tryz.ntmps188
    go_wp2
    go_ret
    exact ⟨by simp; omega, rfl⟩

theorem shr_zero (v wd : Nat) (hv : v < 256 ^ wd) : ((v : Int) / 2 ^ (8 * wd) != 0) = false := by
  rw [pow256] at hv
  have : (v : Int) / 2 ^ (8 * wd) = ((v / 2 ^ (8 * wd) : Nat) : Int) := by simp
  rw [this, Nat.div_eq_of_lt hv]; rfl
theorem put_ok (v wd : Nat) (w : World) (h1 : 1 ≤ wd) (h2 : wd ≤ 8) (hv : v < 256 ^ wd) :
    Calls Tryz.prog 175 #[.int .u64 v, .int .i64 wd] w (FreshB (fun s => .tuple #[s, .int .i64 0]) wd (leB wd v) w) := by
  obtain ⟨i0, hi, hz0, hz1, hz2⟩ := info_parts infoU8
  have hx := shr_zero v wd hv
  have hb1 : Hid (i0.bytes * wd ≤ 281474976710656) := by unfold Hid; rw [hz2]; omega
  have hb2 : Hid (wd ≤ maxLen) := by unfold Hid maxLen; omega
  go_enter Tryz.func175, Tryz.ntmps175
  go_wp2_with (first
   | (go_at_call 188; refine (mayWidth_yes _ _ (by omega) (by omega)).mono ?_; rintro e w' ⟨rfl, rfl⟩)
   | (at_make; refine wpList_make_full _ rfl _ _ 49 rfl w.heap.size 5 i0 (.int .u8 0) 1 Tryz.underlying49 hi hz0 hz1 .i64 .i64 _ _ wd rfl rfl rfl rfl hb1.out hb2.out (Nat.le_refl _) ?_; intro w1 hown hgrow))
  go_loopw [19] (fun i wr => ∃ k : Nat, k ≤ wd ∧ i = .int .i64 k ∧ wr.ownsRow w.heap.size 5 1 (.slice (some ⟨w.heap.size, 0, none⟩) wd wd) wd (vals ((leB wd v).take k) ++ List.replicate (wd - k) (.int .u8 0)) ∧ Below w.heap.size w wr) (fun i _ => wd - (intOf i).toNat)
  case atStart =>
    refine ⟨0, by omega, rfl, ?_, (Below.refl _ _).grown hgrow (Nat.le_refl _) (fun k hk => by cases hk)⟩
    have e : (madeCells (Value.int IntKind.u8 0).cells (wd * 1)).toList = vals ((leB wd v).take 0) ++ List.replicate (wd - 0) (.int .u8 0) := by
      have := toList_madeCells_one (.int .u8 0) wd
      simpa [Value.cells, vals] using this
    rw [← e]; exact hown
  case round =>
    obtain ⟨k, hk, rfl, ho, hb⟩ := hrel
    by_cases hlt : k < wd
    · have hc : wr.cell? ⟨w.heap.size, k, none⟩ = some (.int .u8 0) := by
        rw [World.ownsRow.cellAt ho k (by omega)]
        exact fill_at _ _ _ _ (leB_length _ _) hlt
      have hf : wr.frozen? ⟨w.heap.size, k, none⟩ = false := World.ownsRow.frozenAt ho k
      go_wp2
      refine ⟨⟨k + 1, by omega, by go_num, ?_, hb.setCell (Nat.le_refl _) _⟩, by simp [intOf]; omega⟩
      have hs := (World.ownsRow.stored ho k (.int .u8 (↑v / 2 ^ (8 * k) % 256))).1
      rw [fill_set (leB wd v) k wd _ _ (leB_length _ _) hlt ?_] at hs
      · exact hs
      · rw [leB_getD wd v k hlt, pow256]
        simp
    · go_wp2
      go_ret2
      have : k = wd := by omega
      subst this
      refine ⟨_, _, rfl, ?_, hb⟩
      simpa [List.take_of_length_le (Nat.le_of_eq (leB_length k v))] using ho

/-- 'copy' of octets onto the head of a row of the call's own -/
theorem wpList_copy_head {w : World} {ops : Array Oper} {rest : List Oper} {o : Oper} {a : Act} {Q : Exit → Act → World → Prop} (hgd : o.guard = none) (d s : Operand)
    (ho : o.op = .call { callee := .builtin .copy, args := #[d, s], argTypes := #[49, 49] })
    (base g m cap : Nat) (xs : List Value) (hown : w.ownsRow base 5 1 (.slice (some ⟨g, 0, none⟩) m cap) m xs) (hd : a.eval d = .slice (some ⟨g, 0, none⟩) m cap)
    (sa : Option Addr) (n c : Nat) (l : List UInt8) (hs : a.eval s = .slice sa n c) (hsrc : BytesAt w sa n c l) (hn : n ≤ m)
    (h : ∀ w', w'.ownsRow base 5 1 (.slice (some ⟨g, 0, none⟩) m cap) m (vals l ++ xs.drop n) → w.grownBy w' (some g) → wpList Tryz.prog ops Q rest (a.put o.dst (goInt n)) w') :
    wpList Tryz.prog ops Q (o :: rest) a w := by
  have hsz : (Tryz.prog.info? 5).map (·.size) = some 1 := by
    obtain ⟨i0, hi, hz0, hz1, hz2⟩ := info_parts infoU8
    rw [hi]; simp [hz1]
  obtain ⟨h1, h2, h3, h4⟩ := hsrc
  rcases h4 with ⟨rfl, rfl, rfl⟩ | ⟨ad, rfl, hc⟩
  · have : l = [] := List.eq_nil_of_length_eq_zero h1
    subst this
    refine wpList_copy_nothing hgd d s _ _ ho 5 Tryz.underlying49 hsz _ _ _ _ _ _ hd hs (by simp) ?_
    exact h w (by simpa [vals] using hown) (World.grownBy.refl _ _)
  · rcases hown.2 with ⟨h', _⟩ | ⟨g', cap', cur, h', hb, hg, hmc, hcm, hcs, htake⟩
    · simp at h'
    simp only [Value.slice.injEq, Option.some.injEq, Addr.mk.injEq, and_true, true_and] at h'
    obtain ⟨rfl, rfl⟩ := h'
    have hcur : cur.size = cap := by simpa using hcs
    refine wpList_copy_own hgd d s _ _ ho 5 Tryz.underlying49 hsz g 0 m cap ad n c hd hs cur 5 hg (vals l) ?_ ?_ ?_ (mem_vals_oneCell l) ?_
    · rw [vals_length, h1]; exact (Nat.min_eq_left hn).symm
    · intro j u hj
      have hj' : j < l.length := by
        have := (List.getElem?_eq_some_iff.1 hj).1
        simpa [vals_length] using this
      rw [hc j (by omega), ← vals_at l j hj', hj]
    · rw [vals_length]; omega
    · rw [vals_length, h1]
      refine h _ ⟨?_, .inr ⟨g, cap, _, rfl, hb, setRow_heap w g cur _ _ _ hg, hmc, hcm, ?_, ?_⟩⟩ ⟨rfl, rfl, rfl, by simp [World.setRow], fun k _ hk => setRow_other w g k _ (fun e => hk (by rw [e]))⟩
      · have := hown.1
        simp only [Nat.mul_one] at this
        simp [vals_length, this]; omega
      · simp [vals_length]; omega
      · have hx : xs = cur.toList.take m := by simpa using htake.symm
        subst hx
        have hv : (vals l).length = n := by rw [vals_length, h1]
        simp only [List.take_zero, List.nil_append, Nat.zero_add, Nat.mul_one]
        rw [List.take_append, hv, List.take_of_length_le (by omega), List.drop_take]

set_option maxRecDepth 100000 in
theorem pad_full (a : Option Addr) (n cap : Nat) (m : Nat) (w : World) (h1 : m ≤ 1048576) (h2 : m < n) :
    Calls Tryz.prog 142 #[.slice a n cap, .int .i64 m] w fun e w' => e = .returned (.tuple #[.slice none 0 0, .int .i64 5]) ∧ w = w' := by
  go_enter Tryz.func142, Tryz.ntmps142
  go_wp2
  go_ret2
  exact ⟨rfl, rfl⟩

set_option maxRecDepth 100000 in
theorem pad_ok (a : Option Addr) (n cap : Nat) (l : List UInt8) (m : Nat) (w : World) (h1 : m ≤ 1048576) (h2 : n ≤ m) (hl : BytesAt w a n cap l) :
    Calls Tryz.prog 142 #[.slice a n cap, .int .i64 m] w (FreshB (fun v => .tuple #[v, .int .i64 0]) m (l ++ List.replicate (m - n) 0) w) := by
  obtain ⟨i0, hi, hz0, hz1, hz2⟩ := info_parts infoU8
  have hb1 : Hid (i0.bytes * m ≤ 281474976710656) := by unfold Hid; rw [hz2]; omega
  have hb2 : Hid (m ≤ maxLen) := by unfold Hid maxLen; omega
  go_enter Tryz.func142, Tryz.ntmps142
  go_wp2_with (first
   | (at_make; refine wpList_make_full _ rfl _ _ 49 rfl w.heap.size 5 i0 (.int .u8 0) 1 Tryz.underlying49 hi hz0 hz1 .i64 .i64 _ _ m rfl rfl rfl rfl hb1.out hb2.out (Nat.le_refl _) ?_; intro w1 hown hgrow)
   | (with_reducible refine wpList_copy_head (o := ⟨some 21, _, _, _, _, _⟩) rfl (.tmp 19) (.tmp 20) rfl w.heap.size w.heap.size m m _ hown rfl a n cap l rfl (hl.below ((Below.refl _ _).grown hgrow (Nat.le_refl _) (fun k hk => by cases hk))) h2 ?_; intro w2 ho2 hg2))
  go_ret2
  refine ⟨_, _, rfl, ?_, ((Below.refl _ _).grown hgrow (Nat.le_refl _) (fun k hk => by cases hk)).grown hg2 hgrow.size (fun k hk => by cases hk; exact Nat.le_refl _)⟩
  have e : (madeCells (Value.int IntKind.u8 0).cells (m * 1)).toList = List.replicate m (.int .u8 0) := by
    have := toList_madeCells_one (.int .u8 0) m
    simpa [Value.cells] using this
  rw [e] at ho2
  simpa [vals] using ho2

theorem num_arg (a : Option Addr) (n cap : Nat) (at_ wd : Int) (w : World) (h : wd < 1 ∨ 8 < wd) :
    Calls Tryz.prog 165 #[.slice a n cap, .int .i64 at_, .int .i64 wd] w fun e w' => e = .returned (.tuple #[.int .u64 0, .int .i64 1]) ∧ w = w' := by
  go_enter Tryz.func165, Tryz.ntmps165
  go_wp2_with (go_at_call 188; refine (mayWidth_no _ _ h).mono ?_; rintro e w' ⟨rfl, rfl⟩)
  go_ret2
  exact ⟨rfl, rfl⟩

theorem num_short (a : Option Addr) (n cap at_ wd : Nat) (w : World) (h1 : 1 ≤ wd) (h2 : wd ≤ 8) (h3 : at_ ≤ n) (h : n < at_ + wd) (hm : n ≤ 9223372036854775807) :
    Calls Tryz.prog 165 #[.slice a n cap, .int .i64 at_, .int .i64 wd] w fun e w' => e = .returned (.tuple #[.int .u64 0, .int .i64 2]) ∧ w = w' := by
  have h4 : (n : Int) - at_ < wd := by omega
  go_enter Tryz.func165, Tryz.ntmps165
  go_wp2_with (go_at_call 188; refine (mayWidth_yes _ _ (by omega) (by omega)).mono ?_; rintro e w' ⟨rfl, rfl⟩)
  go_ret2
  exact ⟨rfl, rfl⟩

theorem num_ok (a : Option Addr) (n cap : Nat) (l : List UInt8) (at_ wd : Nat) (w : World) (h1 : 1 ≤ wd) (h2 : wd ≤ 8) (h3 : at_ + wd ≤ n) (hl : BytesAt w a n cap l) :
    Calls Tryz.prog 165 #[.slice a n cap, .int .i64 at_, .int .i64 wd] w fun e w' => e = .returned (.tuple #[.int .u64 (le ((l.drop at_).take wd)), .int .i64 0]) ∧ w = w' := by
  obtain ⟨b, off, rfl, hc⟩ := hl.at (by omega)
  have hln : l.length = n := hl.1
  have hmax : n ≤ 9223372036854775807 := by have := hl.2.1; have := hl.2.2.1; unfold maxLen at this; omega
  have HL := Lib.hid hln
  have H := Lib.hid hc
  clear hc hln hl
  go_enter Tryz.func165, Tryz.ntmps165
  go_wp2_with (go_at_call 188; refine (mayWidth_yes _ _ (by omega) (by omega)).mono ?_; rintro e w' ⟨rfl, rfl⟩)
  go_loop [8, 28] (fun v i => ∃ k : Nat, k ≤ wd ∧ i = .int .i64 k ∧ v = .int .u64 (le ((l.drop at_).take k))) (fun _ i => wd - (intOf i).toNat)
  case atStart => exact ⟨0, by omega, rfl, rfl⟩
  case round =>
    obtain ⟨k, hk, rfl, rfl⟩ := hrel
    by_cases hlt : k < wd
    · have hc : w.cell? ⟨b, off + (at_ + k), none⟩ = some (.int .u8 (l.getD (at_ + k) 0).toNat) := H.out (at_ + k) (by omega)
      have hidx : (at_ : Int) + k < n := by omega
      go_wp2
      refine ⟨⟨k + 1, by omega, by go_num, ?_⟩, by simp [intOf]; omega⟩
      congr 1
      have hll := HL.out
      have e1 : (l.drop at_).getD k 0 = l.getD (at_ + k) 0 := by simp [List.getD, List.getElem?_drop]
      have hlen : ((l.drop at_).take k).length = k := by simp; omega
      have hx : le ((l.drop at_).take k) < 256 ^ k := by
        have := le_lt ((l.drop at_).take k)
        rwa [hlen] at this
      rw [le_take_succ _ _ (by simp; omega), e1]
      exact or_octet _ _ k (by omega) hx (UInt8.toNat_lt _)
    · have : k = wd := by omega
      subst this
      go_wp2
      go_ret2
      exact ⟨rfl, rfl⟩

end Go.Proofs.YtjcmphjjkeigjaaGreat

namespace Go.Proofs.YtjcmphjjkeigjaaGreat
open Go.RowKit
set_option linter.unusedVariables false
set_option linter.unusedSimpArgs false
set_option maxRecDepth 100000

theorem number_any (v wd : Nat) (w : World) (h1 : 1 ≤ wd) (h2 : wd ≤ 8) (hv : v < 256 ^ wd) :
    Calls Tryz.prog 203 #[.int .u64 v, .int .i64 wd] w (FreshB id wd (leB wd v) w) := by
  have CP := Lib.hid (put_ok v wd w h1 h2 hv)
  clear hv
  go_enter Tryz.func203, Tryz.ntmps203
  go_wp2_with (go_at_call 175; refine (CP.out).mono ?_; rintro e w1 ⟨a, cap, rfl, ho, hb⟩)
  go_ret
  exact ⟨a, cap, rfl, ho, hb⟩

theorem valueWidth_any (k : Nat) (w : World) :
    Calls Tryz.prog 186 #[.int .u64 k] w fun e w' => e = .returned (.int .i64 (vwN k : Nat)) ∧ w = w' := by
  by_cases hk : k = 1
  · subst hk
    rw [vwN_one]
    go_enter Tryz.func186, Tryz.ntmps186
    go_wp2
    go_ret
    exact ⟨rfl, rfl⟩
  · have e : vwN k = 2 := by unfold vwN; rw [if_neg hk]
    rw [e]
    have hk2 : ¬ (k : Int) = 1 := by omega
    go_enter Tryz.func186, Tryz.ntmps186
    go_wp2
    go_ret
    exact ⟨rfl, rfl⟩

theorem mayHave_any (k c : Nat) (w : World) :
    Calls Tryz.prog 185 #[.int .u64 k, .int .u64 c] w fun e w' => e = .returned (.bool (mayN k c)) ∧ w = w' := by
  by_cases h1 : k = 1
  · subst h1
    have e : mayN 1 c = decide ((c : Int) ≤ 7) := by unfold mayN; apply decide_eq_decide.2; omega
    rw [e]
    go_enter Tryz.func185, Tryz.ntmps185
    go_wp2
    go_ret
    exact ⟨rfl, rfl⟩
  · by_cases h2 : k = 2
    · subst h2
      by_cases hc : 1 ≤ c
      · have e : mayN 2 c = decide ((c : Int) ≤ 12) := by unfold mayN; apply decide_eq_decide.2; omega
        rw [e]
        have hc2 : (1 : Int) ≤ (c : Int) := by omega
        go_enter Tryz.func185, Tryz.ntmps185
        go_wp2
        go_ret
        exact ⟨rfl, rfl⟩
      · have e : mayN 2 c = false := by unfold mayN; apply decide_eq_false; omega
        rw [e]
        have hc2 : ¬ (1 : Int) ≤ (c : Int) := by omega
        go_enter Tryz.func185, Tryz.ntmps185
        go_wp2
        go_ret
        exact ⟨rfl, rfl⟩
    · have e : mayN k c = false := by unfold mayN; apply decide_eq_false; omega
      rw [e]
      have k1 : ¬ (k : Int) = 1 := by omega
      have k2 : ¬ (k : Int) = 2 := by omega
      go_enter Tryz.func185, Tryz.ntmps185
      go_wp2
      go_ret
      exact ⟨rfl, rfl⟩

theorem grow_any (m : Nat) (w : World) (h0 : 0 < m) (hm : m ≤ 140737488355328) :
    Calls Tryz.prog 174 #[.slice none 0 0, .int .i64 m] w fun e w' => ∃ g cap, e = .returned (.slice (some ⟨g, 0, none⟩) 0 cap) ∧ w'.ownsRow w.heap.size 5 1 (.slice (some ⟨g, 0, none⟩) 0 cap) 0 [] ∧ Below w.heap.size w w' := by
  obtain ⟨i0, hi, hz0, hz1, hz2⟩ := info_parts infoU8
  have hr := Lib.run_append_nil_zeros (P := Tryz.prog) w 49 3 49 5 i0 (.int .u8 0) .i64 .i64 Tryz.underlying49 Tryz.underlying3 hi hz0 m h0 (by omega) (by omega) (by rw [hz2]; omega)
  have HR := Lib.hid hr
  clear hr hi hz0 hz1 hz2
  have hx : (0 : Int) < (m : Int) := by omega
  go_enter Tryz.func174, Tryz.ntmps174
  go_wp2_with (at_builtin; refine Lib.wpList_append_run w rfl _ _ 49 3 rfl _ _ rfl rfl _ _ HR.out ?_)
  go_ret
  have hge := grownCap_ge w m 0 5
  have hle := grownCap_le_maxLen w m 0 5 (by unfold maxLen; omega)
  refine ⟨w.heap.size, grownCap w m 0 5, rfl, ⟨rfl, .inr ⟨w.heap.size, _, _, rfl, Nat.le_refl _, heap_alloc_new w.drew _, Nat.zero_le _, hle, ?_, rfl⟩⟩, ((Below.refl _ w).drew).alloc (Nat.le_refl _) _⟩
  rw [Array.size_append, size_zeroCells, size_zeroCells]
  show m * 1 + (grownCap w m 0 5 - m) * 1 = grownCap w m 0 5 * 1
  omega

theorem flat_take {P : List (List UInt8)} (k : Nat) (hk : k < P.length) : (P.take (k + 1)).flatten = (P.take k).flatten ++ P.getD k [] := by
  rw [List.take_succ_eq_append_getElem hk, List.flatten_append]
  simp [List.getD, List.getElem?_eq_getElem hk]
theorem flat_le {P : List (List UInt8)} (k : Nat) : (P.take k).flatten.length ≤ P.flatten.length := by
  conv => rhs; rw [← List.take_append_drop k P, List.flatten_append, List.length_append]
  omega

set_option maxHeartbeats 1000000 in
theorem concat_anyT (a : Option Addr) (n cap : Nat) (P : List (List UInt8)) (w : World) (hP : RowsR w a n cap P) (h0 : 0 < P.flatten.length) (hm : P.flatten.length ≤ 140737488355328) :
    Calls Tryz.prog 143 #[.slice a n cap] w (FreshB id P.flatten.length P.flatten w) := by
  have HP := Lib.hid hP
  obtain ⟨T, hT⟩ : ∃ T, P.flatten.length = T := ⟨_, rfl⟩
  rw [hT] at h0 hm ⊢
  have HT := Lib.hid hT
  clear hT
  have HL := Lib.hid hP.len
  have hcp := hP.caps
  have hn : n ≤ 9223372036854775807 := by have := hcp.1; have := hcp.2; unfold maxLen at *; omega
  have CG := Lib.hid (fun u (h : Below w.heap.size w u) => grow_any T u h0 hm)
  clear hP hcp h0
  go_enter Tryz.func143, Tryz.ntmps143
  go_wp2
  go_loop [3, 11] (fun x i => ∃ k : Nat, k ≤ n ∧ i = .int .i64 k ∧ x = .int .i64 ((P.take k).flatten.length : Nat)) (fun _ i => n - (intOf i).toNat)
  case atStart => exact ⟨0, Nat.zero_le _, rfl, by simp⟩
  case round =>
    obtain ⟨k, hk, rfl, rfl⟩ := hrel
    by_cases hlt : k < n
    · obtain ⟨b, off, rfl, hb, hc⟩ := HP.out.at [] (by omega)
      obtain ⟨⟨ha, hn1, hc1⟩, hcell, hB⟩ := hc k hlt
      have hbl := hB.1
      have hft := flat_take (P := P) k (by rw [HL.out]; exact hlt)
      have hfl := flat_le (P := P) (k + 1)
      rw [hft, List.length_append, hbl, HT.out] at hfl
      have HFT := Lib.hid (show (P.take (k + 1)).flatten.length = (P.take k).flatten.length + hn1 by rw [hft, List.length_append, hbl])
      clear hft hbl hB hc
      generalize (P.take k).flatten.length = s at *
      dsimp only at hfl hcell
      have hs0 : (0 : Int) ≤ (s : Int) + (hn1 : Int) := by omega
      go_wp2
      refine ⟨⟨k + 1, by omega, by go_num, by rw [HFT.out]; go_num⟩, by simp [intOf]; omega⟩
    · obtain rfl : k = n := by omega
      rw [List.take_of_length_le (Nat.le_of_eq HL.out), HT.out]
      have HFL := Lib.hid (fun j => flat_le (P := P) j)
      have HFT := Lib.hid (fun j (h : j < P.length) => flat_take (P := P) j h)
      go_wp2_with (go_at_call 174; refine (CG.out _ (Below.refl _ _)).mono ?_; rintro e w1 ⟨g, gc, rfl, ho1, hb1⟩)
      have HP1 := Lib.hid (HP.out.below hb1)
      go_loopw [6, 27] (fun x i wr => ∃ (j : Nat) (a' : Option Addr) (N cap' : Nat), j ≤ k ∧ i = .int .i64 j ∧ x = .slice a' N cap' ∧ wr.ownsRow w.heap.size 5 1 (.slice a' N cap') N (vals (P.take j).flatten) ∧ Below w.heap.size w wr) (fun _ i _ => k - (intOf i).toNat)
      case atStart => exact ⟨0, some ⟨g, 0, none⟩, 0, gc, Nat.zero_le _, rfl, rfl, by simpa [vals] using ho1, hb1⟩
      case round =>
        obtain ⟨j, a', N, cap', hj, rfl, rfl, ho, hb⟩ := hrel
        have hN := ho.1
        rw [vals_length, Nat.mul_one] at hN
        by_cases hlt : j < k
        · obtain ⟨b, off, rfl, hbb, hc⟩ := HP.out.at [] (by omega)
          obtain ⟨⟨ha, hn1, hc1⟩, hcell, hB⟩ := hc j hlt
          have hbl := hB.1
          have hft := HFT.out j (by rw [HL.out]; exact hlt)
          have hfl := HFL.out (j + 1)
          rw [hft, List.length_append, hbl, hN, HT.out] at hfl
          dsimp only at hfl hcell
          have hcell2 := (hb.cell (p := ⟨b, off + j, none⟩) hbb).trans hcell
          have HB2 := Lib.hid (hB.below hb)
          have HO := Lib.hid ho
          have HB := Lib.hid hb
          clear hcell hB hb ho hc hbl hN
          have HFJ := Lib.hid hft
          clear hft
          generalize (P.take j).flatten = Q at *
          generalize P.getD j [] = R at *
          have HM := Lib.hid (show N + hn1 ≤ 140737488355328 by omega)
          go_wp2_with (refine wpList_append_bytes rfl (.tmp 31) (.tmp 32) rfl w.heap.size (.slice a' N cap') N (vals Q) rfl HO.out ha hn1 hc1 R rfl HB2.out (N + hn1) rfl HM.out HB.out.size ?_; intro a3 cap3 w3 ho3 hg3)
          refine ⟨⟨j + 1, a3, N + hn1, cap3, by omega, by go_num, rfl, ?_, HB.out.grown hg3 HB.out.size (fun q hq => (HO.out.lt q hq).1)⟩, by simp [intOf]; omega⟩
          rw [HFJ.out]
          simpa [vals] using ho3
        · obtain rfl : j = k := by omega
          rw [List.take_of_length_le (Nat.le_of_eq HL.out)] at ho hN
          rw [HT.out] at hN
          subst hN
          go_wp2
          go_ret
          exact ⟨a', cap', rfl, ho, hb⟩

end Go.Proofs.YtjcmphjjkeigjaaGreat

namespace Go.Proofs.YtjcmphjjkeigjaaGreat
open Go.RowKit
set_option linter.unusedVariables false
set_option linter.unusedSimpArgs false
set_option maxRecDepth 100000

theorem all_pairC (p : Nat × Nat) : (pairC p).toArray.all (·.oneCell') = true := by simp [pairC, Value.oneCell']

theorem rows_side (vs : List Value) (h : ∀ v ∈ vs, v.cells = #[v]) : ∀ o, SideBy (fun i => some (i * 1, 1)) o ((vs.zipIdx o).map fun x => (x.2, x.1)) := by
  induction vs with
  | nil => intro o; trivial
  | cons v vs ih =>
    intro o
    have hv := h v (by simp)
    refine ⟨by simp [hv], ?_⟩
    have := ih (fun u hu => h u (by simp [hu])) (o + 1)
    simp only [hv]
    exact this
theorem rows_flat (vs : List Value) (h : ∀ v ∈ vs, v.cells = #[v]) : ∀ o, ((vs.zipIdx o).map fun x => (x.2, x.1)).flatMap (fun x => x.2.cells.toList) = vs := by
  induction vs with
  | nil => intro o; rfl
  | cons v vs ih =>
    intro o
    have := ih (fun u hu => h u (by simp [hu])) (o + 1)
    simp only [List.zipIdx_cons, List.map_cons, List.flatMap_cons, h v (by simp), this]
    rfl
theorem built_rows (vs : List Value) (h : ∀ v ∈ vs, v.cells = #[v]) (h1 : 1 ≤ vs.length) (h2 : vs.length ≤ 1000) (ps : Array (Nat × Value)) (hps : ps.toList = (vs.zipIdx 0).map fun x => (x.2, x.1)) (n : Nat) (hn : n = vs.length) :
    ∀ w : World, (Instr.buildSlice 190 n ps).run Tryz.prog w = .ok (.slice (some ⟨w.heap.size, 0, none⟩) n n) (w.alloc (.cells vs.toArray 49)) := fun w => by
  subst hn
  obtain ⟨i0, hi, hz0, hz1, hz2⟩ := info_parts infoRow
  refine run_buildSlice w _ _ _ ps _ i0 _ Tryz.underlying190 hi hz0 (by rw [hz1]; omega) (by rw [hz1]; omega) ?_
  rw [hz1, hps]
  have := fill_whole (fun i => some (i * 1, 1)) ((Array.range (vs.length * 1)).map fun x => (Value.slice none 0 0).cells[x % (Value.slice none 0 0).cells.size]!) ((vs.zipIdx 0).map fun x => (x.2, x.1)) (rows_side vs h 0) (by rw [rows_flat vs h 0]; simp)
  rw [rows_flat vs h 0] at this
  exact this
/-- a row of rows, in a block of its own -/
theorem rows_new {w : World} {g : Nat} {Hs : List Hd} {P : List (List UInt8)} (hg : w.heap[g]? = some (.cells (Hs.flatMap hdC).toArray 49 (0, 0))) (hl : Hs.length = P.length) (hm : Hs.length ≤ maxLen) (h : ∀ (i : Nat) (h : Hd) (l : List UInt8), Hs[i]? = some h → P[i]? = some l → BytesAt w h.1 h.2.1 h.2.2 l) (n : Nat) (hn : n = Hs.length) : RowsR w (some ⟨g, 0, none⟩) n n P := by
  subst hn
  refine ⟨Hs, ⟨rfl, Nat.le_refl _, hm, fun _ _ => rfl, .inr ⟨_, rfl, fun i j x hi hj => ?_⟩⟩, hl, h⟩
  rw [Addr.add_mid, Nat.zero_add, cell_of_row _ _ _ _ _ _ hg, ← Array.getElem?_toList]
  exact flatMap_at Hs (f := hdC) (size := 1) (fun _ _ => rfl) i j x hi hj

theorem rows2 {w : World} {g : Nat} {a1 a2 : Option Addr} {n1 c1 n2 c2 : Nat} {l1 l2 : List UInt8} (hg : w.heap[g]? = some (.cells #[.slice a1 n1 c1, .slice a2 n2 c2] 49 (0, 0))) (h1 : BytesAt w a1 n1 c1 l1) (h2 : BytesAt w a2 n2 c2 l2) : RowsR w (some ⟨g, 0, none⟩) 2 2 [l1, l2] :=
  rows_new (Hs := [(a1, n1, c1), (a2, n2, c2)]) hg rfl (by simp [maxLen]) (fun i h l hi hl => by
    match i with
    | 0 => simp at hi hl; subst hi hl; exact h1
    | 1 => simp at hi hl; subst hi hl; exact h2
    | i + 2 => simp at hi) 2 rfl
theorem rows3 {w : World} {g : Nat} {a1 a2 a3 : Option Addr} {n1 c1 n2 c2 n3 c3 : Nat} {l1 l2 l3 : List UInt8} (hg : w.heap[g]? = some (.cells #[.slice a1 n1 c1, .slice a2 n2 c2, .slice a3 n3 c3] 49 (0, 0))) (h1 : BytesAt w a1 n1 c1 l1) (h2 : BytesAt w a2 n2 c2 l2) (h3 : BytesAt w a3 n3 c3 l3) : RowsR w (some ⟨g, 0, none⟩) 3 3 [l1, l2, l3] :=
  rows_new (Hs := [(a1, n1, c1), (a2, n2, c2), (a3, n3, c3)]) hg rfl (by simp [maxLen]) (fun i h l hi hl => by
    match i with
    | 0 => simp at hi hl; subst hi hl; exact h1
    | 1 => simp at hi hl; subst hi hl; exact h2
    | 2 => simp at hi hl; subst hi hl; exact h3
    | i + 3 => simp at hi) 3 rfl
theorem slice_cells (a : Option Addr) (n c : Nat) : (Value.slice a n c).cells = #[.slice a n c] := rfl
theorem built2 (a1 a2 : Option Addr) (n1 c1 n2 c2 : Nat) : ∀ w : World, (Instr.buildSlice 190 2 #[(0, .slice a1 n1 c1), (1, .slice a2 n2 c2)]).run Tryz.prog w = .ok (.slice (some ⟨w.heap.size, 0, none⟩) 2 2) (w.alloc (.cells #[.slice a1 n1 c1, .slice a2 n2 c2] 49)) :=
  built_rows [.slice a1 n1 c1, .slice a2 n2 c2] (by simp [slice_cells]) (by simp) (by simp) _ rfl 2 rfl
theorem built3 (a1 a2 a3 : Option Addr) (n1 c1 n2 c2 n3 c3 : Nat) : ∀ w : World, (Instr.buildSlice 190 3 #[(0, .slice a1 n1 c1), (1, .slice a2 n2 c2), (2, .slice a3 n3 c3)]).run Tryz.prog w = .ok (.slice (some ⟨w.heap.size, 0, none⟩) 3 3) (w.alloc (.cells #[.slice a1 n1 c1, .slice a2 n2 c2, .slice a3 n3 c3] 49)) :=
  built_rows [.slice a1 n1 c1, .slice a2 n2 c2, .slice a3 n3 c3] (by simp [slice_cells]) (by simp) (by simp) _ rfl 3 rfl

theorem leB_one (k : Nat) (h : k < 256) : leB 1 k = [UInt8.ofNat k] := by
  show [UInt8.ofNat (k % 256)] = _
  rw [Nat.mod_eq_of_lt h]

theorem concat_to (a : Option Addr) (n cap N : Nat) (P : List (List UInt8)) (Q : List UInt8) (w : World) (hP : RowsR w a n cap P) (hQ : P.flatten = Q) (hN : Q.length = N) (h0 : 0 < N) (hm : N ≤ 140737488355328) :
    Calls Tryz.prog 143 #[.slice a n cap] w (FreshB id N Q w) := by
  subst hQ hN
  exact concat_anyT a n cap P w hP h0 hm

def bodyK (k : Nat) (es : List (Nat × Nat)) (j : Nat) : List UInt8 := [UInt8.ofNat k, UInt8.ofNat es.length] ++ (es.take j).flatMap (entL k)
theorem bodyK_length (k : Nat) (es : List (Nat × Nat)) (j : Nat) (hj : j ≤ es.length) : (bodyK k es j).length = 2 + ewN k * j := by
  unfold bodyK
  rw [List.length_append, flatMap_lenT (entL k) (ewN k) _ (fun x _ => entL_length k x), List.length_take, Nat.min_eq_left hj]
  simp
theorem bodyK_succ (k : Nat) (es : List (Nat × Nat)) (j : Nat) (hj : j < es.length) : bodyK k es (j + 1) = [bodyK k es j, leB 8 (es.getD j (0, 0)).1, leB (vwN k) (es.getD j (0, 0)).2].flatten := by
  unfold bodyK
  rw [List.take_succ_eq_append_getElem hj, List.flatMap_append]
  simp [List.getD, List.getElem?_eq_getElem hj, entL]
theorem bodyK_all (k : Nat) (es : List (Nat × Nat)) : bodyK k es es.length = bodyL k es := by unfold bodyK bodyL; rw [List.take_length]

set_option maxHeartbeats 2000000 in
theorem page_any (k : Nat) (a : Option Addr) (n cap : Nat) (es : List (Nat × Nat)) (w : World) (he : PairsAt w a n cap es) (hm : mayN k es.length = true) (hf : FitsT k es) :
    Calls Tryz.prog 187 #[.int .u64 k, .slice a n cap] w (FreshB id 128 (pageL k es) w) := by
  have HE := Lib.hid he
  have hlen := he.1
  have hsz := mayN_size hm
  have hlt := mayN_lt hm
  have HB0 := Lib.hid (bodyK_all k es)
  have HLN := Lib.hid (fun j (h : j ≤ es.length) => bodyK_length k es j h)
  have HSC := Lib.hid (fun j (h : j < es.length) => bodyK_succ k es j h)
  have HF := Lib.hid (fun j (h : j < es.length) => hf (es.getD j (0, 0)) (by rw [List.getD, List.getElem?_eq_getElem h]; exact List.getElem_mem h))
  rw [hlen] at hsz hlt HB0
  have HSZ := Lib.hid hsz
  have HV := Lib.hid (vwN_le k)
  have hn : n < 256 := hlt.2
  have hk : k < 256 := hlt.1
  have hb00 : bodyK k es 0 = [leB 1 k, leB 1 n].flatten := by
    rw [leB_one _ hk, leB_one _ hn, ← hlen]; rfl
  have HB00 := Lib.hid hb00
  have HLE := Lib.hid hlen
  clear he hm hf hlen hsz hlt hb00
  have C1 := Lib.hid (number_any k 1 w (by omega) (by omega) (by omega))
  go_enter Tryz.func187, Tryz.ntmps187
  go_wp2_with fail
  refine (C1.out).mono ?_
  rintro e w1 ⟨a1, c1, rfl, ho1, hb1⟩
  have C2 := Lib.hid (number_any n 1 w1 (by omega) (by omega) (by omega))
  go_wp2_with fail
  refine (C2.out).mono ?_
  rintro e w2 ⟨a2, c2, rfl, ho2, hb2⟩
  have hy1 := (BytesAt.owned ho1).below hb2
  have hy2 := BytesAt.owned ho2
  clear ho1 ho2 C1 C2
  go_wp2_with (refine wpList_buildSliceV rfl 190 2 _ rfl #[(0, .slice a1 1 c1), (1, .slice a2 1 c2)] (by simp [go_sem]) _ _ (built2 _ _ _ _ _ _ _) ?_)
  have hbw : Below w.heap.size w w2 := hb1.trans (hb2.mono hb1.size)
  have C3 := Lib.hid (concat_to (some ⟨w2.heap.size, 0, none⟩) 2 2 2 [leB 1 k, leB 1 n] (bodyK k es 0) _ (rows2 (heap_alloc_new w2 (.cells #[.slice a1 1 c1, .slice a2 1 c2] 49)) (hy1.below ((Below.refl _ _).alloc (Nat.le_refl _) _)) (hy2.below ((Below.refl _ _).alloc (Nat.le_refl _) _))) HB00.out.symm (by rw [HLN.out 0 (Nat.zero_le _), Nat.mul_zero]) (by omega) (by omega))
  refine (C3.out).mono ?_
  rintro e w3 ⟨a3, c3, rfl, ho3, hb3⟩
  have hbw3 : Below w.heap.size w w3 := (hbw.alloc hbw.size _).trans (hb3.mono (by simp; have := hbw.size; omega))
  have ho3' : w3.ownsRow w.heap.size 5 1 (.slice a3 2 c3) 2 (vals (bodyK k es 0)) := owned_base ho3 (by simp; have := hbw.size; omega)
  clear ho3 hb3 C3 hy1 hy2 hb1 hb2 hbw
  go_wp2
  go_loopw [5, 20] (fun x i wr => ∃ (j : Nat) (a' : Option Addr) (N cap' : Nat), j ≤ n ∧ i = .int .i64 j ∧ x = .slice a' N cap' ∧ wr.ownsRow w.heap.size 5 1 (.slice a' N cap') N (vals (bodyK k es j)) ∧ Below w.heap.size w wr) (fun _ i _ => n - (intOf i).toNat)
  case atStart => exact ⟨0, a3, 2, c3, Nat.zero_le _, rfl, rfl, ho3', hbw3⟩
  case round =>
    obtain ⟨j, a', N, cap', hj, rfl, rfl, ho, hb⟩ := hrel
    have hN := ho.1
    rw [vals_length, Nat.mul_one, HLN.out j (by rw [HLE.out]; exact hj)] at hN
    clear ho3' hbw3
    by_cases hlt : j < n
    · have HEW := Lib.hid (HE.out.below (Nat.zero_lt_succ 1) hb)
      obtain ⟨b, off, rfl, hbb, hc⟩ := PairsAt.cells HEW.out (by omega)
      obtain ⟨hc0, hc1, hcr⟩ := hc j hlt
      have hfj := HF.out j (by rw [HLE.out]; exact hlt)
      have HK := Lib.hid (HSC.out j (by rw [HLE.out]; exact hlt))
      have HK1 := Lib.hid (HLN.out (j + 1) (by rw [HLE.out]; exact hlt))
      generalize es.getD j (0, 0) = p at *
      obtain ⟨p1, p2⟩ := p
      dsimp only at hfj hc0 hc1
      have HCR := Lib.hid hcr
      have HO := Lib.hid ho
      have HB := Lib.hid hb
      clear ho hb hcr hc hc0 hc1
      have HSP := Lib.hid (show (Tryz.prog.info? 114).map (·.size) = some (pairC (p1, p2)).toArray.size from sizePair)
      have HAL := Lib.hid (show (pairC (p1, p2)).toArray.all (·.oneCell') = true from all_pairC _)
      have HOD := Lib.hid (show (#[Value.int .u64 0, Value.int .u64 0] : Array Value).size = (pairC (p1, p2)).toArray.size from rfl)
      go_upto_region 5 with (first
        | (refine wpList_load_mid rfl 114 _ rfl b (off + j * 2) rfl (pairC (p1, p2)) _ HCR.out Tryz.underlying114 rfl sizePair ?_)
        | (refine wpList_store_row rfl 114 _ _ rfl wr.heap.size (pairC (p1, p2)).toArray rfl rfl 114 #[.int .u64 0, .int .u64 0] (heap_alloc_new wr _) HSP.out HOD.out HAL.out ?_))
      have hbA : Below wr.heap.size wr ((wr.alloc (.cells #[.int .u64 0, .int .u64 0] 114)).setRow wr.heap.size (pairC (p1, p2)).toArray) := below_setRow ((Below.refl _ _).alloc (Nat.le_refl _) _) (Nat.le_refl _) _
      have hbox : ((wr.alloc (.cells #[.int .u64 0, .int .u64 0] 114)).setRow wr.heap.size (pairC (p1, p2)).toArray).heap[wr.heap.size]? = some (.cells (pairC (p1, p2)).toArray 114 (0, 0)) := heap_setRow_same _ _ _ _ _ (heap_alloc_new wr _)
      have hszA : ((wr.alloc (.cells #[.int .u64 0, .int .u64 0] 114)).setRow wr.heap.size (pairC (p1, p2)).toArray).heap.size = wr.heap.size + 1 := by simp
      generalize (wr.alloc (.cells #[.int .u64 0, .int .u64 0] 114)).setRow wr.heap.size (pairC (p1, p2)).toArray = wA at *
      have hbox1 : wA.drew.heap[wr.heap.size]? = some (.cells (pairC (p1, p2)).toArray 114 (0, 0)) := hbox
      have key : ∀ u : World, u.heap[wr.heap.size]? = some (.cells (pairC (p1, p2)).toArray 114 (0, 0)) → u.cell? ⟨wr.heap.size, 0, none⟩ = some (.int .u64 (p1 : Int)) ∧ u.cell? ⟨wr.heap.size, 1, none⟩ = some (.int .u64 (p2 : Int)) := fun u hu => ⟨by rw [cell_of_row _ _ _ _ _ _ hu]; rfl, by rw [cell_of_row _ _ _ _ _ _ hu]; rfl⟩
      have KEY := Lib.hid key
      have hS0 := KEY.out _ hbox1
      have hb0 : Below w.heap.size w wA.drew := (HB.out.trans (hbA.mono HB.out.size)).drew
      have hzA : wr.heap.size < wA.drew.heap.size := by show wr.heap.size < wA.heap.size; omega
      have hoA : wA.drew.ownsRow w.heap.size 5 1 (.slice a' N cap') N (vals (bodyK k es j)) := owned_below (owned_below HO.out hbA) ((Below.refl _ wA).drew)
      have HBX := Lib.hid hbox1
      have HB0A := Lib.hid hb0
      have HOA := Lib.hid hoA
      clear key hbox hbox1 hb0 hoA hbA hszA
      refine region_head 12 [0, 1, 2, 4, 5, 6, 3, 7, 8, 9, 10, 11] [3, 7, 8, 9, 10] (fun u => u.cell? ⟨wr.heap.size, 0, none⟩ = some (.int .u64 (p1 : Int)) ∧ u.cell? ⟨wr.heap.size, 1, none⟩ = some (.int .u64 (p2 : Int))) (by kernel_rfl) (by kernel_rfl) hS0 ?_
      simp only [pickO, List.filterMap_cons, List.filterMap_nil, List.getElem?_cons_zero, List.getElem?_cons_succ, Option.map_some, List.drop_succ_cons, List.drop_zero]
      clear hS0
      iterate 6
        refine seqH_read _ rfl rfl (by rintro u ⟨hu1, hu2⟩; go_simp; with_reducible rfl) ?_
        try simp only [Act.put, List.setIfInBounds_toArray, List.set_cons_zero, List.set_cons_succ]
      have D1 := Lib.hid (number_any p1 8 wA.drew (by omega) (by omega) (by exact hfj.1))
      refine seqH_move rfl rfl (fun K hK => ?_)
      go_simp
      refine (D1.out).mono ?_
      rintro e w4 ⟨a4, c4, rfl, ho4, hb4⟩
      have hx4 := (hb4.block _ hzA).trans HBX.out
      refine hK _ _ (KEY.out _ hx4) ?_
      clear hK K D1
      try simp only [Act.put, List.setIfInBounds_toArray, List.set_cons_zero, List.set_cons_succ]
      refine seqH_move rfl rfl (fun K hK => ?_)
      go_simp
      refine (valueWidth_any k w4).mono ?_
      rintro e w5 ⟨rfl, rfl⟩
      refine hK _ _ (KEY.out _ hx4) ?_
      clear hK K
      try simp only [Act.put, List.setIfInBounds_toArray, List.set_cons_zero, List.set_cons_succ]
      have D2 := Lib.hid (number_any p2 (vwN k) w4 HV.out.1 HV.out.2 hfj.2)
      refine seqH_move rfl rfl (fun K hK => ?_)
      go_simp
      refine (D2.out).mono ?_
      rintro e w6 ⟨a6, c6, rfl, ho6, hb6⟩
      have hx6 := (hb6.block _ (Nat.lt_of_lt_of_le hzA hb4.size)).trans hx4
      refine hK _ _ (KEY.out _ hx6) ?_
      clear hK K D2
      try simp only [Act.put, List.setIfInBounds_toArray, List.set_cons_zero, List.set_cons_succ]
      have hb46 : Below wA.drew.heap.size wA.drew w6 := hb4.trans (hb6.mono hb4.size)
      have hR := rows3 (heap_alloc_new w6 (.cells #[.slice a' N cap', .slice a4 8 c4, .slice a6 (vwN k) c6] 49)) (((BytesAt.owned HOA.out).below hb46).below ((Below.refl _ _).alloc (Nat.le_refl _) _)) (((BytesAt.owned ho4).below hb6).below ((Below.refl _ _).alloc (Nat.le_refl _) _)) ((BytesAt.owned ho6).below ((Below.refl _ _).alloc (Nat.le_refl _) _))
      have hq : 2 + ewN k * (j + 1) ≤ 122 := Nat.le_trans (Nat.add_le_add_left (Nat.mul_le_mul_left _ hlt) 2) HSZ.out
      have D3 := Lib.hid (concat_to (some ⟨w6.heap.size, 0, none⟩) 3 3 (2 + ewN k * (j + 1)) _ (bodyK k es (j + 1)) _ hR HK.out.symm HK1.out (by omega) (by omega))
      have HB6 := Lib.hid (show Below w.heap.size w (w6.alloc (.cells #[.slice a' N cap', .slice a4 8 c4, .slice a6 (vwN k) c6] 49)) from (HB0A.out.trans (hb46.mono HB0A.out.size)).alloc (HB0A.out.trans (hb46.mono HB0A.out.size)).size _)
      have hx6a : (w6.alloc (.cells #[.slice a' N cap', .slice a4 8 c4, .slice a6 (vwN k) c6] 49)).heap[wr.heap.size]? = some (.cells (pairC (p1, p2)).toArray 114 (0, 0)) := (((Below.refl w6.heap.size w6).alloc (Nat.le_refl _) _).block _ (Nat.lt_of_lt_of_le hzA hb46.size)).trans hx6
      have hz6 : wr.heap.size < (w6.alloc (.cells #[.slice a' N cap', .slice a4 8 c4, .slice a6 (vwN k) c6] 49)).heap.size := by have := Nat.lt_of_lt_of_le hzA hb46.size; simp; omega
      clear hR ho4 ho6 hb4 hb6 hb46 hx4 hx6 hq
      refine seqH_move rfl rfl (fun K hK => ?_)
      refine wp_buildSliceV 190 3 _ rfl #[(0, .slice a' N cap'), (1, .slice a4 8 c4), (2, .slice a6 (vwN k) c6)] (by simp [go_sem]) _ _ (built3 _ _ _ _ _ _ _ _ _ _) ?_
      refine hK _ _ (KEY.out _ hx6a) ?_
      clear hK K
      try simp only [Act.put, List.setIfInBounds_toArray, List.set_cons_zero, List.set_cons_succ]
      refine seqH_move rfl rfl (fun K hK => ?_)
      go_simp
      refine (D3.out).mono ?_
      rintro e w7 ⟨a7, c7, rfl, ho7, hb7⟩
      refine hK _ _ (KEY.out _ ((hb7.block _ hz6).trans hx6a)) ?_
      clear hK K D3
      try simp only [Act.put, List.setIfInBounds_toArray, List.set_cons_zero, List.set_cons_succ]
      refine seqH_read _ rfl rfl (by rintro u ⟨hu1, hu2⟩; go_simp; with_reducible rfl) ?_
      try simp only [Act.put, List.setIfInBounds_toArray, List.set_cons_zero, List.set_cons_succ]
      refine seqH_nil ?_
      have hb7' : Below w.heap.size w w7 := HB6.out.trans (hb7.mono HB6.out.size)
      go_wp2
      refine ⟨⟨j + 1, a7, _, c7, by omega, by go_num, rfl, owned_base ho7 HB6.out.size, hb7'⟩, by simp [intOf]; omega⟩
    · obtain rfl : j = n := by omega
      rw [HB0.out] at ho
      subst hN
      have hsz := HSZ.out
      have hy := BytesAt.owned ho
      have D1 := Lib.hid (seal_any a' (2 + ewN k * j) cap' (bodyL k es) wr hy (by omega))
      have HB := Lib.hid hb
      clear ho hb hy
      generalize hNN : 2 + ewN k * j = N at *
      clear hNN
      go_wp2_with fail
      refine (D1.out).mono ?_
      rintro e w4 ⟨a4, c4, rfl, ho4, hb4⟩
      have D2 := Lib.hid (pad_ok a4 (N + 4) c4 (sealL (bodyL k es)) 128 w4 (by omega) (by omega) (BytesAt.owned ho4))
      have hl4 := ho4.1
      rw [vals_length, Nat.mul_one] at hl4
      have e5 : sealL (bodyL k es) ++ List.replicate (128 - (N + 4)) 0 = pageL k es := by unfold pageL padL; rw [hl4]
      rw [e5] at D2
      clear ho4 e5 hl4 D1
      go_wp2_with fail
      refine (D2.out).mono ?_
      rintro e w5 ⟨a5, c5, rfl, ho5, hb5⟩
      go_wp2
      go_ret
      have hb45 : Below w.heap.size w w4 := HB.out.trans (hb4.mono HB.out.size)
      exact ⟨a5, c5, rfl, owned_base ho5 hb45.size, hb45.trans (hb5.mono hb45.size)⟩

end Go.Proofs.YtjcmphjjkeigjaaGreat

namespace Go.Proofs.YtjcmphjjkeigjaaGreat
open Go.RowKit
set_option linter.unusedVariables false
set_option linter.unusedSimpArgs false
set_option maxRecDepth 100000

theorem sizeSp : (Tryz.prog.info? 101).map (·.size) = some 2 := by kernel_rfl

/-- a space by value -/
def spV (N : Int) (a : Option Addr) (n cap : Nat) : Array Value := #[.int .i64 N, .slice a n cap]
theorem spV_one (N : Int) (a : Option Addr) (n cap : Nat) : (spV N a n cap).all (·.oneCell') = true := by simp [spV, Value.oneCell']

theorem octets_anyS (N : Nat) (w : World) (h : N ≤ 2048) :
    Calls Tryz.prog 133 #[.int .i64 N] w fun e w' => e = .returned (.int .i64 ((N + 7) / 8 : Nat)) ∧ w = w' := by
  have he : ((N : Int) + 8 - 1) / 8 = ((N + 7) / 8 : Nat) := by omega
  go_enter Tryz.func133, Tryz.ntmps133
  go_wp2
  go_ret
  exact ⟨congrArg (fun x => Ending.returned (.int .i64 x)) he, rfl⟩

theorem bit_any (p : Nat) (w : World) (h : p ≤ 2048) :
    Calls Tryz.prog 169 #[.int .i64 p] w fun e w' => e = .returned (.int .u8 (2 ^ (p % 8) : Nat)) ∧ w = w' := by
  have he : ((2 ^ (p % 8) : Nat) : Int) % 256 = (2 ^ (p % 8) : Nat) := by
    have := two_pow_lt (p % 8) (by omega)
    generalize 2 ^ (p % 8) = x at *
    omega
  go_enter Tryz.func169, Tryz.ntmps169
  go_wp2
  go_ret
  refine ⟨congrArg (fun x => Ending.returned (.int .u8 x)) ?_, rfl⟩
  rw [← he]; simp

theorem has_any (N p : Int) (a : Option Addr) (n cap : Nat) (w : World) :
    Calls Tryz.prog 129 #[.agg (spV N a n cap), .int .i64 p] w fun e w' => e = .returned (.bool (decide (0 ≤ p) && decide (p < N))) ∧ Below w.heap.size w w' := by
  unfold spV
  go_enter Tryz.func129, Tryz.ntmps129
  go_wp2
  · have h0 : 0 ≤ p := by assumption
    go_ret
    exact ⟨by simp [h0], (Below.refl _ _).alloc (Nat.le_refl _) _⟩
  · have h0 : p < 0 := by assumption
    go_ret
    exact ⟨by simp; omega, (Below.refl _ _).alloc (Nat.le_refl _) _⟩

theorem bit_used (x : UInt8) (j : Nat) (hj : j < 8) : (bits .and .u8 (x.toNat : Int) ((2 ^ j : Nat) : Int) != 0) = x.toNat.testBit j := by
  rw [u8_and_nat _ _ x.toNat_lt (two_pow_lt j hj)]
  have h : x.toNat &&& 2 ^ j = if x.toNat.testBit j then 2 ^ j else 0 := by
    apply Nat.eq_of_testBit_eq
    intro i
    rw [Nat.testBit_and, Nat.testBit_two_pow]
    by_cases hi : j = i
    · subst hi
      cases hb : x.toNat.testBit j <;> simp
    · cases hb : x.toNat.testBit j <;> simp [hi, Nat.testBit_two_pow]
  have hp : 0 < 2 ^ j := Nat.pow_pos (by omega)
  rw [h]
  generalize 2 ^ j = m at *
  cases x.toNat.testBit j
  · simp
  · simp; omega

/-- the place of a page's octet -/
theorem place_of (p : Nat) (hp : p ≤ 2048) : ∃ q : Nat, Hid (q = p / 8) ∧ IntKind.i64.wrap ((p : Int) / 8) = (q : Int) :=
  ⟨p / 8, rfl, by rw [show (p : Int) / 8 = ((p / 8 : Nat) : Int) by omega]; exact IntWalk.i64_in _ (by omega)⟩

theorem isused_any (N : Int) (p : Nat) (a : Option Addr) (n cap : Nat) (l : List UInt8) (w : World) (hp : p ≤ 2048) (h : BytesAt w a n cap l) (hn : p / 8 < n) :
    Calls Tryz.prog 130 #[.agg (spV N a n cap), .int .i64 p] w fun e w' => e = .returned (.bool (bitU l p)) ∧ Below w.heap.size w w' := by
  obtain ⟨b, off, rfl, hc⟩ := h.at (by omega)
  have hcp := hc (p / 8) hn
  have hb := block_lt hcp
  obtain ⟨q, HQ, hwq⟩ := place_of p hp
  rw [← HQ.out] at hcp hn
  have hqn : (q : Int) < n := by omega
  have hu := bit_used (l.getD q 0) (p % 8) (by omega)
  generalize hx : (l.getD q 0).toNat = x at *
  have HX := Lib.hid hx
  have HU := Lib.hid hu
  have hcell : (w.alloc (.cells (spV N (some ⟨b, off, none⟩) n cap) 101)).cell? ⟨b, off + q, none⟩ = some (.int .u8 x) := ((Below.refl _ w).alloc (Nat.le_refl _) _).cell (p := ⟨b, off + q, none⟩) hb |>.trans hcp
  clear h hc hcp hx hu hn
  unfold spV at *
  go_enter Tryz.func130, Tryz.ntmps130
  go_upto_region 1 with (fail)
  go_quiet ((go_at_call 169; exact quiet_left (bit_any p _ hp)))
  go_wp2
  go_ret
  refine ⟨congrArg (fun b => Ending.returned (.bool b)) ?_, (((Below.refl _ w).alloc (Nat.le_refl _) _).trans (below_drewN (Below.refl _ _) nq))⟩
  have := HU.out
  rw [Int.natCast_pow] at this
  rw [show bitU l p = x.testBit (p % 8) by unfold bitU; rw [← HQ.out, HX.out]]
  exact this

theorem may_out (N : Int) (a : Option Addr) (n cap : Nat) (w : World) (h : N < 0 ∨ 2048 < N) :
    Calls Tryz.prog 128 #[.agg (spV N a n cap)] w fun e w' => e = .returned (.bool false) ∧ Below w.heap.size w w' := by
  unfold spV
  rcases h with h | h
  · have h0 : decide (N < 0) = true := by simpa using h
    go_enter Tryz.func128, Tryz.ntmps128
    go_upto_region 1 with (fail)
    go_quiet (fail)
    go_wp2
    go_ret
    exact ⟨rfl, ((Below.refl _ w).alloc (Nat.le_refl _) _).trans (below_drewN (Below.refl _ _) nq)⟩
  · have h0 : decide (N < 0) = false := by simp; omega
    have h1 : decide (2048 < N) = true := by simpa using h
    go_enter Tryz.func128, Tryz.ntmps128
    go_upto_region 1 with (fail)
    go_quiet (fail)
    go_wp2
    go_ret
    exact ⟨rfl, ((Below.refl _ w).alloc (Nat.le_refl _) _).trans (below_drewN (Below.refl _ _) nq)⟩

theorem may_len (N : Nat) (a : Option Addr) (n cap : Nat) (w : World) (hN : N ≤ 2048) (h : n ≠ (N + 7) / 8) :
    Calls Tryz.prog 128 #[.agg (spV N a n cap)] w fun e w' => e = .returned (.bool false) ∧ Below w.heap.size w w' := by
  unfold spV
  have h0 : decide ((N : Int) < 0) = false := by simp
  have h1 : decide ((2048 : Int) < (N : Int)) = false := by simp; omega
  generalize hm : (N + 7) / 8 = m at *
  have HM := Lib.hid hm
  have h2 : ((n : Int) != (m : Int)) = true := by simp; omega
  have CO := Lib.hid (fun u => octets_anyS N u hN)
  rw [hm] at CO
  clear hm
  go_enter Tryz.func128, Tryz.ntmps128
  go_upto_region 1 with (fail)
  go_quiet ((go_at_call 133; exact quiet_left (CO.out _)))
  go_wp2
  go_ret
  exact ⟨rfl, ((Below.refl _ w).alloc (Nat.le_refl _) _).trans (below_drewN (Below.refl _ _) nq)⟩

theorem may_full (N : Nat) (a : Option Addr) (n cap : Nat) (w : World) (hN : N ≤ 2048) (h : n = (N + 7) / 8) (h8 : N % 8 = 0) :
    Calls Tryz.prog 128 #[.agg (spV N a n cap)] w fun e w' => e = .returned (.bool true) ∧ Below w.heap.size w w' := by
  unfold spV
  have h0 : decide ((N : Int) < 0) = false := by simp
  have h1 : decide ((2048 : Int) < (N : Int)) = false := by simp; omega
  have h3 : (N : Int) % 8 = 0 := by omega
  have HM := Lib.hid h
  have CO := Lib.hid (fun u => octets_anyS N u hN)
  rw [← h] at CO
  clear h h8
  go_enter Tryz.func128, Tryz.ntmps128
  go_upto_region 1 with (fail)
  go_quiet ((go_at_call 133; exact quiet_left (CO.out _)))
  go_wp2
  go_ret
  exact ⟨rfl, ((Below.refl _ w).alloc (Nat.le_refl _) _).trans (below_drewN (Below.refl _ _) nq)⟩

theorem may_part (N : Nat) (a : Option Addr) (n cap : Nat) (l : List UInt8) (w : World) (hN : N ≤ 2048) (hb : BytesAt w a n cap l) (h : n = (N + 7) / 8) (h8 : N % 8 ≠ 0) :
    Calls Tryz.prog 128 #[.agg (spV N a n cap)] w fun e w' => e = .returned (.bool ((l.getD (n - 1) 0).toNat / 2 ^ (N % 8) == 0)) ∧ Below w.heap.size w w' := by
  obtain ⟨b, off, rfl, hc⟩ := hb.at (by omega)
  obtain ⟨m, rfl⟩ : ∃ m, n = m + 1 := ⟨n - 1, by omega⟩
  have hcm := hc m (by omega)
  have hmb : m ≤ 256 := by omega
  have hbl := block_lt hcm
  have h0 : decide ((N : Int) < 0) = false := by simp
  have h1 : decide ((2048 : Int) < (N : Int)) = false := by simp; omega
  obtain ⟨r, hr⟩ : ∃ r : Nat, r = N % 8 := ⟨_, rfl⟩
  have h3 : (N : Int) % 8 = (r : Int) := by omega
  have h4 : ((r : Int) == 0) = false := by simp; omega
  have hr8 : r < 8 := by omega
  have HM := Lib.hid h
  have CO := Lib.hid (fun u => octets_anyS N u hN)
  rw [← h] at CO
  have HR := Lib.hid hr
  generalize hx : (l.getD m 0).toNat = x at *
  have HX := Lib.hid hx
  have hcell : (w.alloc (.cells (spV N (some ⟨b, off, none⟩) (m + 1) cap) 101)).cell? ⟨b, off + m, none⟩ = some (.int .u8 x) := ((Below.refl _ w).alloc (Nat.le_refl _) _).cell (p := ⟨b, off + m, none⟩) hbl |>.trans hcm
  clear h hb hc hcm h8 hr hx
  unfold spV at *
  go_enter Tryz.func128, Tryz.ntmps128
  go_upto_region 1 with (fail)
  go_quiet ((go_at_call 133; exact quiet_left (CO.out _)))
  go_wp2
  go_ret
  refine ⟨?_, ((Below.refl _ w).alloc (Nat.le_refl _) _).trans (below_drewN (Below.refl _ _) nq)⟩
  have e1 : (l[m]?.getD 0).toNat = x := HX.out
  rw [e1, ← HR.out]
  refine congrArg (fun b => Ending.returned (.bool b)) ?_
  have e2 : ((x : Int) / 2 ^ r) = ((x / 2 ^ r : Nat) : Int) := by rw [Int.natCast_ediv, Int.natCast_pow]; rfl
  show ((x : Int) / 2 ^ r == 0) = _
  rw [e2]
  rw [Bool.eq_iff_iff]
  simp only [beq_iff_eq]
  omega

/-- may a space be: the function answers as the words say -/
theorem may_any (N : Int) (a : Option Addr) (n cap : Nat) (l : List UInt8) (w : World) (hb : BytesAt w a n cap l) :
    Calls Tryz.prog 128 #[.agg (spV N a n cap)] w fun e w' => e = .returned (.bool (mayS N l)) ∧ Below w.heap.size w w' := by
  have hl := hb.1
  by_cases h1 : N < 0 ∨ 2048 < N
  · have : mayS N l = false := by
      unfold mayS
      rcases h1 with h1 | h1
      · have : ¬ 0 ≤ N := by omega
        simp [this]
      · have : ¬ N ≤ 2048 := by omega
        simp [this]
    rw [this]
    exact may_out N a n cap w h1
  · obtain ⟨M, rfl⟩ : ∃ M : Nat, N = M := ⟨N.toNat, by omega⟩
    have hM : M ≤ 2048 := by omega
    by_cases h2 : n = (M + 7) / 8
    · by_cases h3 : M % 8 = 0
      · have : mayS M l = true := by
          simp only [mayS, Bool.and_eq_true, decide_eq_true_eq, List.all_eq_true, List.mem_range, Bool.or_eq_true, Int.toNat_natCast]
          exact ⟨⟨⟨by omega, by omega⟩, by omega⟩, fun p hp => .inl (by omega)⟩
        rw [this]
        exact may_full M a n cap w hM h2 h3
      · refine (may_part M a n cap l w hM hb h2 h3).mono ?_
        rintro e w' ⟨rfl, hb'⟩
        refine ⟨congrArg (fun b => Ending.returned (.bool b)) ?_, hb'⟩
        rw [Bool.eq_iff_iff]
        simp only [mayS, Bool.and_eq_true, decide_eq_true_eq, List.all_eq_true, List.mem_range, Bool.or_eq_true, Int.toNat_natCast, beq_iff_eq, Bool.not_eq_true']
        constructor
        · intro h
          refine ⟨⟨⟨by omega, by omega⟩, by omega⟩, fun p hp => ?_⟩
          by_cases hpM : p < M
          · exact .inl hpM
          · right
            unfold bitU
            have e1 : p / 8 = n - 1 := by omega
            have e2 : M % 8 ≤ p % 8 := by omega
            rw [e1]
            apply Nat.testBit_lt_two_pow
            refine Nat.lt_of_lt_of_le ?_ (Nat.pow_le_pow_right (n := 2) (by omega) e2)
            have := Nat.div_eq_zero_iff.1 h
            have hp : 0 < 2 ^ (M % 8) := Nat.pow_pos (by omega)
            omega
        · rintro ⟨_, h⟩
          apply Nat.div_eq_of_lt
          refine Nat.lt_of_not_le fun hle => ?_
          obtain ⟨j, hj, hj2⟩ := Nat.exists_ge_and_testBit_of_ge_two_pow hle
          have hj8 : j < 8 := by
            refine Nat.lt_of_not_le fun h8 => ?_
            rw [Nat.testBit_lt_two_pow (Nat.lt_of_lt_of_le (UInt8.toNat_lt _) (Nat.pow_le_pow_right (n := 2) (by omega) h8))] at hj2
            cases hj2
          have := (h (8 * (n - 1) + j) (by omega)).resolve_left (by omega)
          unfold bitU at this
          rw [show (8 * (n - 1) + j) / 8 = n - 1 by omega, show (8 * (n - 1) + j) % 8 = j by omega, hj2] at this
          cases this
    · have : mayS M l = false := by
        unfold mayS
        have : ¬ l.length = (M + 7) / 8 := by omega
        simp [this]
      rw [this]
      exact may_len M a n cap w hM h2

/-! ### rows of one's own -/
section
variable {w w' : World} {base base' : Nat} {t : TypeId} {sz n : Nat} {v : Value} {xs : List Value}
theorem owned_low (h : w.ownsRow base t sz v n xs) (hb : base' ≤ base) : w.ownsRow base' t sz v n xs := by
  refine ⟨h.1, ?_⟩
  rcases h.2 with hn | ⟨g, cap, cur, rfl, hbg, rest⟩
  · exact .inl hn
  · exact .inr ⟨g, cap, cur, rfl, by omega, rest⟩
theorem owned_keep (h : w.ownsRow base t sz v n xs) (hk : ∀ k, v.ownBlock = some k → w'.heap[k]? = w.heap[k]?) : w'.ownsRow base t sz v n xs := by
  refine ⟨h.1, ?_⟩
  rcases h.2 with hn | ⟨g, cap, cur, rfl, hbg, hg, rest⟩
  · exact .inl hn
  · exact .inr ⟨g, cap, cur, rfl, hbg, (hk g rfl).trans hg, rest⟩
theorem owned_ne (h : w.ownsRow base t sz v n xs) {g : Nat} {cs : Array Value} {t' : TypeId} {fr : Nat × Nat} (hg : w.heap[g]? = some (.cells cs t' fr)) (ht : t ≠ t') : ∀ k, v.ownBlock = some k → k ≠ g := by
  intro k hk hkg
  subst hkg
  rcases h.2 with ⟨rfl, _⟩ | ⟨g', cap, cur, rfl, hbg, hg', rest⟩
  · simp [Value.ownBlock] at hk
  · simp only [Value.ownBlock, Option.some.injEq] at hk
    subst hk
    rw [hg] at hg'
    injection hg' with hg'
    injection hg' with _ hg'
    exact ht hg'.symm
theorem owned_setRow (h : w.ownsRow base t sz v n xs) {g : Nat} {cs cs' : Array Value} {t' : TypeId} {fr : Nat × Nat} (hg : w.heap[g]? = some (.cells cs t' fr)) (ht : t ≠ t') : (w.setRow g cs').ownsRow base t sz v n xs :=
  owned_keep h fun k hk => heap_setRow_other w g k cs' (owned_ne h hg ht k hk)
theorem owned_setCell (h : w.ownsRow base t sz v n xs) {g i : Nat} {u : Value} {cs : Array Value} {t' : TypeId} {fr : Nat × Nat} (hg : w.heap[g]? = some (.cells cs t' fr)) (ht : t ≠ t') : (w.setCell ⟨g, i, none⟩ u).ownsRow base t sz v n xs :=
  owned_keep h fun k hk => heap_setCell_other w ⟨g, i, none⟩ k u (owned_ne h hg ht k hk)
end

/-! ### boxes -/
theorem box_keep {w u : World} {o : Obj} (h : Below (w.alloc o).heap.size (w.alloc o) u) : u.heap[w.heap.size]? = some o := (h.block _ (by simp)).trans (heap_alloc_new w o)
theorem sp_cells {w : World} {g : Nat} {N : Int} {a : Option Addr} {n cap : Nat} (h : w.heap[g]? = some (.cells (spV N a n cap) 101 (0, 0))) : w.cell? ⟨g, 0, none⟩ = some (.int .i64 N) ∧ w.cell? ⟨g, 1, none⟩ = some (.slice a n cap) :=
  ⟨by rw [cell_of_row _ _ _ _ _ _ h]; rfl, by rw [cell_of_row _ _ _ _ _ _ h]; rfl⟩

/-- the space by value (N, slice) is that of the flags F -/
structure SpAt (w : World) (N : Int) (a : Option Addr) (n cap : Nat) (F : List Bool) : Prop where
  len : F.length ≤ 2048
  num : N = F.length
  oct : BytesAt w a n cap (packB F)
theorem SpAt.below {w w' : World} {N : Int} {a : Option Addr} {n cap : Nat} {F : List Bool} (h : SpAt w N a n cap F) (hb : Below w.heap.size w w') : SpAt w' N a n cap F := ⟨h.len, h.num, h.oct.below hb⟩
theorem SpAt.size {w : World} {N : Int} {a : Option Addr} {n cap : Nat} {F : List Bool} (h : SpAt w N a n cap F) : n = (F.length + 7) / 8 := by have := h.oct.1; rw [packB_length] at this; exact this.symm
theorem SpAt.may {w : World} {N : Int} {a : Option Addr} {n cap : Nat} {F : List Bool} (h : SpAt w N a n cap F) :
    Calls Tryz.prog 128 #[.agg (spV N a n cap)] w fun e w' => e = .returned (.bool true) ∧ Below w.heap.size w w' := by
  have := may_any N a n cap _ w h.oct
  rw [show mayS N (packB F) = true by rw [h.num]; exact mayS_pack F h.len] at this
  exact this

theorem used_ok (p : Int) (N : Int) (a : Option Addr) (n cap : Nat) (F : List Bool) (w : World) (h : SpAt w N a n cap F) :
    Calls Tryz.prog 86 #[.agg (spV N a n cap), .int .i64 p] w fun e w' => e = .returned (.bool (decide (0 ≤ p) && F.getD p.toNat false)) ∧ Below w.heap.size w w' := by
  have CH := Lib.hid (fun u => has_any N p a n cap u)
  have hb0 : Below w.heap.size w (w.alloc (.cells (spV N a n cap) 101)) := (Below.refl _ w).alloc (Nat.le_refl _) _
  have CM := Lib.hid ((h.below hb0).may)
  have hlen := h.len
  have hnum := h.num
  by_cases hp : 0 ≤ p ∧ p < N
  · obtain ⟨q, rfl⟩ : ∃ q : Nat, p = q := ⟨p.toNat, by omega⟩
    have e1 : (decide (0 ≤ (q : Int)) && decide ((q : Int) < N)) = true := by simp; omega
    have hq : q / 8 < n := by rw [h.size]; omega
    have CU := Lib.hid (fun u (hu : Below w.heap.size w u) => isused_any N q a n cap _ u (by omega) (h.oct.below hu) hq)
    rw [e1] at CH
    rw [packB_bit] at CU
    have e2 : (decide (0 ≤ (q : Int)) && F.getD (q : Int).toNat false) = F.getD q false := by simp
    rw [e2]
    generalize F.getD q false = r at *
    clear hq e1 hp e2 h hlen hnum
    unfold spV at *
    go_enter Tryz.func86, Tryz.ntmps86
    go_wp2_with fail
    refine (CM.out).mono ?_
    rintro e w1 ⟨rfl, hb1⟩
    obtain ⟨c0, c1⟩ := sp_cells (box_keep hb1)
    have hb1' := hb0.trans (hb1.mono hb0.size)
    have hlt : w.heap.size < w1.heap.size := Nat.lt_of_lt_of_le (by simp) hb1.size
    go_wp2_with fail
    refine (CH.out _).mono ?_
    rintro e w2 ⟨rfl, hb2⟩
    have d0 := (hb2.cell (p := ⟨w.heap.size, 0, none⟩) hlt).trans c0
    have d1 := (hb2.cell (p := ⟨w.heap.size, 1, none⟩) hlt).trans c1
    have hb2' := hb1'.trans (hb2.mono hb1'.size)
    go_wp2_with fail
    refine (CU.out _ hb2').mono ?_
    rintro e w3 ⟨rfl, hb3⟩
    go_wp2
    go_ret
    exact ⟨rfl, hb2'.trans (hb3.mono hb2'.size)⟩
  · have e1 : (decide (0 ≤ p) && decide (p < N)) = false := by
      rw [Bool.and_eq_false_iff, decide_eq_false_iff_not, decide_eq_false_iff_not]
      omega
    have e2 : (decide (0 ≤ p) && F.getD p.toNat false) = false := by
      by_cases h0 : 0 ≤ p
      · rw [List.getD, List.getElem?_eq_none (by omega)]; simp
      · simp [h0]
    rw [e1] at CH
    rw [e2]
    clear e1 hp e2 h hlen hnum
    unfold spV at *
    go_enter Tryz.func86, Tryz.ntmps86
    go_wp2_with fail
    refine (CM.out).mono ?_
    rintro e w1 ⟨rfl, hb1⟩
    obtain ⟨c0, c1⟩ := sp_cells (box_keep hb1)
    have hb1' := hb0.trans (hb1.mono hb0.size)
    go_wp2_with fail
    refine (CH.out _).mono ?_
    rintro e w2 ⟨rfl, hb2⟩
    go_wp2
    go_ret
    exact ⟨rfl, hb1'.trans (hb2.mono hb1'.size)⟩

theorem results_cell_slot {P : Program} {fn : Func} {p q : Tmp} {ty : TypeId} (h : fn.results = #[.cell p ty, .tmp q]) (tmps : Array Value) (w : World) (g : Nat) (t : TypeId) (cs : Array Value) (fr : Nat × Nat) (d : TypeDesc) (v : Value)
    (hp : tmps.getD p undef = .pointer (some ⟨g, 0, none⟩)) (hg : w.heap[g]? = some (.cells cs t fr)) (hq : tmps.getD q undef = v)
    (hu : P.underlying ty = some d) (hd : (match d with | .struct _ | .array _ _ => true | _ => false) = true) (hi : (P.info? ty).map (·.size) = some cs.size) :
    (results fn tmps).run P w = .ok (.tuple #[.agg cs, v]) w := by
  have hp' : tmps[p]?.getD undef = .pointer (some ⟨g, 0, none⟩) := by simpa using hp
  have hq' : tmps[q]?.getD undef = v := by simpa using hq
  simp [results, h, hp', hq', asAddr, run_loadVar_row w g t ty cs fr d hg hu hd hi]
theorem results_cell_slots {P : Program} {fn : Func} {p q r : Tmp} {ty : TypeId} (h : fn.results = #[.cell p ty, .tmp q, .tmp r]) (tmps : Array Value) (w : World) (g : Nat) (t : TypeId) (cs : Array Value) (fr : Nat × Nat) (d : TypeDesc) (v v' : Value)
    (hp : tmps.getD p undef = .pointer (some ⟨g, 0, none⟩)) (hg : w.heap[g]? = some (.cells cs t fr)) (hq : tmps.getD q undef = v) (hr : tmps.getD r undef = v')
    (hu : P.underlying ty = some d) (hd : (match d with | .struct _ | .array _ _ => true | _ => false) = true) (hi : (P.info? ty).map (·.size) = some cs.size) :
    (results fn tmps).run P w = .ok (.tuple #[.agg cs, v, v']) w := by
  have hp' : tmps[p]?.getD undef = .pointer (some ⟨g, 0, none⟩) := by simpa using hp
  have hq' : tmps[q]?.getD undef = v := by simpa using hq
  have hr' : tmps[r]?.getD undef = v' := by simpa using hr
  simp [results, h, hp', hq', hr', asAddr, run_loadVar_row w g t ty cs fr d hg hu hd hi]

/-- a space by value in new memory, of the flags F -/
def FreshSp (P : Value → Value) (F : List Bool) (w : World) (e : Ending) (w' : World) : Prop :=
  ∃ a n cap, e = .returned (P (.agg (spV F.length a n cap))) ∧ w'.ownsRow w.heap.size 5 1 (.slice a n cap) n (vals (packB F)) ∧ Below w.heap.size w w'
theorem FreshSp.at {w w' : World} {a : Option Addr} {n cap : Nat} {F : List Bool} (hF : F.length ≤ 2048) (h : w'.ownsRow w.heap.size 5 1 (.slice a n cap) n (vals (packB F))) : SpAt w' F.length a n cap F := ⟨hF, rfl, BytesAt.owned h⟩

theorem packB_zero (N : Nat) : packB (List.replicate N false) = List.replicate ((N + 7) / 8) 0 := by
  refine bit_ext _ _ (by simp [packB_length]) fun p hp => ?_
  rw [packB_bit]
  unfold bitU
  have h1 : (List.replicate N false).getD p false = false := by simp only [List.getD, List.getElem?_replicate]; split <;> rfl
  have h2 : (List.replicate ((N + 7) / 8) (0 : UInt8)).getD (p / 8) 0 = 0 := by simp only [List.getD, List.getElem?_replicate]; split <;> rfl
  rw [h1, h2]; simp

theorem mk_octets (m : Nat) (hm : m ≤ 1048576) (u : World) : (Instr.makeSlice 49 (.int .i64 m) (.int .i64 m)).run Tryz.prog u = .ok (.slice (some ⟨u.heap.size, 0, none⟩) m m) (u.alloc (.cells (madeCells #[.int .u8 0] m) 5)) := by
  obtain ⟨i0, hi, hz0, hz1, hz2⟩ := info_parts infoU8
  have := run_make u 49 5 i0 _ Tryz.underlying49 hi hz0 .i64 .i64 m m (by omega) (by omega) (by rw [hz2]; omega) (by omega)
  rw [hz1] at this
  simpa [Value.cells] using this
theorem new_ok (N : Nat) (w : World) (h : N ≤ 2048) :
    Calls Tryz.prog 92 #[.int .i64 N] w (FreshSp (fun v => .tuple #[v, .int .i64 0]) (List.replicate N false) w) := by
  have h0 : decide ((N : Int) < 0) = false := by simp
  have h1 : decide ((2048 : Int) < (N : Int)) = false := by simp; omega
  obtain ⟨m, hm⟩ : ∃ m, m = (N + 7) / 8 := ⟨_, rfl⟩
  have CO := Lib.hid (fun u => octets_anyS N u h)
  rw [← hm] at CO
  have hmb : m ≤ 256 := by omega
  have hmk := mk_octets m (by omega)
  have HM := Lib.hid hm
  clear hm
  have hmc : (madeCells #[.int .u8 0] m).toList = vals (List.replicate m 0) := by rw [toList_madeCells_one]; unfold vals; rw [List.map_replicate]; rfl
  have HC := Lib.hid hmc
  clear hmc
  generalize madeCells #[.int .u8 0] m = C at *
  go_enter Tryz.func92, Tryz.ntmps92
  go_wp2_with fail
  refine (CO.out _).mono ?_
  rintro e w1 ⟨rfl, rfl⟩
  go_wp2
  refine bodyPost_ret (v := .tuple #[.agg (spV N (some ⟨w.heap.size + 1, 0, none⟩) m m), .int .i64 0]) (results_cell_slot rfl _ _ w.heap.size 101 (spV N (some ⟨w.heap.size + 1, 0, none⟩) m m) (0, 0) _ _ rfl (heap_alloc2_old _ _ _) rfl Tryz.underlying101 rfl sizeSp) rfl ⟨some ⟨w.heap.size + 1, 0, none⟩, m, m, ?_, ?_, ((Below.refl _ _).alloc (Nat.le_refl _) _).alloc (by simp) _⟩
  · rw [List.length_replicate]
  · rw [packB_zero, ← HM.out, ← HC.out]
    have hCl : C.size = m := by have := congrArg List.length HC.out; simpa [vals_length] using this
    exact ⟨by simp [hCl], .inr ⟨w.heap.size + 1, m, C, rfl, by omega, heap_alloc2_new _ _ _, Nat.le_refl _, by unfold maxLen; omega, by omega, by rw [Nat.mul_one, List.take_of_length_le]; simp; omega⟩⟩

theorem bit_flip (x : UInt8) (j : Nat) (hj : j < 8) : bits .xor .u8 (x.toNat : Int) ((2 ^ j : Nat) : Int) = ((UInt8.ofNat (x.toNat ^^^ 2 ^ j)).toNat : Int) := by
  have : x.toNat ^^^ 2 ^ j < 256 := Nat.xor_lt_two_pow (n := 8) (UInt8.toNat_lt _) (two_pow_lt _ hj)
  rw [u8_xor_nat _ _ x.toNat_lt (two_pow_lt j hj), UInt8.toNat_ofNat']
  congr 1
  omega
theorem vals_set (l : List UInt8) (i : Nat) (x : UInt8) : (vals l).set i (.int .u8 x.toNat) = vals (l.set i x) := by simp [vals, List.map_set]

theorem flip_any (N : Int) (p : Nat) (base g n cap : Nat) (F : List Bool) (w : World) (hp : p < F.length) (hF : F.length ≤ 2048) (h : w.ownsRow base 5 1 (.slice (some ⟨g, 0, none⟩) n cap) n (vals (packB F))) :
    Calls Tryz.prog 137 #[.agg (spV N (some ⟨g, 0, none⟩) n cap), .int .i64 p] w fun e w' => e = .returned (.tuple #[]) ∧
      w'.ownsRow base 5 1 (.slice (some ⟨g, 0, none⟩) n cap) n (vals (packB (F.set p (!F.getD p false)))) ∧ Only (· = g) w w' := by
  have hn : n = (F.length + 7) / 8 := by have := h.1; rw [vals_length, packB_length] at this; omega
  obtain ⟨q, HQ, hwq⟩ := place_of p (by omega)
  have hqn : q < n := by have := HQ.out; omega
  have hcq := World.ownsRow.cellAt h q (by omega)
  rw [vals_at _ _ (by rw [packB_length, ← hn]; exact hqn)] at hcq
  have hqi : (q : Int) < n := by omega
  have hgl : g < w.heap.size := block_lt hcq
  have hb0 : Below w.heap.size w (w.alloc (.cells (spV N (some ⟨g, 0, none⟩) n cap) 101)).drew := ((Below.refl _ w).alloc (Nat.le_refl _) _).drew
  have hown := owned_below h hb0
  have hfl := packB_flip F p hp
  rw [← HQ.out] at hfl
  have hst := World.ownsRow.stored h q (.int .u8 ((UInt8.ofNat (((packB F).getD q 0).toNat ^^^ 2 ^ (p % 8))).toNat : Int))
  rw [vals_set, hfl] at hst
  have hbf := bit_flip ((packB F).getD q 0) (p % 8) (by omega)
  have CB := Lib.hid (fun u => bit_any p u (by omega))
  have hfr : ∀ i, (w.alloc (.cells (spV N (some ⟨g, 0, none⟩) n cap) 101)).drew.frozen? ⟨g, i, none⟩ = false := by
    intro i
    rcases hown.2 with ⟨h', _⟩ | ⟨g', cap', cur, h', _, hg', _⟩
    · simp at h'
    · simp only [Value.slice.injEq, Option.some.injEq, Addr.mk.injEq, and_true] at h'
      obtain ⟨rfl, _⟩ := h'
      exact frozen_of_row _ _ _ _ _ hg'
  have hf := hfr q
  have hcell : (w.alloc (.cells (spV N (some ⟨g, 0, none⟩) n cap) 101)).drew.cell? ⟨g, q, none⟩ = some (.int .u8 (((packB F).getD q 0).toNat : Int)) := (hb0.cell (p := ⟨g, q, none⟩) hgl).trans (by simpa using hcq)
  have HST := Lib.hid hst
  have HB := Lib.hid hb0
  clear hst hfl hown hfr hcq h hb0 hn
  generalize UInt8.ofNat (((packB F).getD q 0).toNat ^^^ 2 ^ (p % 8)) = y at *
  generalize (packB F).getD q 0 = x at *
  rw [Int.natCast_pow] at hbf
  have hbf2 : bits BinOp.xor IntKind.u8 (x.toNat : Int) (2 ^ (p % 8)) = (y.toNat : Int) := hbf
  have HBF := Lib.hid hbf2
  clear hbf hbf2
  unfold spV at *
  go_enter Tryz.func137, Tryz.ntmps137
  go_upto_region 1 with (fail)
  refine region_still_tail 10 (by kernel_rfl) (by kernel_rfl) ?_
  simp only [List.take_succ_cons, List.take_zero, List.drop_succ_cons, List.drop_zero]
  iterate 7 still_step
  still_call ((CB.out _).mono fun _ _ hh => ⟨hh.1, hh.2.symm⟩)
  repeat still_step
  refine wpStill_nil ?_
  go_wp2
  go_end0
  have HW := HST.out
  rw [HBF.out]
  have hk : ∀ u : World, Below u.heap.size u (u.alloc (.cells (spV N (some ⟨g, 0, none⟩) n cap) 101)).drew := fun u => ((Below.refl _ u).alloc (Nat.le_refl _) _).drew
  refine ⟨rfl, owned_below HW.1 (hk _), (Only.of_grown HW.2 (fun k hk => by simpa using hk.symm)).trans (Only.of_below (hk _)) (fun i _ hi => hi)⟩

end Go.Proofs.YtjcmphjjkeigjaaGreat

namespace Go.Proofs.YtjcmphjjkeigjaaGreat
open Go.RowKit
set_option linter.unusedVariables false
set_option linter.unusedSimpArgs false
set_option maxRecDepth 100000

theorem cloneo_nil (w : World) : Calls Tryz.prog 171 #[.slice none 0 0] w fun e w' => e = .returned (.slice none 0 0) ∧ w = w' := by
  have hq := fun u : World => Lib.run_eql_slice_nil (P := Tryz.prog) u 49 5 none 0 0 0 0 Tryz.underlying49
  go_enter Tryz.func171, Tryz.ntmps171
  go_wp2
  go_ret
  exact ⟨rfl, rfl⟩

theorem cloneo_any (a : Option Addr) (n cap : Nat) (l : List UInt8) (w : World) (h : BytesAt w a n cap l) (hn : n ≤ 1048576) :
    Calls Tryz.prog 171 #[.slice a n cap] w (FreshB id n l w) := by
  obtain ⟨i0, hi, hz0, hz1, hz2⟩ := info_parts infoU8
  cases a with
  | none =>
    rcases h.2.2.2 with ⟨_, rfl, rfl⟩ | ⟨x, hx, _⟩
    · refine (cloneo_nil w).mono ?_
      rintro e w' ⟨rfl, rfl⟩
      have : l = [] := List.eq_nil_of_length_eq_zero h.1
      subst this
      exact ⟨none, 0, rfl, World.ownsRow_nil _ _ _ _, Below.refl _ _⟩
    · cases hx
  | some x =>
    have hq := fun u : World => Lib.run_eql_slice_nil (P := Tryz.prog) u 49 5 (some x) n cap 0 0 Tryz.underlying49
    have hbs : ∀ u, (Instr.buildSlice 49 0 #[]).run Tryz.prog u = .ok (.slice (some ⟨u.heap.size, 0, none⟩) 0 0) (u.alloc (.cells #[] 5)) := fun u => by
      simp [Instr.buildSlice, run_underlying Tryz.underlying49, sizeOf, typeInfo, hi, Instr.fill, newRow, Array.range_zero']
    have hb0 : Below w.heap.size w (w.alloc (.cells #[] 5)) := (Below.refl _ _).alloc (Nat.le_refl _) _
    have HO := Lib.hid (show (w.alloc (.cells #[] 5)).ownsRow w.heap.size 5 1 (.slice (some ⟨w.heap.size, 0, none⟩) 0 0) 0 [] from ⟨rfl, .inr ⟨w.heap.size, 0, #[], rfl, Nat.le_refl _, heap_alloc_new w _, by omega, by unfold maxLen; omega, rfl, rfl⟩⟩)
    have HS := Lib.hid (h.below hb0)
    clear h hi hz0 hz1 hz2
    go_enter Tryz.func171, Tryz.ntmps171
    go_wp2_with (at_builtin; refine wpList_append_bytes rfl _ _ rfl w.heap.size (.slice (some ⟨w.heap.size, 0, none⟩) 0 0) 0 [] rfl HO.out (some x) n cap l rfl HS.out n (by omega) (by omega) hb0.size ?_; intro a3 cap3 w3 ho3 hg3)
    go_ret
    exact ⟨a3, cap3, rfl, by simpa using ho3, hb0.grown hg3 hb0.size (fun k hk => by simp [Value.ownBlock] at hk; omega)⟩

/-! ### how many are used -/
def cntF (F : List Bool) (n : Nat) : Nat := (List.range n).countP fun j => F.getD j false
theorem cntF_succ (F : List Bool) (n : Nat) : cntF F (n + 1) = cntF F n + (if F.getD n false then 1 else 0) := by
  unfold cntF
  rw [List.range_succ, List.countP_append, List.countP_singleton]
theorem cntF_eight (F : List Bool) (k : Nat) : cntF F (8 * (k + 1)) = cntF F (8 * k) + (List.range 8).countP fun j => F.getD (8 * k + j) false := by
  unfold cntF
  rw [show 8 * (k + 1) = 8 * k + 8 by omega, List.range_add, List.countP_append, List.countP_map]
  rfl
theorem cntF_take (F : List Bool) : ∀ n, cntF F n = (F.take n).count true
  | 0 => by simp [cntF]
  | n + 1 => by
    rw [cntF_succ, cntF_take F n]
    by_cases h : n < F.length
    · rw [List.take_succ_eq_append_getElem h, List.count_append, List.getD, List.getElem?_eq_getElem h, Option.getD_some]
      cases F[n] <;> simp
    · rw [List.getD, List.getElem?_eq_none (by omega), List.take_of_length_le (by omega), List.take_of_length_le (by omega)]; simp
theorem cntF_all (F : List Bool) (n : Nat) (h : F.length ≤ n) : cntF F n = F.count true := by rw [cntF_take, List.take_of_length_le h]
theorem ones_eq : ∀ n : Fin 256, Lib.onesCount n.val = (List.range 8).countP fun j => n.val.testBit j := by decide +kernel
theorem ones_oct (F : List Bool) (k : Nat) (h : k < (F.length + 7) / 8) : Lib.onesCount ((packB F).getD k 0).toNat = (List.range 8).countP fun j => F.getD (8 * k + j) false := by
  have := ones_eq ⟨((packB F).getD k 0).toNat, UInt8.toNat_lt _⟩
  simp only at this
  rw [this]
  apply List.countP_congr
  intro j hj
  have hj8 : j < 8 := by simpa using hj
  have hb := packB_bit F (8 * k + j)
  unfold bitU at hb
  rw [show (8 * k + j) / 8 = k by omega, show (8 * k + j) % 8 = j by omega] at hb
  rw [hb]

theorem clone_sp (N : Int) (a : Option Addr) (n cap : Nat) (F : List Bool) (w : World) (h : SpAt w N a n cap F) :
    Calls Tryz.prog 135 #[.agg (spV N a n cap)] w (FreshSp id F w) := by
  have hnum := h.num
  subst hnum
  have hsz := h.size
  have hlen := h.len
  have hb0 : Below w.heap.size w (((w.alloc (.cells (spV F.length a n cap) 101)).alloc (.cells (spV 0 none 0 0) 101)).drew) := (((Below.refl _ w).alloc (Nat.le_refl _) _).alloc (by simp) _).drew
  have CC := Lib.hid (cloneo_any a n cap (packB F) _ (h.oct.below hb0) (by omega))
  have hc0 : (((w.alloc (.cells (spV F.length a n cap) 101)).alloc (.cells (spV 0 none 0 0) 101)).drew).heap[w.heap.size]? = some (.cells (spV F.length a n cap) 101 (0, 0)) := heap_alloc2_old _ _ _
  have hc1 : (((w.alloc (.cells (spV F.length a n cap) 101)).alloc (.cells (spV 0 none 0 0) 101)).drew).heap[w.heap.size + 1]? = some (.cells (spV 0 none 0 0) 101 (0, 0)) := heap_alloc2_new _ _ _
  have hs2 : (((w.alloc (.cells (spV F.length a n cap) 101)).alloc (.cells (spV 0 none 0 0) 101)).drew).heap.size = w.heap.size + 2 := by show ((w.alloc _).alloc _).heap.size = _; simp
  obtain ⟨d0, d1⟩ := sp_cells hc0
  have HB := Lib.hid hb0
  have HC1 := Lib.hid hc1
  have HS2 := Lib.hid hs2
  have HC0 := Lib.hid hc0
  clear h hsz hb0 hc0 hc1 hs2
  unfold spV at *
  go_enter Tryz.func135, Tryz.ntmps135
  go_upto_region 1 with (fail)
  refine region_head 6 [0, 1, 2, 3, 4, 5] [4] (fun u => u.cell? ⟨w.heap.size, 0, none⟩ = some (.int .i64 (F.length : Int)) ∧ u.cell? ⟨w.heap.size, 1, none⟩ = some (.slice a n cap)) (by kernel_rfl) (by kernel_rfl) ⟨d0, d1⟩ ?_
  simp only [pickO, List.filterMap_cons, List.filterMap_nil, List.getElem?_cons_zero, List.getElem?_cons_succ, Option.map_some, List.drop_succ_cons, List.drop_zero]
  clear d0 d1
  iterate 4
    refine seqH_read _ rfl rfl (by rintro u ⟨hu1, hu2⟩; go_simp; with_reducible rfl) ?_
    try simp only [Act.put, List.setIfInBounds_toArray, List.set_cons_zero, List.set_cons_succ]
  refine seqH_move rfl rfl (fun K hK => ?_)
  go_simp
  refine (CC.out).mono ?_
  rintro e w1 ⟨a1, cap1, rfl, ho1, hb1⟩
  have hx0 := (hb1.block w.heap.size (by rw [HS2.out]; omega)).trans HC0.out
  have hx1 := (hb1.block (w.heap.size + 1) (by rw [HS2.out]; omega)).trans HC1.out
  obtain ⟨d0, d1⟩ := sp_cells hx0
  refine hK _ _ ⟨d0, d1⟩ ?_
  clear hK K d0 d1
  try simp only [Act.put, List.setIfInBounds_toArray, List.set_cons_zero, List.set_cons_succ]
  refine seqH_read _ rfl rfl (by rintro u ⟨hu1, hu2⟩; go_simp; with_reducible rfl) ?_
  try simp only [Act.put, List.setIfInBounds_toArray, List.set_cons_zero, List.set_cons_succ]
  refine seqH_nil ?_
  go_wp2_with (refine wpList_store_row rfl _ _ _ rfl (w.heap.size + 1) (spV F.length a1 n cap1) rfl rfl 101 _ hx1 sizeSp rfl (spV_one _ _ _ _) ?_)
  refine bodyPost_ret (v := .agg (spV F.length a1 n cap1)) (results_cell_row rfl _ _ (w.heap.size + 1) 101 (spV F.length a1 n cap1) (0, 0) _ rfl (heap_setRow_same _ _ _ _ _ hx1) Tryz.underlying101 rfl sizeSp) rfl ⟨a1, n, cap1, rfl, ?_, ?_⟩
  · have ho2 : w1.ownsRow w.heap.size 5 1 (.slice a1 n cap1) n (vals (packB F)) := owned_low ho1 (by rw [HS2.out]; omega)
    exact owned_setRow ho2 hx1 (by decide)
  · exact below_setRow (HB.out.trans (hb1.mono (by have := HS2.out; omega))) (by omega) _

theorem ones_any (x : Int) (w : World) (h0 : 0 ≤ x) (h1 : x ≤ 255) :
    Calls Tryz.prog 131 #[.int .u8 x] w fun e w' => e = .returned (.int .i64 (Lib.onesCount x.toNat)) ∧ w' = w := by
  rw [← Lib.pop8_int x h0 h1]
  go_enter Tryz.func131, Tryz.ntmps131
  go_wp2
  go_ret
  refine ⟨congrArg (fun n => Ending.returned (.int .i64 n)) ?_, rfl⟩
  show wrap64 (Lib.pop8 x) = _
  generalize Lib.pop8 x = y
  unfold wrap64
  omega

theorem count_ok (N : Int) (a : Option Addr) (n cap : Nat) (F : List Bool) (w : World) (h : SpAt w N a n cap F) :
    Calls Tryz.prog 87 #[.agg (spV N a n cap)] w fun e w' => e = .returned (.int .i64 (F.count true : Nat)) ∧ Below w.heap.size w w' := by
  have hb0 : Below w.heap.size w (w.alloc (.cells (spV N a n cap) 101)) := (Below.refl _ w).alloc (Nat.le_refl _) _
  have CM := Lib.hid ((h.below hb0).may)
  have HS := Lib.hid h
  have HN := Lib.hid h.size
  have hn : n ≤ 256 := by have := h.size; have := h.len; omega
  unfold spV at *
  clear h
  go_enter Tryz.func87, Tryz.ntmps87
  go_wp2_with fail
  refine (CM.out).mono ?_
  rintro e w1 ⟨rfl, hb1⟩
  obtain ⟨c0, c1⟩ := sp_cells (box_keep hb1)
  have hb1' := hb0.trans (hb1.mono hb0.size)
  have HB1 := Lib.hid hb1'
  have HO := Lib.hid (HS.out.oct.below hb1')
  clear hb0 hb1 hb1'
  go_wp2
  go_loop [3, 12] (fun c i => ∃ k : Nat, k ≤ n ∧ i = .int .i64 k ∧ c = .int .i64 (cntF F (8 * k) : Nat)) (fun _ i => n - (intOf i).toNat)
  case atStart => exact ⟨0, Nat.zero_le _, rfl, rfl⟩
  case round =>
    obtain ⟨k, hk, rfl, rfl⟩ := hrel
    by_cases hlt : k < n
    · obtain ⟨b, off, rfl, hc⟩ := HO.out.at (by omega)
      have hck := hc k hlt
      have hxl : ((packB F).getD k 0).toNat < 256 := UInt8.toNat_lt _
      have CO := Lib.hid (fun u => ones_any (((packB F).getD k 0).toNat : Int) u (by omega) (by omega))
      have h8 := cntF_eight F k
      rw [← ones_oct F k (by rw [← HN.out]; exact hlt)] at h8
      have hki : (k : Int) < n := by omega
      have hcb : cntF F (8 * k) ≤ 8 * k := by unfold cntF; have := List.countP_le_length (p := fun j => F.getD j false) (l := List.range (8 * k)); simpa using this
      have hob := Lib.onesCount_le8 ⟨((packB F).getD k 0).toNat, hxl⟩
      simp only [Int.toNat_natCast] at CO
      simp only at hob
      generalize cntF F (8 * k) = c at *
      generalize Lib.onesCount ((packB F).getD k 0).toNat = d at *
      generalize ((packB F).getD k 0).toNat = x at *
      have H8 := Lib.hid h8
      clear hc h8 hxl
      go_wp2_with (go_at_call 131; refine (CO.out _).mono ?_; rintro e w2 ⟨rfl, rfl⟩)
      exact ⟨⟨k + 1, by omega, by simp, by rw [H8.out]; simp⟩, by simp [intOf]; omega⟩
    · obtain rfl : k = n := by omega
      have h9 := cntF_all F (8 * k) (by rw [HN.out]; omega)
      rw [h9]
      go_wp2
      go_ret
      exact ⟨rfl, HB1.out⟩

end Go.Proofs.YtjcmphjjkeigjaaGreat
