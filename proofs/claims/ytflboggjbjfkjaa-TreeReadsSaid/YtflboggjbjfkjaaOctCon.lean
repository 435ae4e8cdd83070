/-
  Contracts of package octet: Put, PutText, Pad, Num, for every argument that is no greater than a slice may be.
-/
import Derived.Test.YtflboggjbjfkjaaOctMem
import Derived.Laws.CopyOwn
namespace Go.Proofs.Ytflboggjbjfkjaa
open Go.RowKit
set_option linter.unusedVariables false
set_option linter.unusedSimpArgs false

theorem mayWidth_yes (n : Int) (w : World) (h1 : 1 ≤ n) (h2 : n ≤ 8) : Calls Try.prog 62 #[.int .i64 n] w fun e w' => e = .returned (.bool true) ∧ w = w' := by
  go_enter Try.func62, Try.ntmps62
  go_wp2
  go_ret
  exact ⟨rfl, rfl⟩

theorem mayWidth_no (n : Int) (w : World) (h1 : n < 1 ∨ 8 < n) : Calls Try.prog 62 #[.int .i64 n] w fun e w' => e = .returned (.bool false) ∧ w = w' := by
  rcases h1 with h1 | h1
  · go_enter Try.func62, Try.ntmps62
    go_wp2
    go_ret
    exact ⟨rfl, rfl⟩
  · go_enter Try.func62, Try.ntmps62
    go_wp2
    go_ret
    exact ⟨by simp; omega, rfl⟩

theorem shr_zero (v wd : Nat) (hv : v < 256 ^ wd) : ((v : Int) / 2 ^ (8 * wd) != 0) = false := by
  rw [pow256] at hv
  have : (v : Int) / 2 ^ (8 * wd) = ((v / 2 ^ (8 * wd) : Nat) : Int) := by simp
  rw [this, Nat.div_eq_of_lt hv]; rfl
theorem shr_some (v wd : Nat) (hv : 256 ^ wd ≤ v) : ((v : Int) / 2 ^ (8 * wd) != 0) = true := by
  rw [pow256] at hv
  have : (v : Int) / 2 ^ (8 * wd) = ((v / 2 ^ (8 * wd) : Nat) : Int) := by simp
  rw [this]
  have := Nat.div_pos hv (Nat.pow_pos (by omega))
  simp; omega

theorem put_arg (v wd : Int) (w : World) (h : wd < 1 ∨ 8 < wd) :
    Calls Try.prog 59 #[.int .u64 v, .int .i64 wd] w fun e w' => e = .returned (.tuple #[.slice none 0 0, .int .i64 1]) ∧ w = w' := by
  go_enter Try.func59, Try.ntmps59
  go_wp2_with (go_at_call 62; refine (mayWidth_no _ _ h).mono ?_; rintro e w' ⟨rfl, rfl⟩)
  go_ret2
  exact ⟨rfl, rfl⟩

theorem put_over (v wd : Nat) (w : World) (h1 : 1 ≤ wd) (h2 : wd ≤ 8) (hv : 256 ^ wd ≤ v) :
    Calls Try.prog 59 #[.int .u64 v, .int .i64 wd] w fun e w' => e = .returned (.tuple #[.slice none 0 0, .int .i64 8]) ∧ w = w' := by
  have hx := shr_some v wd hv
  go_enter Try.func59, Try.ntmps59
  go_wp2_with (go_at_call 62; refine (mayWidth_yes _ _ (by omega) (by omega)).mono ?_; rintro e w' ⟨rfl, rfl⟩)
  go_ret2
  exact ⟨rfl, rfl⟩

theorem put_ok (v wd : Nat) (w : World) (h1 : 1 ≤ wd) (h2 : wd ≤ 8) (hv : v < 256 ^ wd) :
    Calls Try.prog 59 #[.int .u64 v, .int .i64 wd] w (FreshB (fun s => .tuple #[s, .int .i64 0]) wd (leB wd v) w) := by
  obtain ⟨i0, hi, hz0, hz1, hz2⟩ := info_parts infoU8
  have hx := shr_zero v wd hv
  have hb1 : Hid (i0.bytes * wd ≤ 281474976710656) := by unfold Hid; rw [hz2]; omega
  have hb2 : Hid (wd ≤ maxLen) := by unfold Hid maxLen; omega
  go_enter Try.func59, Try.ntmps59
  go_wp2_with (first
   | (go_at_call 62; refine (mayWidth_yes _ _ (by omega) (by omega)).mono ?_; rintro e w' ⟨rfl, rfl⟩)
   | (at_make; refine wpList_make_full _ rfl _ _ 34 rfl w.heap.size 5 i0 (.int .u8 0) 1 Try.underlying34 hi hz0 hz1 .i64 .i64 _ _ wd rfl rfl rfl rfl hb1.out hb2.out (Nat.le_refl _) ?_; intro w1 hown hgrow))
  go_loopw [19] (fun i wr => ∃ k : Nat, k ≤ wd ∧ i = .int .i64 k ∧ wr.ownsRow w.heap.size 5 1 (.slice (some ⟨w.heap.size, 0, none⟩) wd wd) wd (vals ((leB wd v).take k) ++ List.replicate (wd - k) (.int .u8 0)) ∧ Below w.heap.size w wr) (fun i _ => wd - (intOf i).toNat)
  case atStart =>
    refine ⟨0, by omega, rfl, ?_, (Below.refl _ _).grown hgrow (Nat.le_refl _) (fun k hk => by cases hk)⟩
    have e : (madeCells (Value.int IntKind.u8 0).cells (wd * 1)).toList = vals ((leB wd v).take 0) ++ List.replicate (wd - 0) (.int .u8 0) := by
      have := toList_madeCells_one (.int .u8 0) wd
      simpa [Value.cells, vals] using this
    rw [← e]; exact hown
  case round =>
    obtain ⟨k, hk, rfl, ho, hb⟩ := hrel
    by_cases hlt : k < wd
    · have hc : wr.cell? ⟨w.heap.size, k, none⟩ = some (.int .u8 0) := by
        rw [World.ownsRow.cellAt ho k (by omega)]
        exact fill_at _ _ _ _ (leB_length _ _) hlt
      have hf : wr.frozen? ⟨w.heap.size, k, none⟩ = false := World.ownsRow.frozenAt ho k
      go_wp2
      refine ⟨⟨k + 1, by omega, by go_num, ?_, hb.setCell (Nat.le_refl _) _⟩, by simp [intOf]; omega⟩
      have hs := (World.ownsRow.stored ho k (.int .u8 (↑v / 2 ^ (8 * k) % 256))).1
      rw [fill_set (leB wd v) k wd _ _ (leB_length _ _) hlt ?_] at hs
      · exact hs
      · rw [leB_getD wd v k hlt, pow256]
        simp
    · go_wp2
      go_ret2
      have : k = wd := by omega
      subst this
      refine ⟨_, _, rfl, ?_, hb⟩
      simpa [List.take_of_length_le (Nat.le_of_eq (leB_length k v))] using ho



/-- 'copy' of octets onto the head of a row of the call's own -/
theorem wpList_copy_head {w : World} {ops : Array Oper} {rest : List Oper} {o : Oper} {a : Act} {Q : Exit → Act → World → Prop} (hgd : o.guard = none) (d s : Operand)
    (ho : o.op = .call { callee := .builtin .copy, args := #[d, s], argTypes := #[34, 34] })
    (base g m cap : Nat) (xs : List Value) (hown : w.ownsRow base 5 1 (.slice (some ⟨g, 0, none⟩) m cap) m xs) (hd : a.eval d = .slice (some ⟨g, 0, none⟩) m cap)
    (sa : Option Addr) (n c : Nat) (l : List UInt8) (hs : a.eval s = .slice sa n c) (hsrc : BytesAt w sa n c l) (hn : n ≤ m)
    (h : ∀ w', w'.ownsRow base 5 1 (.slice (some ⟨g, 0, none⟩) m cap) m (vals l ++ xs.drop n) → w.grownBy w' (some g) → wpList Try.prog ops Q rest (a.put o.dst (goInt n)) w') :
    wpList Try.prog ops Q (o :: rest) a w := by
  have hsz : (Try.prog.info? 5).map (·.size) = some 1 := by
    obtain ⟨i0, hi, hz0, hz1, hz2⟩ := info_parts infoU8
    rw [hi]; simp [hz1]
  obtain ⟨h1, h2, h3, h4⟩ := hsrc
  rcases h4 with ⟨rfl, rfl, rfl⟩ | ⟨ad, rfl, hc⟩
  · have : l = [] := List.eq_nil_of_length_eq_zero h1
    subst this
    refine wpList_copy_nothing hgd d s _ _ ho 5 Try.underlying34 hsz _ _ _ _ _ _ hd hs (by simp) ?_
    exact h w (by simpa [vals] using hown) (World.grownBy.refl _ _)
  · rcases hown.2 with ⟨h', _⟩ | ⟨g', cap', cur, h', hb, hg, hmc, hcm, hcs, htake⟩
    · simp at h'
    simp only [Value.slice.injEq, Option.some.injEq, Addr.mk.injEq, and_true, true_and] at h'
    obtain ⟨rfl, rfl⟩ := h'
    have hcur : cur.size = cap := by simpa using hcs
    refine wpList_copy_own hgd d s _ _ ho 5 Try.underlying34 hsz g 0 m cap ad n c hd hs cur 5 hg (vals l) ?_ ?_ ?_ (mem_vals_oneCell l) ?_
    · rw [vals_length, h1]; exact (Nat.min_eq_left hn).symm
    · intro j u hj
      have hj' : j < l.length := by
        have := (List.getElem?_eq_some_iff.1 hj).1
        simpa [vals_length] using this
      rw [hc j (by omega), ← vals_at l j hj', hj]
    · rw [vals_length]; omega
    · rw [vals_length, h1]
      refine h _ ⟨?_, .inr ⟨g, cap, _, rfl, hb, setRow_heap w g cur _ _ _ hg, hmc, hcm, ?_, ?_⟩⟩ ⟨rfl, rfl, rfl, by simp [World.setRow], fun k _ hk => setRow_other w g k _ (fun e => hk (by rw [e]))⟩
      · have := hown.1
        simp only [Nat.mul_one] at this
        simp [vals_length, this]; omega
      · simp [vals_length]; omega
      · have hx : xs = cur.toList.take m := by simpa using htake.symm
        subst hx
        have hv : (vals l).length = n := by rw [vals_length, h1]
        simp only [List.take_zero, List.nil_append, Nat.zero_add, Nat.mul_one]
        rw [List.take_append, hv, List.take_of_length_le (by omega), List.drop_take]

set_option maxRecDepth 100000 in
theorem pad_arg (a : Option Addr) (n cap : Nat) (m : Int) (w : World) (h : m < 0 ∨ 1048576 < m) :
    Calls Try.prog 51 #[.slice a n cap, .int .i64 m] w fun e w' => e = .returned (.tuple #[.slice none 0 0, .int .i64 1]) ∧ w = w' := by
  rcases h with h | h
  all_goals
    go_enter Try.func51, Try.ntmps51
    go_wp2
    go_ret2
    exact ⟨rfl, rfl⟩

set_option maxRecDepth 100000 in
theorem pad_full (a : Option Addr) (n cap : Nat) (m : Nat) (w : World) (h1 : m ≤ 1048576) (h2 : m < n) :
    Calls Try.prog 51 #[.slice a n cap, .int .i64 m] w fun e w' => e = .returned (.tuple #[.slice none 0 0, .int .i64 5]) ∧ w = w' := by
  go_enter Try.func51, Try.ntmps51
  go_wp2
  go_ret2
  exact ⟨rfl, rfl⟩

set_option maxRecDepth 100000 in
theorem pad_ok (a : Option Addr) (n cap : Nat) (l : List UInt8) (m : Nat) (w : World) (h1 : m ≤ 1048576) (h2 : n ≤ m) (hl : BytesAt w a n cap l) :
    Calls Try.prog 51 #[.slice a n cap, .int .i64 m] w (FreshB (fun v => .tuple #[v, .int .i64 0]) m (l ++ List.replicate (m - n) 0) w) := by
  obtain ⟨i0, hi, hz0, hz1, hz2⟩ := info_parts infoU8
  have hb1 : Hid (i0.bytes * m ≤ 281474976710656) := by unfold Hid; rw [hz2]; omega
  have hb2 : Hid (m ≤ maxLen) := by unfold Hid maxLen; omega
  go_enter Try.func51, Try.ntmps51
  go_wp2_with (first
   | (at_make; refine wpList_make_full _ rfl _ _ 34 rfl w.heap.size 5 i0 (.int .u8 0) 1 Try.underlying34 hi hz0 hz1 .i64 .i64 _ _ m rfl rfl rfl rfl hb1.out hb2.out (Nat.le_refl _) ?_; intro w1 hown hgrow)
   | (with_reducible refine wpList_copy_head (o := ⟨some 21, _, _, _, _, _⟩) rfl (.tmp 19) (.tmp 20) rfl w.heap.size w.heap.size m m _ hown rfl a n cap l rfl (hl.below ((Below.refl _ _).grown hgrow (Nat.le_refl _) (fun k hk => by cases hk))) h2 ?_; intro w2 ho2 hg2))
  go_ret2
  refine ⟨_, _, rfl, ?_, ((Below.refl _ _).grown hgrow (Nat.le_refl _) (fun k hk => by cases hk)).grown hg2 hgrow.size (fun k hk => by cases hk; exact Nat.le_refl _)⟩
  have e : (madeCells (Value.int IntKind.u8 0).cells (m * 1)).toList = List.replicate m (.int .u8 0) := by
    have := toList_madeCells_one (.int .u8 0) m
    simpa [Value.cells] using this
  rw [e] at ho2
  simpa [vals] using ho2

theorem num_arg (a : Option Addr) (n cap : Nat) (at_ wd : Int) (w : World) (h : wd < 1 ∨ 8 < wd) :
    Calls Try.prog 56 #[.slice a n cap, .int .i64 at_, .int .i64 wd] w fun e w' => e = .returned (.tuple #[.int .u64 0, .int .i64 1]) ∧ w = w' := by
  go_enter Try.func56, Try.ntmps56
  go_wp2_with (go_at_call 62; refine (mayWidth_no _ _ h).mono ?_; rintro e w' ⟨rfl, rfl⟩)
  go_ret2
  exact ⟨rfl, rfl⟩

theorem num_range (a : Option Addr) (n cap : Nat) (at_ wd : Int) (w : World) (h1 : 1 ≤ wd) (h2 : wd ≤ 8) (h : at_ < 0 ∨ (n : Int) < at_) :
    Calls Try.prog 56 #[.slice a n cap, .int .i64 at_, .int .i64 wd] w fun e w' => e = .returned (.tuple #[.int .u64 0, .int .i64 4]) ∧ w = w' := by
  rcases h with h | h
  · go_enter Try.func56, Try.ntmps56
    go_wp2_with (go_at_call 62; refine (mayWidth_yes _ _ h1 h2).mono ?_; rintro e w' ⟨rfl, rfl⟩)
    go_ret2
    exact ⟨rfl, rfl⟩
  · go_enter Try.func56, Try.ntmps56
    go_wp2_with (go_at_call 62; refine (mayWidth_yes _ _ h1 h2).mono ?_; rintro e w' ⟨rfl, rfl⟩)
    go_ret2
    exact ⟨rfl, rfl⟩

theorem num_short (a : Option Addr) (n cap at_ wd : Nat) (w : World) (h1 : 1 ≤ wd) (h2 : wd ≤ 8) (h3 : at_ ≤ n) (h : n < at_ + wd) (hm : n ≤ 9223372036854775807) :
    Calls Try.prog 56 #[.slice a n cap, .int .i64 at_, .int .i64 wd] w fun e w' => e = .returned (.tuple #[.int .u64 0, .int .i64 2]) ∧ w = w' := by
  have h4 : (n : Int) - at_ < wd := by omega
  go_enter Try.func56, Try.ntmps56
  go_wp2_with (go_at_call 62; refine (mayWidth_yes _ _ (by omega) (by omega)).mono ?_; rintro e w' ⟨rfl, rfl⟩)
  go_ret2
  exact ⟨rfl, rfl⟩

theorem num_ok (a : Option Addr) (n cap : Nat) (l : List UInt8) (at_ wd : Nat) (w : World) (h1 : 1 ≤ wd) (h2 : wd ≤ 8) (h3 : at_ + wd ≤ n) (hl : BytesAt w a n cap l) :
    Calls Try.prog 56 #[.slice a n cap, .int .i64 at_, .int .i64 wd] w fun e w' => e = .returned (.tuple #[.int .u64 (le ((l.drop at_).take wd)), .int .i64 0]) ∧ w = w' := by
  obtain ⟨b, off, rfl, hc⟩ := hl.at (by omega)
  have hln : l.length = n := hl.1
  have hmax : n ≤ 9223372036854775807 := by have := hl.2.1; have := hl.2.2.1; unfold maxLen at this; omega
  have HL := Lib.hid hln
  have H := Lib.hid hc
  clear hc hln hl
  go_enter Try.func56, Try.ntmps56
  go_wp2_with (go_at_call 62; refine (mayWidth_yes _ _ (by omega) (by omega)).mono ?_; rintro e w' ⟨rfl, rfl⟩)
  go_loop [8, 28] (fun v i => ∃ k : Nat, k ≤ wd ∧ i = .int .i64 k ∧ v = .int .u64 (le ((l.drop at_).take k))) (fun _ i => wd - (intOf i).toNat)
  case atStart => exact ⟨0, by omega, rfl, rfl⟩
  case round =>
    obtain ⟨k, hk, rfl, rfl⟩ := hrel
    by_cases hlt : k < wd
    · have hc : w.cell? ⟨b, off + (at_ + k), none⟩ = some (.int .u8 (l.getD (at_ + k) 0).toNat) := H.out (at_ + k) (by omega)
      have hidx : (at_ : Int) + k < n := by omega
      go_wp2
      refine ⟨⟨k + 1, by omega, by go_num, ?_⟩, by simp [intOf]; omega⟩
      congr 1
      have hll := HL.out
      have e1 : (l.drop at_).getD k 0 = l.getD (at_ + k) 0 := by simp [List.getD, List.getElem?_drop]
      have hlen : ((l.drop at_).take k).length = k := by simp; omega
      have hx : le ((l.drop at_).take k) < 256 ^ k := by
        have := le_lt ((l.drop at_).take k)
        rwa [hlen] at this
      rw [le_take_succ _ _ (by simp; omega), e1]
      exact or_octet _ _ k (by omega) hx (UInt8.toNat_lt _)
    · have : k = wd := by omega
      subst this
      go_wp2
      go_ret2
      exact ⟨rfl, rfl⟩

theorem num_any (a : Option Addr) (n cap : Nat) (l : List UInt8) (at_ wd : Int) (w : World) (hl : BytesAt w a n cap l) :
    Calls Try.prog 56 #[.slice a n cap, .int .i64 at_, .int .i64 wd] w fun e w' => e = .returned (.tuple #[.int .u64 (numRes l at_ wd).1, .int .i64 (numRes l at_ wd).2]) ∧ w = w' := by
  have hn : l.length = n := hl.1
  have hm : n ≤ 9223372036854775807 := by have := hl.2.1; have := hl.2.2.1; unfold maxLen at this; omega
  by_cases h1 : wd < 1 ∨ 8 < wd
  · have e : numRes l at_ wd = (0, 1) := by rw [numRes, if_pos h1]
    rw [e]; exact num_arg a n cap at_ wd w h1
  · obtain ⟨k, rfl⟩ := Int.eq_ofNat_of_zero_le (show 0 ≤ wd by omega)
    by_cases h2 : at_ < 0 ∨ (l.length : Int) < at_
    · have e : numRes l at_ k = (0, 4) := by rw [numRes, if_neg h1, if_pos h2]
      rw [e]; exact num_range a n cap at_ k w (by omega) (by omega) (by omega)
    · obtain ⟨j, rfl⟩ := Int.eq_ofNat_of_zero_le (show 0 ≤ at_ by omega)
      by_cases h3 : (l.length : Int) < j + k
      · have e : numRes l j k = (0, 2) := by rw [numRes, if_neg h1, if_neg h2, if_pos h3]
        rw [e]; exact num_short a n cap j k w (by omega) (by omega) (by omega) (by omega) hm
      · have e : numRes l j k = (le ((l.drop j).take k), 0) := by rw [numRes, if_neg h1, if_neg h2, if_neg h3, Int.toNat_natCast, Int.toNat_natCast]
        rw [e]; exact num_ok a n cap l j k w (by omega) (by omega) (by omega) hl

/-- octets and an error's number are handed back, in new memory -/
def ReadE (r : List UInt8 × Nat) (w : World) (e : Ending) (w' : World) : Prop :=
  ∃ a n cap, e = .returned (.tuple #[.slice a n cap, .int .i64 r.2]) ∧ BytesAt w' a n cap r.1 ∧ Below w.heap.size w w'

theorem put_any (v : Nat) (wd : Int) (w : World) : Calls Try.prog 59 #[.int .u64 v, .int .i64 wd] w (ReadE (putRes v wd) w) := by
  by_cases h1 : wd < 1 ∨ 8 < wd
  · have e : putRes v wd = ([], 1) := by rw [putRes, if_pos h1]
    rw [e]
    exact (put_arg v wd w h1).mono fun e w' ⟨he, hw⟩ => ⟨none, 0, 0, he, BytesAt.nil _, by rw [← hw]; exact Below.refl _ _⟩
  · obtain ⟨k, rfl⟩ := Int.eq_ofNat_of_zero_le (show 0 ≤ wd by omega)
    by_cases h2 : 256 ^ k ≤ v
    · have e : putRes v k = ([], 8) := by rw [putRes, if_neg h1, Int.toNat_natCast, if_pos h2]
      rw [e]
      exact (put_over v k w (by omega) (by omega) h2).mono fun e w' ⟨he, hw⟩ => ⟨none, 0, 0, he, BytesAt.nil _, by rw [← hw]; exact Below.refl _ _⟩
    · have e : putRes v k = (leB k v, 0) := by rw [putRes, if_neg h1, Int.toNat_natCast, if_neg h2]
      rw [e]
      exact (put_ok v k w (by omega) (by omega) (by omega)).mono fun e w' ⟨a, cap, he, ho, hb⟩ => ⟨a, k, cap, he, BytesAt.owned ho, hb⟩

end Go.Proofs.Ytflboggjbjfkjaa
