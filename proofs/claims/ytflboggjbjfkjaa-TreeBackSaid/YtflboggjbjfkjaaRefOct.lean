/-
  Contracts of the document's own answers for layer 1 (hamperref01): Put, Text, Of, Num, for every argument.
-/
import Derived.Test.YtflboggjbjfkjaaOctMem
namespace Go.Proofs.Ytflboggjbjfkjaa
open Go.RowKit
set_option linter.unusedVariables false
set_option linter.unusedSimpArgs false

theorem rput_arg (v wd : Int) (w : World) (h : wd < 1 ∨ 8 < wd) :
    Calls Try.prog 37 #[.int .u64 v, .int .i64 wd] w fun e w' => e = .returned (.tuple #[.string ⟨#[]⟩, .int .i64 1]) ∧ w = w' := by
  rcases h with h | h
  · go_enter Try.func37, Try.ntmps37
    go_wp2
    go_ret2
    exact ⟨rfl, rfl⟩
  · go_enter Try.func37, Try.ntmps37
    go_wp2
    go_ret2
    exact ⟨rfl, rfl⟩

theorem conv_one (w : World) (V : Nat) :
    (convert 34 9 (.slice (some ⟨w.heap.size, 0, none⟩) 1 1)).run Try.prog (w.alloc (.cells #[.int .u8 ((V : Int) % 256)] 5)) = .ok (.string ⟨[UInt8.ofNat (V % 256)].toArray⟩) (w.alloc (.cells #[.int .u8 ((V : Int) % 256)] 5)) := by
  refine BytesAt.conv (BytesAt.of_cells (l := [UInt8.ofNat (V % 256)]) rfl (Nat.le_refl _) (by unfold maxLen; omega) fun i hi => ?_)
  obtain rfl : i = 0 := by omega
  have := World.cell?_alloc_mark w #[.int .u8 ((V : Int) % 256)] 5 (0, 0) 0
  simp only [Nat.zero_add, this]
  simp

theorem ba_append (s t : ByteArray) : s ++ t = ⟨(s.data.toList ++ t.data.toList).toArray⟩ := by
  apply ByteArray.ext
  rw [ByteArray.data_append]
  apply Array.ext'
  simp

theorem leB_take_succ (wd v k : Nat) (h : k < wd) : (leB wd v).take (k + 1) = (leB wd v).take k ++ [UInt8.ofNat (v / 256 ^ k % 256)] := by
  rw [List.take_succ_eq_append_getElem (by rw [leB_length]; exact h)]
  have := leB_getD wd v k h
  simp only [List.getD, List.getElem?_eq_getElem (show k < (leB wd v).length by rw [leB_length]; exact h), Option.getD_some] at this
  rw [this]

theorem pow_div_zero (v wd : Nat) : v / 256 ^ wd = 0 ↔ v < 256 ^ wd := by
  have hp : 0 < 256 ^ wd := Nat.pow_pos (by omega)
  rw [Nat.div_eq_zero_iff]
  omega

def rputRes (v wd : Nat) : Value := if v < 256 ^ wd then .tuple #[.string ⟨(leB wd v).toArray⟩, .int .i64 0] else .tuple #[.string ⟨#[]⟩, .int .i64 8]

theorem rput_ok (v wd : Nat) (w : World) (h1 : 1 ≤ wd) (h2 : wd ≤ 8) (hv : v < 18446744073709551616) :
    Calls Try.prog 37 #[.int .u64 v, .int .i64 wd] w fun e w' => e = .returned (rputRes v wd) ∧ Below w.heap.size w w' := by
  go_enter Try.func37, Try.ntmps37
  go_wp2
  go_loopw [0, 6, 7] (fun x s i wr => ∃ k : Nat, k ≤ wd ∧ i = .int .i64 k ∧ x = .int .u64 (v / 256 ^ k : Nat) ∧ s = .string ⟨((leB wd v).take k).toArray⟩ ∧ Below w.heap.size w wr) (fun _ _ i _ => wd - (intOf i).toNat)
  case atStart => exact ⟨0, by omega, rfl, by simp, rfl, Below.refl _ _⟩
  case round =>
    obtain ⟨k, hk, rfl, rfl, rfl, hb⟩ := hrel
    have hV : v / 256 ^ k < 18446744073709551616 := Nat.lt_of_le_of_lt (Nat.div_le_self _ _) hv
    obtain ⟨V, hVe⟩ : ∃ V, V = v / 256 ^ k := ⟨_, rfl⟩
    have HV := Lib.hid hVe
    rw [← hVe] at hV ⊢
    clear hVe
    obtain ⟨L, hLe⟩ : ∃ L, L = (leB wd v).take k := ⟨_, rfl⟩
    have HL := Lib.hid hLe
    have hLl : L.length ≤ 8 := by rw [hLe]; simp [leB_length]; omega
    rw [← hLe]
    clear hLe
    by_cases hlt : k < wd
    · have hcv := conv_one wr V
      go_wp2
      refine ⟨⟨k + 1, by omega, by go_num, ?_, ?_, hb.alloc hb.size _⟩, by simp [intOf]; omega⟩
      · have e : v / 256 ^ (k + 1) = V / 256 := by rw [HV.out, Nat.div_div_eq_div_mul, Nat.pow_succ]
        rw [e]; simp
      · rw [leB_take_succ wd v k hlt, ← HL.out, ← HV.out, ba_append]
    · have : k = wd := by omega
      subst this
      have hz := pow_div_zero v k
      rw [← HV.out] at hz
      have hL := HL.out
      rw [List.take_of_length_le (Nat.le_of_eq (leB_length k v))] at hL
      have HZ := Lib.hid hz
      have HL2 := Lib.hid hL
      clear hz hL
      by_cases h0 : 0 < V
      · go_wp2
        go_ret2
        refine ⟨?_, hb⟩
        have : ¬ v < 256 ^ k := fun h => by have := HZ.out.2 h; omega
        simp [rputRes, this]
      · go_wp2
        go_ret2
        refine ⟨?_, hb⟩
        have : v < 256 ^ k := HZ.out.1 (by omega)
        simp [rputRes, this, HL2.out]

theorem rof_any (v wd : Nat) (w : World) (h1 : 1 ≤ wd) (h2 : wd ≤ 8) (hv : v < 18446744073709551616) (hf : v < 256 ^ wd) :
    Calls Try.prog 23 #[.int .u64 v, .int .i64 wd] w fun e w' => e = .returned (.string ⟨(leB wd v).toArray⟩) ∧ Below w.heap.size w w' := by
  have hr : Hid (rputRes v wd = .tuple #[.string ⟨(leB wd v).toArray⟩, .int .i64 0]) := by unfold Hid; simp [rputRes, hf]
  clear hf
  go_enter Try.func23, Try.ntmps23
  go_wp2_with (go_at_call 37; refine (rput_ok v wd _ h1 h2 hv).mono ?_; rintro e w1 ⟨rfl, hb⟩; rw [hr.out])
  go_ret
  exact ⟨rfl, hb⟩


theorem rnum_arg (s : ByteArray) (at_ wd : Int) (w : World) (h : wd < 1 ∨ 8 < wd) :
    Calls Try.prog 57 #[.string s, .int .i64 at_, .int .i64 wd] w fun e w' => e = .returned (.tuple #[.int .u64 0, .int .i64 1]) ∧ w = w' := by
  rcases h with h | h
  · go_enter Try.func57, Try.ntmps57
    go_wp2
    go_ret2
    exact ⟨rfl, rfl⟩
  · go_enter Try.func57, Try.ntmps57
    go_wp2
    go_ret2
    exact ⟨rfl, rfl⟩

theorem rnum_range (s : ByteArray) (at_ wd : Int) (w : World) (h1 : 1 ≤ wd) (h2 : wd ≤ 8) (h : at_ < 0 ∨ (s.size : Int) < at_) :
    Calls Try.prog 57 #[.string s, .int .i64 at_, .int .i64 wd] w fun e w' => e = .returned (.tuple #[.int .u64 0, .int .i64 4]) ∧ w = w' := by
  rcases h with h | h
  · go_enter Try.func57, Try.ntmps57
    go_wp2
    go_ret2
    exact ⟨rfl, rfl⟩
  · go_enter Try.func57, Try.ntmps57
    go_wp2
    go_ret2
    exact ⟨rfl, rfl⟩

theorem rnum_short (s : ByteArray) (at_ wd : Nat) (w : World) (h1 : 1 ≤ wd) (h2 : wd ≤ 8) (h3 : at_ ≤ s.size) (h : s.size < at_ + wd) (hm : s.size ≤ 9223372036854775807) :
    Calls Try.prog 57 #[.string s, .int .i64 at_, .int .i64 wd] w fun e w' => e = .returned (.tuple #[.int .u64 0, .int .i64 2]) ∧ w = w' := by
  have h4 : (s.size : Int) - wd < at_ := by omega
  go_enter Try.func57, Try.ntmps57
  go_wp2
  go_ret2
  exact ⟨rfl, rfl⟩

theorem le_drop (L : List UInt8) (k : Nat) (h : k < L.length) : le (L.drop k) = (L.getD k 0).toNat + 256 * le (L.drop (k + 1)) := by
  rw [List.drop_eq_getElem_cons h]
  simp [le, List.getD, List.getElem?_eq_getElem h]

theorem wrap_u64 (x : Nat) (h : x < 18446744073709551616) : IntKind.u64.wrap (x : Int) = (x : Int) := by
  simp [IntKind.wrap, IntKind.signed, IntKind.bits]; omega

theorem mul_add_octet (x b : Nat) (hx : x < 256 ^ 7) (hb : b < 256) :
    IntKind.u64.wrap (IntKind.u64.wrap ((x : Int) * 256) + IntKind.u64.wrap (b : Int)) = ((b + 256 * x : Nat) : Int) := by
  have e1 : (x : Int) * 256 = ((x * 256 : Nat) : Int) := by simp
  rw [e1, wrap_u64 _ (by omega), wrap_u64 _ (by omega)]
  have e2 : ((x * 256 : Nat) : Int) + (b : Int) = ((b + 256 * x : Nat) : Int) := by omega
  rw [e2, wrap_u64 _ (by omega)]

theorem rnum_ok (s : ByteArray) (at_ wd : Nat) (w : World) (h1 : 1 ≤ wd) (h2 : wd ≤ 8) (h3 : at_ + wd ≤ s.size) (hm : s.size ≤ 9223372036854775807) :
    Calls Try.prog 57 #[.string s, .int .i64 at_, .int .i64 wd] w fun e w' => e = .returned (.tuple #[.int .u64 (le ((s.data.toList.drop at_).take wd)), .int .i64 0]) ∧ w = w' := by
  have h4 : ¬ (s.size : Int) - wd < at_ := by omega
  obtain ⟨L, hL⟩ : ∃ L, L = (s.data.toList.drop at_).take wd := ⟨_, rfl⟩
  have hLl : L.length = wd := by rw [hL]; simp; change min wd (s.size - at_) = wd; omega
  have HL := Lib.hid hL
  have HLl := Lib.hid hLl
  rw [← hL]
  clear hL hLl
  go_enter Try.func57, Try.ntmps57
  go_wp2
  go_loop [8, 9] (fun v i => ∃ k : Nat, k ≤ wd ∧ i = .int .i64 ((k : Int) - 1) ∧ v = .int .u64 (le (L.drop k))) (fun _ i => (intOf i + 1).toNat)
  case atStart => exact ⟨wd, by omega, rfl, by rw [List.drop_of_length_le (Nat.le_of_eq HLl.out)]; rfl⟩
  case round =>
    obtain ⟨k, hk, rfl, rfl⟩ := hrel
    cases k with
    | zero =>
      go_wp2
      go_ret2
      exact ⟨rfl, rfl⟩
    | succ k =>
      have e0 : ((k + 1 : Nat) : Int) - 1 = (k : Int) := by omega
      rw [e0]
      clear e0
      have hi : at_ + k < s.size := by omega
      go_wp2
      refine ⟨⟨k, by omega, rfl, ?_⟩, by simp [intOf]⟩
      congr 1
      have hLl := HLl.out
      have hx : le (L.drop (k + 1)) < 256 ^ 7 := by
        have h1 := le_lt (L.drop (k + 1))
        have h2 : 256 ^ (L.drop (k + 1)).length ≤ 256 ^ 7 := Nat.pow_le_pow_right (by omega) (by simp; omega)
        omega
      rw [mul_add_octet _ _ hx (UInt8.toNat_lt _), le_drop L k (by omega)]
      have e : s[at_ + k] = L.getD k 0 := by
        have e1 := HL.out
        rw [e1]
        simp only [List.getD]
        rw [List.getElem?_take_of_lt (by omega), List.getElem?_drop, Array.getElem?_toList, Array.getElem?_eq_getElem (show at_ + k < s.data.size from hi)]
        rfl
      rw [e]

theorem rnum_any (s : ByteArray) (at_ wd : Int) (w : World) (hm : s.size ≤ 9223372036854775807) :
    Calls Try.prog 57 #[.string s, .int .i64 at_, .int .i64 wd] w fun e w' => e = .returned (.tuple #[.int .u64 (numRes s.data.toList at_ wd).1, .int .i64 (numRes s.data.toList at_ wd).2]) ∧ w = w' := by
  have hn : s.data.toList.length = s.size := by rw [Array.length_toList]; rfl
  by_cases h1 : wd < 1 ∨ 8 < wd
  · have e : numRes s.data.toList at_ wd = (0, 1) := by rw [numRes, if_pos h1]
    rw [e]; exact rnum_arg s at_ wd w h1
  · obtain ⟨k, rfl⟩ := Int.eq_ofNat_of_zero_le (show 0 ≤ wd by omega)
    by_cases h2 : at_ < 0 ∨ (s.data.toList.length : Int) < at_
    · have e : numRes s.data.toList at_ k = (0, 4) := by rw [numRes, if_neg h1, if_pos h2]
      rw [e]; exact rnum_range s at_ k w (by omega) (by omega) (by omega)
    · obtain ⟨j, rfl⟩ := Int.eq_ofNat_of_zero_le (show 0 ≤ at_ by omega)
      by_cases h3 : (s.data.toList.length : Int) < j + k
      · have e : numRes s.data.toList j k = (0, 2) := by rw [numRes, if_neg h1, if_neg h2, if_pos h3]
        rw [e]; exact rnum_short s j k w (by omega) (by omega) (by omega) (by omega) hm
      · have e : numRes s.data.toList j k = (le ((s.data.toList.drop j).take k), 0) := by rw [numRes, if_neg h1, if_neg h2, if_neg h3, Int.toNat_natCast, Int.toNat_natCast]
        rw [e]; exact rnum_ok s j k w (by omega) (by omega) (by omega) hm

theorem rput_any (v : Nat) (wd : Int) (w : World) (hv : v < 18446744073709551616) :
    Calls Try.prog 37 #[.int .u64 v, .int .i64 wd] w fun e w' => e = .returned (.tuple #[.string ⟨(putRes v wd).1.toArray⟩, .int .i64 (putRes v wd).2]) ∧ Below w.heap.size w w' := by
  by_cases h1 : wd < 1 ∨ 8 < wd
  · have e : putRes v wd = ([], 1) := by rw [putRes, if_pos h1]
    rw [e]
    exact (rput_arg v wd w h1).mono fun e w' ⟨he, hw⟩ => ⟨he, by rw [← hw]; exact Below.refl _ _⟩
  · obtain ⟨k, rfl⟩ := Int.eq_ofNat_of_zero_le (show 0 ≤ wd by omega)
    by_cases h2 : 256 ^ k ≤ v
    · have e : putRes v k = ([], 8) := by rw [putRes, if_neg h1, Int.toNat_natCast, if_pos h2]
      rw [e]
      exact (rput_ok v k w (by omega) (by omega) hv).mono fun e w' ⟨he, hw⟩ => ⟨by rw [he, rputRes, if_neg (by omega)]; rfl, hw⟩
    · have e : putRes v k = (leB k v, 0) := by rw [putRes, if_neg h1, Int.toNat_natCast, if_neg h2]
      rw [e]
      exact (rput_ok v k w (by omega) (by omega) hv).mono fun e w' ⟨he, hw⟩ => ⟨by rw [he, rputRes, if_pos (by omega)]; rfl, hw⟩

end Go.Proofs.Ytflboggjbjfkjaa
