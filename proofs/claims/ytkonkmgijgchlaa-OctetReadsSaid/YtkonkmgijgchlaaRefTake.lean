/-
  Contracts of the document's own reader for layer 1 (hamperref01.Take).
-/
import Derived.Test.YtkonkmgijgchlaaOctRd
import Derived.Test.YtkonkmgijgchlaaRefOct
namespace Go.Proofs.Ytkonkmgijgchlaa
open Go.RowKit
set_option linter.unusedVariables false
set_option linter.unusedSimpArgs false

/-- the document's reader in block h: its octets, how far it is, its first error -/
def Tk (w : World) (h : Nat) (s : ByteArray) (at_ er : Nat) : Prop :=
  w.heap[h]? = some (.cells #[.string s, .int .i64 at_, .int .i64 er, .int .i64 ((if er = 0 then 0 else at_ : Nat) : Int)] 45 (0, 0))

theorem Tk.c0 {w : World} {h : Nat} {s : ByteArray} {at_ er : Nat} (k : Tk w h s at_ er) : w.cell? ⟨h, 0, none⟩ = some (.string s) := cell_of_row w h 0 _ _ _ k
theorem Tk.c1 {w : World} {h : Nat} {s : ByteArray} {at_ er : Nat} (k : Tk w h s at_ er) : w.cell? ⟨h, 1, none⟩ = some (.int .i64 at_) := cell_of_row w h 1 _ _ _ k
theorem Tk.c2 {w : World} {h : Nat} {s : ByteArray} {at_ er : Nat} (k : Tk w h s at_ er) : w.cell? ⟨h, 2, none⟩ = some (.int .i64 er) := cell_of_row w h 2 _ _ _ k
theorem Tk.c3 {w : World} {h : Nat} {s : ByteArray} {at_ er : Nat} (k : Tk w h s at_ er) : w.cell? ⟨h, 3, none⟩ = some (.int .i64 ((if er = 0 then 0 else at_ : Nat) : Int)) := cell_of_row w h 3 _ _ _ k
theorem Tk.fr {w : World} {h : Nat} {s : ByteArray} {at_ er : Nat} (k : Tk w h s at_ er) (j : Nat) : w.frozen? ⟨h, j, none⟩ = false := frozen_of_row w h j _ _ k
theorem Tk.lt {w : World} {h : Nat} {s : ByteArray} {at_ er : Nat} (k : Tk w h s at_ er) : h < w.heap.size := (Array.getElem?_eq_some_iff.1 k).1
theorem Tk.drewN {w : World} {h : Nat} {s : ByteArray} {at_ er : Nat} (k : Tk w h s at_ er) (n : Nat) : Tk (w.drewN n) h s at_ er := k
theorem Tk.grown {w w' : World} {h : Nat} {s : ByteArray} {at_ er : Nat} {row : Option Nat} (k : Tk w h s at_ er) (hg : w.grownBy w' row) (hr : some h ≠ row) : Tk w' h s at_ er := by
  unfold Tk; rw [hg.block h k.lt hr]; exact k

theorem tk_at {w : World} {h : Nat} {s : ByteArray} {at_ : Nat} (k : Tk w h s at_ 0) (a' : Nat) : Tk (w.setCell ⟨h, 1, none⟩ (.int .i64 a')) h s a' 0 := by
  unfold Tk at k ⊢; rw [heap_setCell_same w h 1 _ _ _ k]; rfl

/-- the error's three stores -/
theorem tk_wrong {w : World} {h : Nat} {s : ByteArray} {at_ : Nat} (k : Tk w h s at_ 0) (e wh : Nat) (he : e ≠ 0) :
    Tk (((w.setCell ⟨h, 2, none⟩ (.int .i64 e)).setCell ⟨h, 3, none⟩ (.int .i64 wh)).setCell ⟨h, 1, none⟩ (.int .i64 wh)) h s wh e := by
  unfold Tk at k ⊢
  rw [heap_setCell_same _ h 1 _ _ _ (heap_setCell_same _ h 3 _ _ _ (heap_setCell_same w h 2 _ _ _ k)), if_neg he]
  rfl

theorem three_grown (w : World) (h : Nat) (x y z : Value) : w.grownBy (((w.setCell ⟨h, 2, none⟩ x).setCell ⟨h, 3, none⟩ y).setCell ⟨h, 1, none⟩ z) (some h) :=
  grown_trans (grown_trans (setCell_grown w h 2 x) (setCell_grown _ h 3 y)) (setCell_grown _ h 1 z)

theorem twrong_any (w : World) (h : Nat) (s : ByteArray) (at_ e wh : Nat) (k : Tk w h s at_ 0) (he : e ≠ 0) :
    Calls Try.prog 29 #[.pointer (some ⟨h, 0, none⟩), .int .i64 e, .int .i64 wh] w fun e' w' => e' = .returned (.tuple #[]) ∧ Tk w' h s wh e ∧ w.grownBy w' (some h) := by
  have c1 := k.c1
  have c2 := k.c2
  have c3 := k.c3
  have f1 := k.fr 1
  have f2 := k.fr 2
  have f3 := k.fr 3
  have K := Lib.hid k
  clear k
  go_enter Try.func29, Try.ntmps29
  go_wp2
  go_end0
  exact ⟨rfl, tk_wrong K.out e wh he, three_grown w h _ _ _⟩

def TkPost (v : Value) (w : World) (h : Nat) (s : ByteArray) (at_ er : Nat) (e : Ending) (w' : World) : Prop :=
  e = .returned v ∧ Tk w' h s at_ er ∧ w.grownBy w' (some h)

theorem tnum_any (w : World) (h : Nat) (s : ByteArray) (at_ er : Nat) (wd : Int) (k : Tk w h s at_ er) (hat : at_ ≤ s.size) (hs : s.size ≤ 140737488355328) :
    Calls Try.prog 18 #[.pointer (some ⟨h, 0, none⟩), .int .i64 wd] w (TkPost (.int .u64 (rNum s.data.toList at_ er wd).1) w h s (rNum s.data.toList at_ er wd).2.1 (rNum s.data.toList at_ er wd).2.2) := by
  have hl : s.data.toList.length = s.size := by rw [Array.length_toList]; rfl
  have c0 := k.c0
  have c1 := k.c1
  have c2 := k.c2
  by_cases he : er = 0
  · subst he
    have f1 := k.fr 1
    have K := Lib.hid k
    have HC := Lib.hid (fun u => rnum_any s at_ wd u (by omega))
    have hnr : numRes s.data.toList at_ wd = ((rNum s.data.toList at_ 0 wd).1, (rNum s.data.toList at_ 0 wd).2.2) := by
      simp only [numRes, rNum, hl]
      by_cases h1 : wd < 1 ∨ 8 < wd
      · simp [h1]
      · by_cases h2 : (s.size : Int) < at_ + wd
        · simp only [h1, h2, if_true, if_false, ne_eq, not_true_eq_false]
          rw [if_neg (by omega)]
        · simp only [h1, h2, if_true, if_false, ne_eq, not_true_eq_false]
          rw [if_neg (by omega), Int.toNat_natCast]
    have hat' : (rNum s.data.toList at_ 0 wd).2.1 = if (rNum s.data.toList at_ 0 wd).2.2 = 0 then at_ + wd.toNat else at_ := by
      simp only [rNum, hl]
      by_cases h1 : wd < 1 ∨ 8 < wd
      · simp [h1]
      · by_cases h2 : (s.size : Int) < at_ + wd
        · simp [h1, h2]
        · simp [h1, h2]
    have hwd : (rNum s.data.toList at_ 0 wd).2.2 = 0 → 1 ≤ wd ∧ wd ≤ 8 := by
      simp only [rNum]
      by_cases h1 : wd < 1 ∨ 8 < wd
      · simp [h1]
      · intro _; omega
    have hv0 : (rNum s.data.toList at_ 0 wd).2.2 ≠ 0 → (rNum s.data.toList at_ 0 wd).1 = 0 := by
      simp only [rNum, hl]
      by_cases h1 : wd < 1 ∨ 8 < wd
      · simp [h1]
      · by_cases h2 : (s.size : Int) < at_ + wd
        · simp [h1, h2]
        · simp [h1, h2]
    rw [hnr] at HC
    rw [hat']
    have HWD := Lib.hid hwd
    have HV0 := Lib.hid hv0
    generalize rNum s.data.toList at_ 0 wd = r at HC HWD HV0
    obtain ⟨v, a2, e2⟩ := r
    simp only at HC HWD HV0
    clear k hnr hat' hwd hv0
    show Calls _ _ _ _ (TkPost (.int .u64 v) w h s (if e2 = 0 then at_ + wd.toNat else at_) e2)
    by_cases hz : e2 = 0
    · subst hz
      have hb := HWD.out rfl
      have hsum : ((at_ + wd.toNat : Nat) : Int) = (at_ : Int) + wd := by omega
      have HS := Lib.hid hsum
      rw [if_pos rfl]
      clear hsum
      go_enter Try.func18, Try.ntmps18
      go_wp2
      go_quiet ((go_at_call 15; exact quiet_left (HC.out _)))
      go_wp2
      go_ret
      refine ⟨rfl, ?_, grown_of_drewN (n := nq) (setCell_grown _ h 1 _)⟩
      have := tk_at (K.out.drewN nq) (at_ + wd.toNat)
      rw [HS.out] at this
      exact this
    · rw [if_neg hz]
      obtain rfl : v = 0 := HV0.out hz
      have hbz : ((e2 : Int) != 0) = true := by simp; exact hz
      have HW := Lib.hid (fun u (ku : Tk u h s at_ 0) => twrong_any u h s at_ e2 at_ ku hz)
      go_enter Try.func18, Try.ntmps18
      go_wp2
      go_quiet ((go_at_call 15; exact quiet_left (HC.out _)))
      go_wp2_with (go_at_call 29; refine (HW.out _ (K.out.drewN nq)).mono ?_; rintro e w2 ⟨rfl, ht, hg⟩)
      go_ret
      exact ⟨rfl, ht, grown_of_drewN (n := nq) hg⟩
  · have e : rNum s.data.toList at_ er wd = (0, at_, er) := by simp only [rNum]; rw [if_pos he]
    rw [e]
    have hb : ((er : Int) != 0) = true := by simp; exact he
    have K := Lib.hid k
    clear k
    go_enter Try.func18, Try.ntmps18
    go_wp2
    go_ret
    exact ⟨rfl, K.out, World.grownBy.refl _ _⟩

theorem extract_str (s : ByteArray) (a b : Nat) : s.extract a b = ⟨((s.data.toList.drop a).take (b - a)).toArray⟩ := by
  have := ByteArray.extract_mk s.data.toList a b
  rw [← this]

theorem traw_any (w : World) (h : Nat) (s : ByteArray) (at_ er : Nat) (m : Int) (k : Tk w h s at_ er) (hat : at_ ≤ s.size) (hs : s.size ≤ 140737488355328) :
    Calls Try.prog 22 #[.pointer (some ⟨h, 0, none⟩), .int .i64 m] w (TkPost (.string ⟨(rRaw s.data.toList at_ er m).1.toArray⟩) w h s (rRaw s.data.toList at_ er m).2.1 (rRaw s.data.toList at_ er m).2.2) := by
  have hl : s.data.toList.length = s.size := by rw [Array.length_toList]; rfl
  have c0 := k.c0
  have c1 := k.c1
  have c2 := k.c2
  have K := Lib.hid k
  by_cases he : er = 0
  · subst he
    by_cases hm : m < 0
    · have e : rRaw s.data.toList at_ 0 m = ([], at_, 1) := by simp only [rRaw]; rw [if_neg (by simp), if_pos hm]
      rw [e]
      clear k hl e
      have HW := Lib.hid (fun u (ku : Tk u h s at_ 0) => twrong_any u h s at_ 1 at_ ku (by decide))
      go_enter Try.func22, Try.ntmps22
      go_wp2_with (go_at_call 29; refine (HW.out _ K.out).mono ?_; rintro e w2 ⟨rfl, ht, hg⟩)
      go_ret
      exact ⟨rfl, ht, hg⟩
    · obtain ⟨n, rfl⟩ := Int.eq_ofNat_of_zero_le (show 0 ≤ m by omega)
      by_cases hsh : s.size < at_ + n
      · have e : rRaw s.data.toList at_ 0 n = ([], at_, 2) := by simp only [rRaw]; rw [if_neg (by simp), if_neg hm, if_pos (by omega)]
        rw [e]
        have hd : (s.size : Int) - at_ < n := by omega
        clear k hl e
        have HW := Lib.hid (fun u (ku : Tk u h s at_ 0) => twrong_any u h s at_ 2 at_ ku (by decide))
        go_enter Try.func22, Try.ntmps22
        go_wp2
        go_quiet (fail)
        go_wp2_with (go_at_call 29; refine (HW.out _ (K.out.drewN nq)).mono ?_; rintro e w2 ⟨rfl, ht, hg⟩)
        go_ret
        exact ⟨rfl, ht, grown_of_drewN (n := nq) hg⟩
      · have e : rRaw s.data.toList at_ 0 n = ((s.data.toList.drop at_).take n, at_ + n, 0) := by
          simp only [rRaw]; rw [if_neg (by simp), if_neg hm, if_neg (by omega), Int.toNat_natCast]
        rw [e]
        have hd : (n : Int) ≤ (s.size : Int) - at_ := by omega
        have f1 := k.fr 1
        have ex : Hid (s.extract at_ (at_ + n) = ⟨((s.data.toList.drop at_).take n).toArray⟩) := by
          unfold Hid; rw [extract_str, Nat.add_sub_cancel_left]
        clear k hl e
        go_enter Try.func22, Try.ntmps22
        go_wp2
        go_quiet (fail)
        go_wp2
        have ht : Tk ((w.drewN nq).setCell ⟨h, 1, none⟩ (.int .i64 ((at_ : Int) + n))) h s (at_ + n) 0 := tk_at (K.out.drewN nq) (at_ + n)
        have hg : w.grownBy ((w.drewN nq).setCell ⟨h, 1, none⟩ (.int .i64 ((at_ : Int) + n))) (some h) := grown_of_drewN (n := nq) (setCell_grown _ h 1 _)
        have HM := Lib.hid hm
        clear c0 c1 c2 f1 K hd hm
        generalize (w.drewN nq).setCell ⟨h, 1, none⟩ (.int .i64 ((at_ : Int) + n)) = w2 at ht hg ⊢
        have d0 := ht.c0
        have d1 : w2.cell? ⟨h, 1, none⟩ = some (.int .i64 ((at_ : Int) + n)) := ht.c1
        have ew : IntKind.i64.wrap (at_ : Int) = (at_ : Int) := IntWalk.i64_in _ (by omega)
        have e0 : (0 : Int) ≤ (at_ : Int) + n := by omega
        have e1 : (at_ : Int) + n ≤ s.size := by omega
        have e2 : ((at_ : Int) + n).toNat = at_ + n := by omega
        have HT := Lib.hid ht
        clear ht
        have hsl : ∀ a, (Instr.slice 9 (.string s) (some (.int .i64 (at_ : Int))) (some (.int .i64 ((at_ : Int) + n))) none).run Try.prog (w2.drewN a) = .ok (.string ⟨((s.data.toList.drop at_).take n).toArray⟩) (w2.drewN a) := fun a => by
          rw [run_slice_string _ _ _ _ _ _ _ Try.underlying9 (by omega) (by omega) (by omega), Int.toNat_natCast, e2, ex.out]
        go_quiet (fail)
        go_wp2
        go_ret
        exact ⟨rfl, HT.out, grown_drewN hg _⟩
  · have e : rRaw s.data.toList at_ er m = ([], at_, er) := by simp only [rRaw]; rw [if_pos he]
    rw [e]
    have hb : ((er : Int) != 0) = true := by simp; exact he
    clear k
    go_enter Try.func22, Try.ntmps22
    go_wp2
    go_ret
    exact ⟨rfl, K.out, World.grownBy.refl _ _⟩

theorem rNum_err (l : List UInt8) (at_ er : Nat) (wd : Int) (h : (rNum l at_ er wd).2.2 ≠ 0) : (rNum l at_ er wd).2.1 = at_ := by
  unfold rNum at h ⊢
  split
  · rfl
  · split
    · rfl
    · split
      · rfl
      · rename_i h1 h2 h3
        rw [if_neg h1, if_neg h2, if_neg h3] at h
        exact absurd rfl h

theorem ttext_any (w : World) (h : Nat) (s : ByteArray) (at_ er : Nat) (k : Tk w h s at_ er) (hat : at_ ≤ s.size) (hs : s.size ≤ 140737488355328) :
    Calls Try.prog 20 #[.pointer (some ⟨h, 0, none⟩)] w (TkPost (.string ⟨(rText s.data.toList at_ er).1.toArray⟩) w h s (rText s.data.toList at_ er).2.1 (rText s.data.toList at_ er).2.2) := by
  have hl : s.data.toList.length = s.size := by rw [Array.length_toList]; rfl
  have c1 := k.c1
  have HN := Lib.hid (tnum_any w h s at_ er 2 k hat hs)
  have hv2 := rNum2_lt s.data.toList at_ er
  have hle := rNum_le s.data.toList at_ er 2 (by omega)
  have herr := rNum_err s.data.toList at_ er 2
  have hT : rText s.data.toList at_ er = (let x := rNum s.data.toList at_ er 2; let y := rRaw s.data.toList x.2.1 x.2.2 (x.1 : Nat); (y.1, if y.2.2 = 0 then y.2.1 else at_, y.2.2)) := rfl
  generalize rNum s.data.toList at_ er 2 = x at HN hv2 hle herr hT
  obtain ⟨v, a1, e1⟩ := x
  simp only at HN hv2 hle herr hT
  have hw64 : IntKind.i64.wrap (v : Int) = (v : Int) := IntWalk.i64_in _ (by omega)
  have hle2 : a1 ≤ s.size := by omega
  clear k
  by_cases he : e1 = 0
  · subst he
    by_cases hsh : s.size < a1 + v
    · have e : rText s.data.toList at_ er = ([], at_, 2) := by
        have hraw : rRaw s.data.toList a1 0 (v : Nat) = ([], a1, 2) := by
          simp only [rRaw]; rw [if_neg (by simp), if_neg (by omega), if_pos (by omega)]
        rw [hT]; simp [hraw]
      rw [e]
      have hd : (s.size : Int) - a1 < v := by omega
      have HW := Lib.hid (fun u (ku : Tk u h s a1 0) => twrong_any u h s a1 2 at_ ku (by decide))
      clear e hT herr hl
      go_enter Try.func20, Try.ntmps20
      go_wp2_with (go_at_call 18; refine HN.out.mono ?_; rintro e w1 ⟨rfl, ht, hg⟩; have d0 := ht.c0; have d1 := ht.c1; have d2 := ht.c2; have HT := Lib.hid ht; clear ht)
      go_quiet (fail)
      go_wp2_with (go_at_call 29; refine (HW.out _ (HT.out.drewN nq)).mono ?_; rintro e w2 ⟨rfl, ht2, hg2⟩; have x2 := ht2.c2; have HT2 := Lib.hid ht2; clear ht2)
      go_ret
      exact ⟨rfl, HT2.out, grown_trans hg (grown_of_drewN hg2)⟩
    · have hraw : rRaw s.data.toList a1 0 (v : Nat) = ((s.data.toList.drop a1).take v, a1 + v, 0) := by
        simp only [rRaw]; rw [if_neg (by simp), if_neg (by omega), if_neg (by omega), Int.toNat_natCast]
      have e : rText s.data.toList at_ er = ((s.data.toList.drop a1).take v, a1 + v, 0) := by
        rw [hT]; simp [hraw]
      rw [e]
      have hd : ¬ (s.size : Int) - a1 < v := by omega
      have HR := Lib.hid (fun u (ku : Tk u h s a1 0) => traw_any u h s a1 0 (v : Nat) ku (by omega) hs)
      rw [hraw] at HR
      have hdf : decide ((s.size : Int) - a1 < v) = false := by simpa using hd
      clear e hT herr hl hraw hd
      go_enter Try.func20, Try.ntmps20
      go_wp2_with (go_at_call 18; refine HN.out.mono ?_; rintro e w1 ⟨rfl, ht, hg⟩; have d0 := ht.c0; have d1 := ht.c1; have d2 := ht.c2; have HT := Lib.hid ht; clear ht)
      go_quiet (fail)
      go_wp2_with (go_at_call 22; refine (HR.out _ (HT.out.drewN nq)).mono ?_; rintro e w2 ⟨rfl, ht2, hg2⟩)
      go_ret
      exact ⟨rfl, ht2, grown_trans hg (grown_of_drewN hg2)⟩
  · have ha := herr he
    subst ha
    have e : rText s.data.toList a1 er = ([], a1, e1) := by
      have hraw : rRaw s.data.toList a1 e1 (v : Nat) = ([], a1, e1) := by simp only [rRaw]; rw [if_pos he]
      rw [hT]; simp [hraw]
    rw [e]
    have hb : ((e1 : Int) != 0) = true := by simp; exact he
    have hb2 : ((e1 : Int) == 0) = false := by simp; exact he
    clear e hT herr hl
    go_enter Try.func20, Try.ntmps20
    go_wp2_with (go_at_call 18; refine HN.out.mono ?_; rintro e w1 ⟨rfl, ht, hg⟩; have d0 := ht.c0; have d1 := ht.c1; have d2 := ht.c2; have HT := Lib.hid ht; clear ht)
    go_quiet (fail)
    go_wp2
    go_ret
    exact ⟨rfl, HT.out.drewN nq, grown_drewN hg nq⟩

theorem tend_any (w : World) (h : Nat) (s : ByteArray) (at_ er : Nat) (k : Tk w h s at_ er) :
    Calls Try.prog 25 #[.pointer (some ⟨h, 0, none⟩)] w fun e w' => e = .returned (.tuple #[.int .i64 (rEnd s.data.toList at_ er).1, .int .i64 (rEnd s.data.toList at_ er).2]) ∧ ∃ k, w' = w.drewN k := by
  have hl : s.data.toList.length = s.size := by rw [Array.length_toList]; rfl
  have c0 := k.c0
  have c1 := k.c1
  have c2 := k.c2
  have c3 := k.c3
  clear k
  by_cases hz : er = 0
  · rw [if_pos hz] at c3
    by_cases hlt : at_ < s.size
    · have e : rEnd s.data.toList at_ er = (7, at_) := by rw [rEnd, if_pos hz, if_pos (by omega)]
      subst hz
      rw [e]
      clear e hl
      go_enter Try.func25, Try.ntmps25
      go_wp2
      go_quiet (fail)
      go_wp2
      go_quiet (fail)
      go_wp2
      go_ret2
      exact ⟨rfl, _, World.drewN_drewN _ _ _⟩
    · have e : rEnd s.data.toList at_ er = (0, 0) := by rw [rEnd, if_pos hz, if_neg (by omega)]
      subst hz
      rw [e]
      clear e hl
      have hd : decide ((at_ : Int) < s.size) = false := by simp; omega
      go_enter Try.func25, Try.ntmps25
      go_wp2
      go_quiet (fail)
      go_wp2
      go_quiet (fail)
      go_wp2
      go_ret2
      exact ⟨rfl, _, World.drewN_drewN _ _ _⟩
  · rw [if_neg hz] at c3
    have e : rEnd s.data.toList at_ er = (er, at_) := by rw [rEnd, if_neg hz]
    rw [e]
    clear e hl
    have hbz : ((er : Int) == 0) = false := by simp; exact hz
    go_enter Try.func25, Try.ntmps25
    go_wp2
    go_quiet (fail)
    go_wp2
    go_quiet (fail)
    go_wp2
    go_ret2
    exact ⟨rfl, _, World.drewN_drewN _ _ _⟩

end Go.Proofs.Ytkonkmgijgchlaa
