/-
  Contracts of package octet's reader: Read, Num, Raw, Text, At, Err, End.
-/
import Derived.Test.YtflboggjbjfkjaaOctCon
import Derived.Deep.QuietTactic
import Derived.BigQuiet
import Derived.StillTailTactics
namespace Go.Proofs.Ytflboggjbjfkjaa
open Go.RowKit
set_option linter.unusedVariables false
set_option maxRecDepth 100000
set_option linter.unusedSimpArgs false

/-- a reader in block g: its octets l, how far it is, its first error -/
def Rd (w : World) (g : Nat) (sl : Option Addr × Nat) (n : Nat) (l : List UInt8) (at_ er : Nat) : Prop :=
  w.heap[g]? = some (.cells #[.slice sl.1 n sl.2, .int .i64 at_, .int .i64 er] 99 (0, 0)) ∧ BytesAt w sl.1 n sl.2 l ∧ ∀ x, sl.1 = some x → x.block ≠ g




theorem Rd.drewN {w : World} {g : Nat} {sl : Option Addr × Nat} {n : Nat} {l : List UInt8} {at_ er : Nat} (h : Rd w g sl n l at_ er) (k : Nat) : Rd (w.drewN k) g sl n l at_ er := h
theorem Rd.below {w w' : World} {g : Nat} {sl : Option Addr × Nat} {n : Nat} {l : List UInt8} {at_ er : Nat} (h : Rd w g sl n l at_ er) (hb : Below w.heap.size w w') : Rd w' g sl n l at_ er := by
  obtain ⟨h1, h2, h3⟩ := h
  exact ⟨by rw [hb.block g (Array.getElem?_eq_some_iff.1 h1).1]; exact h1, h2.below hb, h3⟩
theorem Rd.agree {w w' : World} {g : Nat} {sl : Option Addr × Nat} {n : Nat} {l : List UInt8} {at_ er : Nat} (h : Rd w g sl n l at_ er) (hg : w'.heap[g]? = w.heap[g]?)
    (hx : ∀ x, sl.1 = some x → w'.heap[x.block]? = w.heap[x.block]?) : Rd w' g sl n l at_ er := by
  obtain ⟨h1, ⟨b1, b2, b3, b4⟩, h3⟩ := h
  refine ⟨by rw [hg]; exact h1, ⟨b1, b2, b3, ?_⟩, h3⟩
  rcases b4 with b4 | ⟨x, ha, hc⟩
  · exact .inl b4
  · exact .inr ⟨x, ha, fun i hi => by rw [World.cell?_of_block (w := w) (by rw [add_block]; exact hx x ha)]; exact hc i hi⟩
theorem Rd.other {w w' : World} {g h : Nat} {sl : Option Addr × Nat} {n : Nat} {l : List UInt8} {at_ er : Nat} (k : Rd w g sl n l at_ er) (hg : w.grownBy w' (some h)) (h1 : g ≠ h) (h2 : ∀ x, sl.1 = some x → x.block ≠ h) : Rd w' g sl n l at_ er :=
  ⟨by rw [hg.block g (Array.getElem?_eq_some_iff.1 k.1).1 (by simpa using h1)]; exact k.1, k.2.1.grown hg (fun x hx => by simpa using h2 x hx), k.2.2⟩
theorem Rd.lt {w : World} {g : Nat} {sl : Option Addr × Nat} {n : Nat} {l : List UInt8} {at_ er : Nat} (h : Rd w g sl n l at_ er) : g < w.heap.size := by
  obtain ⟨h1, h2, h3⟩ := h
  exact (Array.getElem?_eq_some_iff.1 h1).1

theorem Rd.er {w : World} {g : Nat} {sl : Option Addr × Nat} {n : Nat} {l : List UInt8} {at_ er : Nat} (h : Rd w g sl n l at_ er) : w.cell? ⟨g, 2, none⟩ = some (.int .i64 er) := by
  obtain ⟨h1, h2, h3⟩ := h
  exact cell_of_row w g 2 _ _ _ h1
theorem Rd.fr {w : World} {g : Nat} {sl : Option Addr × Nat} {n : Nat} {l : List UInt8} {at_ er : Nat} (h : Rd w g sl n l at_ er) (j : Nat) : w.frozen? ⟨g, j, none⟩ = false := by
  obtain ⟨h1, h2, h3⟩ := h
  exact frozen_of_row w g j _ _ h1
theorem Rd.pl {w : World} {g : Nat} {sl : Option Addr × Nat} {n : Nat} {l : List UInt8} {at_ er : Nat} (h : Rd w g sl n l at_ er) : w.cell? ⟨g, 1, none⟩ = some (.int .i64 at_) := by
  obtain ⟨h1, h2, h3⟩ := h
  exact cell_of_row w g 1 _ _ _ h1


theorem Rd.set_at {w : World} {g : Nat} {sl : Option Addr × Nat} {n : Nat} {l : List UInt8} {at_ er : Nat} (h : Rd w g sl n l at_ er) (at' : Nat) : Rd (w.setCell ⟨g, 1, none⟩ (.int .i64 at')) g sl n l at' er := by
  obtain ⟨h1, h2, h3⟩ := h
  refine ⟨?_, h2.grown (setCell_grown w g 1 _) (fun x hx => by have := h3 x hx; simpa using this), h3⟩
  rw [heap_setCell_same w g 1 _ _ _ h1]
  rfl
theorem Rd.set_er {w : World} {g : Nat} {sl : Option Addr × Nat} {n : Nat} {l : List UInt8} {at_ er : Nat} (h : Rd w g sl n l at_ er) (er' : Nat) : Rd (w.setCell ⟨g, 2, none⟩ (.int .i64 er')) g sl n l at_ er' := by
  obtain ⟨h1, h2, h3⟩ := h
  refine ⟨?_, h2.grown (setCell_grown w g 2 _) (fun x hx => by have := h3 x hx; simpa using this), h3⟩
  rw [heap_setCell_same w g 2 _ _ _ h1]
  rfl


theorem read_any (a : Option Addr) (n cap : Nat) (l : List UInt8) (w : World) (hl : BytesAt w a n cap l) (hn : n ≤ 140737488355328) :
    Calls Try.prog 38 #[.slice a n cap] w fun e w' => ∃ g sl, e = .returned (.pointer (some ⟨g, 0, none⟩)) ∧ w.heap.size ≤ g ∧ Rd w' g sl n l 0 0 ∧ (∀ x, sl.1 = some x → w.heap.size ≤ x.block ∧ x.block < g) ∧ Below w.heap.size w w' := by
  have hno : w.ownsRow w.heap.size 5 1 (.slice none 0 0) 0 [] := World.ownsRow_nil _ _ _ _
  have HNO := Lib.hid hno
  clear hno
  go_enter Try.func38, Try.ntmps38
  go_wp2_with (at_builtin; refine wpList_append_bytes rfl _ _ rfl w.heap.size (.slice none 0 0) 0 [] rfl HNO.out a n cap l rfl hl n (by omega) hn (Nat.le_refl _) ?_; intro a1 cap1 w1 ho hg)
  go_ret
  have hb1 : Below w.heap.size w w1 := (Below.refl _ _).grown hg (Nat.le_refl _) (fun k hk => by cases hk)
  have hb2 : Below w1.heap.size w1 (w1.alloc (.cells #[.slice a1 n cap1, .int .i64 0, .int .i64 0] 99)) := (Below.refl _ _).alloc (Nat.le_refl _) _
  rw [List.nil_append] at ho
  have hblk : ∀ x, a1 = some x → w.heap.size ≤ x.block ∧ x.block < w1.heap.size := fun x hx => by subst hx; exact ho.lt x.block rfl
  exact ⟨w1.heap.size, (a1, cap1), rfl, hb1.size, ⟨heap_alloc_new w1 _, (BytesAt.owned ho).below hb2, fun x hx => by have := (hblk x hx).2; omega⟩, hblk, hb1.trans (hb2.mono hb1.size)⟩

theorem wp_region_tail {P : Program} {id : Nat} {Q : Exit → Act → World → Prop} {a : Act} {w : World} {l : List Oper} (n : Nat) (hm : P.follows .mixedOrders = true) (hB : Region.lexTailB .any l.toArray n = true)
    (h : wpStill P l.toArray w.drew (fun a' => wpList P l.toArray Q (l.drop n) a' w.drew) (l.take n) a) : (Code.region id l.toArray true).wp P Q a w :=
  wp_region_still_tail n hm hB h

def rNum (l : List UInt8) (at_ er : Nat) (wd : Int) : Nat × Nat × Nat :=
  if er ≠ 0 then (0, at_, er) else if wd < 1 ∨ 8 < wd then (0, at_, 1) else if (l.length : Int) < at_ + wd then (0, at_, 2) else (le ((l.drop at_).take wd.toNat), at_ + wd.toNat, 0)

def RdPost (v : Value) (w : World) (g : Nat) (sl : Option Addr × Nat) (n : Nat) (l : List UInt8) (at_ er : Nat) (e : Ending) (w' : World) : Prop :=
  e = .returned v ∧ Rd w' g sl n l at_ er ∧ w.grownBy w' (some g)

theorem rdnum_stuck (w : World) (g : Nat) (sl : Option Addr × Nat) (n : Nat) (l : List UInt8) (at_ er : Nat) (wd : Int) (hr : Rd w g sl n l at_ er) (he : er ≠ 0) :
    Calls Try.prog 39 #[.pointer (some ⟨g, 0, none⟩), .int .i64 wd] w (RdPost (.int .u64 0) w g sl n l at_ er) := by
  obtain ⟨a, cap⟩ := sl
  obtain ⟨h1, h2, h3⟩ := hr
  simp only at h1 h2 h3
  have c2 : w.cell? ⟨g, 2, none⟩ = some (.int .i64 er) := cell_of_row w g 2 _ _ _ h1
  have hb : ((er : Int) != 0) = true := by simp; exact he
  have HR : Rd w g (a, cap) n l at_ er := ⟨h1, h2, h3⟩
  clear h1 h2 h3
  go_enter Try.func39, Try.ntmps39
  go_wp2
  go_ret
  exact ⟨rfl, HR, World.grownBy.refl _ _⟩

theorem rdnum_wrong (w : World) (g : Nat) (sl : Option Addr × Nat) (n : Nat) (l : List UInt8) (at_ : Nat) (wd : Int) (er : Nat) (hr : Rd w g sl n l at_ 0) (he : er ≠ 0)
    (hcall : ∀ a cap u, BytesAt u a n cap l → Calls Try.prog 56 #[.slice a n cap, .int .i64 at_, .int .i64 wd] u fun e w' => e = .returned (.tuple #[.int .u64 0, .int .i64 er]) ∧ u = w') :
    Calls Try.prog 39 #[.pointer (some ⟨g, 0, none⟩), .int .i64 wd] w (RdPost (.int .u64 0) w g sl n l at_ er) := by
  obtain ⟨a, cap⟩ := sl
  obtain ⟨h1, h2, h3⟩ := hr
  simp only at h1 h2 h3
  have c0 : w.cell? ⟨g, 0, none⟩ = some (.slice a n cap) := cell_of_row w g 0 _ _ _ h1
  have c1 : w.cell? ⟨g, 1, none⟩ = some (.int .i64 at_) := cell_of_row w g 1 _ _ _ h1
  have c2 : w.cell? ⟨g, 2, none⟩ = some (.int .i64 0) := cell_of_row w g 2 _ _ _ h1
  have f2 : w.frozen? ⟨g, 2, none⟩ = false := frozen_of_row w g 2 _ _ h1
  have hb : ((er : Int) != 0) = true := by simp; exact he
  have HR := Lib.hid (show Rd w g (a, cap) n l at_ 0 from ⟨h1, h2, h3⟩)
  have HC := Lib.hid (fun k => hcall a cap (w.drewN k) (h2.below (below_drewN (Below.refl _ _) k)))
  clear h1 h2 h3 hcall
  go_enter Try.func39, Try.ntmps39
  go_wp2
  go_quiet ((go_at_call 56; exact quiet_left (HC.out _)))
  go_wp2
  go_ret
  exact ⟨rfl, (HR.out.drewN nq).set_er er, grown_of_drewN (n := nq) (setCell_grown _ g 2 _)⟩

theorem rdnum_good (w : World) (g : Nat) (sl : Option Addr × Nat) (n : Nat) (l : List UInt8) (at_ wd v : Nat) (hr : Rd w g sl n l at_ 0) (hmax : at_ + wd ≤ 9223372036854775807)
    (hcall : ∀ a cap u, BytesAt u a n cap l → Calls Try.prog 56 #[.slice a n cap, .int .i64 at_, .int .i64 wd] u fun e w' => e = .returned (.tuple #[.int .u64 v, .int .i64 0]) ∧ u = w') :
    Calls Try.prog 39 #[.pointer (some ⟨g, 0, none⟩), .int .i64 wd] w (RdPost (.int .u64 v) w g sl n l (at_ + wd) 0) := by
  obtain ⟨a, cap⟩ := sl
  obtain ⟨h1, h2, h3⟩ := hr
  simp only at h1 h2 h3
  have c0 : w.cell? ⟨g, 0, none⟩ = some (.slice a n cap) := cell_of_row w g 0 _ _ _ h1
  have c1 : w.cell? ⟨g, 1, none⟩ = some (.int .i64 at_) := cell_of_row w g 1 _ _ _ h1
  have c2 : w.cell? ⟨g, 2, none⟩ = some (.int .i64 0) := cell_of_row w g 2 _ _ _ h1
  have f1 : w.frozen? ⟨g, 1, none⟩ = false := frozen_of_row w g 1 _ _ h1
  have HR := Lib.hid (show Rd w g (a, cap) n l at_ 0 from ⟨h1, h2, h3⟩)
  have HC := Lib.hid (fun k => hcall a cap (w.drewN k) (h2.below (below_drewN (Below.refl _ _) k)))
  clear h1 h2 h3 hcall
  go_enter Try.func39, Try.ntmps39
  go_wp2
  go_quiet ((go_at_call 56; exact quiet_left (HC.out _)))
  go_wp2
  go_ret
  exact ⟨rfl, (HR.out.drewN nq).set_at (at_ + wd), grown_of_drewN (n := nq) (setCell_grown _ g 1 _)⟩

theorem BytesAt.max {w : World} {a : Option Addr} {n cap : Nat} {l : List UInt8} (h : BytesAt w a n cap l) : n ≤ 9223372036854775807 := by
  have := h.2.1; have := h.2.2.1; unfold maxLen at this; omega

/-- a number is read on -/
theorem rdnum_any (w : World) (g : Nat) (sl : Option Addr × Nat) (n : Nat) (l : List UInt8) (at_ er : Nat) (wd : Int) (hr : Rd w g sl n l at_ er) (hat : at_ ≤ n) :
    Calls Try.prog 39 #[.pointer (some ⟨g, 0, none⟩), .int .i64 wd] w (RdPost (.int .u64 (rNum l at_ er wd).1) w g sl n l (rNum l at_ er wd).2.1 (rNum l at_ er wd).2.2) := by
  have hn : l.length = n := by exact hr.2.1.1
  have hmax : n ≤ 9223372036854775807 := by exact hr.2.1.max
  by_cases he : er = 0
  · subst he
    by_cases hw : wd < 1 ∨ 8 < wd
    · have e : rNum l at_ 0 wd = (0, at_, 1) := by simp only [rNum]; rw [if_neg (by simp), if_pos hw]
      rw [e]
      exact rdnum_wrong w g sl n l at_ wd 1 hr (by decide) (fun a cap u hb => num_arg a n cap at_ wd u hw)
    · obtain ⟨m, rfl⟩ := Int.eq_ofNat_of_zero_le (show 0 ≤ wd by omega)
      by_cases hs : l.length < at_ + m
      · have e : rNum l at_ 0 m = (0, at_, 2) := by simp only [rNum]; rw [if_neg (by simp), if_neg hw, if_pos (by omega)]
        rw [e]
        exact rdnum_wrong w g sl n l at_ m 2 hr (by decide) (fun a cap u hb => num_short a n cap at_ m u (by omega) (by omega) hat (by omega) hb.max)
      · have e : rNum l at_ 0 m = (le ((l.drop at_).take m), at_ + m, 0) := by
          simp only [rNum]; rw [if_neg (by simp), if_neg hw, if_neg (by omega), Int.toNat_natCast]
        rw [e]
        exact rdnum_good w g sl n l at_ m _ hr (by omega) (fun a cap u hb => num_ok a n cap l at_ m u (by omega) (by omega) (by omega) hb)
  · have e : rNum l at_ er wd = (0, at_, er) := by simp only [rNum]; rw [if_pos he]
    rw [e]
    exact rdnum_stuck w g sl n l at_ er wd hr he

def rRaw (l : List UInt8) (at_ er : Nat) (m : Int) : List UInt8 × Nat × Nat :=
  if er ≠ 0 then ([], at_, er) else if m < 0 then ([], at_, 1) else if (l.length : Int) < at_ + m then ([], at_, 2) else ((l.drop at_).take m.toNat, at_ + m.toNat, 0)

/-- what is handed back is a slice of new memory that reads as r -/
def RawPost (r : List UInt8) (w : World) (g : Nat) (sl : Option Addr × Nat) (n : Nat) (l : List UInt8) (at_ er : Nat) (e : Ending) (w' : World) : Prop :=
  ∃ a cap, e = .returned (.slice a r.length cap) ∧ BytesAt w' a r.length cap r ∧ Rd w' g sl n l at_ er ∧ w.grownBy w' (some g) ∧ ∀ x, a = some x → w.heap.size ≤ x.block




theorem BytesAt.cut {w : World} {a : Option Addr} {n cap at_ m : Nat} {l : List UInt8} (h : BytesAt w a n cap l) (hm : at_ + m ≤ n) :
    BytesAt w (if cap = at_ then a else Option.map (fun x => x.add at_) a) m (cap - at_) ((l.drop at_).take m) := by
  obtain ⟨h1, h2, h3, h4⟩ := h
  refine ⟨by simp; omega, by omega, by omega, ?_⟩
  by_cases hc : cap = at_
  · have : m = 0 := by omega
    subst this
    rw [if_pos hc]
    rcases h4 with ⟨rfl, _, _⟩ | ⟨x, rfl, hx⟩
    · exact .inl ⟨rfl, rfl, by omega⟩
    · exact .inr ⟨x, rfl, fun i hi => by omega⟩
  · rw [if_neg hc]
    rcases h4 with ⟨rfl, h5, h6⟩ | ⟨x, rfl, hx⟩
    · omega
    · refine .inr ⟨_, rfl, fun i hi => ?_⟩
      have e : (x.add at_).add i = x.add (at_ + i) := by
        unfold Addr.add
        by_cases h0 : at_ = 0 <;> by_cases h1 : i = 0 <;> simp [h0, h1, Nat.add_assoc]
      rw [e, hx _ (by omega)]
      simp [List.getD, List.getElem?_take, List.getElem?_drop, hi]



theorem le2_lt (l : List UInt8) (at_ : Nat) : le ((l.drop at_).take 2) < 65536 := by
  have h1 := le_lt ((l.drop at_).take 2)
  have h2 : ((l.drop at_).take 2).length ≤ 2 := by simp; omega
  have h3 : 256 ^ ((l.drop at_).take 2).length ≤ 256 ^ 2 := Nat.pow_le_pow_right (by omega) h2
  omega

theorem rNum2_lt (l : List UInt8) (at_ er : Nat) : (rNum l at_ er 2).1 < 65536 := by
  unfold rNum
  split
  · simp
  · split
    · simp
    · split
      · simp
      · exact le2_lt l at_

theorem rNum_le (l : List UInt8) (at_ er : Nat) (wd : Int) (h : at_ ≤ l.length) : (rNum l at_ er wd).2.1 ≤ l.length := by
  unfold rNum
  split
  · exact h
  · split
    · exact h
    · split
      · exact h
      · simp only; omega

theorem rRaw_le (l : List UInt8) (at_ er : Nat) (m : Int) (h : at_ ≤ l.length) : (rRaw l at_ er m).2.1 ≤ l.length := by
  unfold rRaw
  split
  · exact h
  · split
    · exact h
    · split
      · exact h
      · simp only; omega

def rText (l : List UInt8) (at_ er : Nat) : List UInt8 × Nat × Nat :=
  let x := rNum l at_ er 2
  let y := rRaw l x.2.1 x.2.2 (x.1 : Nat)
  (y.1, if y.2.2 = 0 then y.2.1 else at_, y.2.2)

theorem rText_le (l : List UInt8) (at_ er : Nat) (h : at_ ≤ l.length) : (rText l at_ er).2.1 ≤ l.length := by
  simp only [rText]
  split
  · exact rRaw_le _ _ _ _ (rNum_le _ _ _ _ h)
  · exact h




def rEnd (l : List UInt8) (at_ er : Nat) : Nat × Nat := if er = 0 then (if at_ < l.length then (7, at_) else (0, 0)) else (er, at_)


end Go.Proofs.Ytflboggjbjfkjaa
