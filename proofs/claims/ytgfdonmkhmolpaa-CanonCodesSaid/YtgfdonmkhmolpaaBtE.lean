/-
  Contracts of package bits: a Reader: Read, At, Left, bit, Align, Take.
-/
import Derived.Test.YtgfdonmkhmolpaaBtD
namespace Go.Proofs.Ytgfdonmkhmolpaa
open Go.RowKit
set_option linter.unusedVariables false
set_option linter.unusedSimpArgs false
set_option maxRecDepth 100000

/-- a reader, in its box B, of the octets l, so many bits read; (a, cap) is its slice -/
def RdV (w : World) (B : Nat) (a : Option Addr) (cap : Nat) (l : List UInt8) (at_ : Nat) : Prop :=
  w.heap[B]? = some (.cells #[.slice a l.length cap, .int .i64 (at_ : Int)] 70 (0, 0)) ∧ BytesAt w a l.length cap l
theorem RdV.lt {w : World} {B : Nat} {a : Option Addr} {cap : Nat} {l : List UInt8} {at_ : Nat} (h : RdV w B a cap l at_) : B < w.heap.size := (Array.getElem?_eq_some_iff.1 h.1).1
theorem RdV.ne {w : World} {B : Nat} {a : Option Addr} {cap : Nat} {l : List UInt8} {at_ : Nat} (h : RdV w B a cap l at_) (hl : 0 < l.length) : ∀ x, a = some x → x.block ≠ B := by
  intro x hx hb
  obtain ⟨b, off, ha, hc⟩ := h.2.at hl
  rw [hx] at ha
  injection ha with ha
  subst ha
  have h0 := hc 0 hl
  simp only at hb
  subst hb
  rw [cell_of_row _ _ _ _ _ _ h.1] at h0
  match off with
  | 0 => simp at h0
  | 1 => simp at h0
  | n + 2 => simp at h0
theorem BytesAt.empty {w w' : World} {a : Option Addr} {n cap : Nat} {l : List UInt8} (h : BytesAt w a n cap l) (h0 : n = 0) : BytesAt w' a n cap l := by
  obtain ⟨h1, h2, h3, h4⟩ := h
  refine ⟨h1, h2, h3, ?_⟩
  rcases h4 with h4 | ⟨x, hx, _⟩
  · exact .inl h4
  · exact .inr ⟨x, hx, fun i hi => by omega⟩
/-- it is read on -/
theorem RdV.to {w : World} {B : Nat} {a : Option Addr} {cap : Nat} {l : List UInt8} {at_ : Nat} (h : RdV w B a cap l at_) (k : Nat) :
    RdV (w.setCell ⟨B, 1, none⟩ (.int .i64 (k : Int))) B a cap l k ∧ Only (fun i => i = B) w (w.setCell ⟨B, 1, none⟩ (.int .i64 (k : Int))) := by
  have ho : Only (fun i => i = B) w (w.setCell ⟨B, 1, none⟩ (.int .i64 (k : Int))) := Only.setCell _ _ _ rfl
  refine ⟨⟨by rw [heap_setCell_same _ B 1 _ _ _ h.1]; rfl, ?_⟩, ho⟩
  by_cases hl : 0 < l.length
  · exact h.2.only ho (h.ne hl)
  · exact h.2.empty (by omega)
theorem RdV.drewN {w : World} {B : Nat} {a : Option Addr} {cap : Nat} {l : List UInt8} {at_ : Nat} (h : RdV w B a cap l at_) (k : Nat) : RdV (w.drewN k) B a cap l at_ := h
/-- what a reader's call leaves -/
def RdTo (B : Nat) (a : Option Addr) (cap : Nat) (l : List UInt8) (at_ : Nat) (w w' : World) : Prop := RdV w' B a cap l at_ ∧ Only (fun i => i = B) w w'
theorem RdTo.trans {B : Nat} {a : Option Addr} {cap : Nat} {l : List UInt8} {i j : Nat} {w w1 w2 : World} (h : RdTo B a cap l i w w1) (k : RdTo B a cap l j w1 w2) : RdTo B a cap l j w w2 :=
  ⟨k.1, h.2.trans k.2 fun _ _ hs => hs⟩
theorem RdV.keep {w w' : World} {B : Nat} {a : Option Addr} {cap : Nat} {l : List UInt8} {at_ : Nat} {S : Nat → Prop} (h : RdV w B a cap l at_) (ho : Only S w w') (hB : ¬ S B) (ha : ∀ x, a = some x → ¬ S x.block) : RdV w' B a cap l at_ :=
  ⟨(ho.block B h.lt hB).trans h.1, h.2.only ho ha⟩

/-- Read -/
theorem readR_any (sa : Option Addr) (sn sc : Nat) (l : List UInt8) (w : World) (h : BytesAt w sa sn sc l) (hn : sn ≤ 1099511627776) :
    Calls Try.prog 14 #[.slice sa sn sc] w fun e w' => ∃ B a cap, e = .returned (.pointer (some ⟨B, 0, none⟩)) ∧ RdV w' B a cap l 0 ∧ Below w.heap.size w w' ∧ w.heap.size ≤ B ∧ ∀ x, a = some x → w.heap.size ≤ x.block := by
  have C := Lib.hid (wclone_any sa sn sc l w h hn)
  have hl := h.1
  have HL := Lib.hid hl
  clear h hl
  go_enter Try.func14, Try.ntmps14
  go_wp2_with fail
  refine C.out.mono ?_
  rintro e w1 ⟨a, cap, rfl, ho, hb⟩
  have HO := Lib.hid ho
  have HB := Lib.hid hb
  clear ho hb
  dsimp only [id]
  go_wp2
  go_ret
  refine ⟨w1.heap.size, a, cap, rfl, ⟨?_, ?_⟩, HB.out.alloc HB.out.size _, HB.out.size, fun x hx => ?_⟩
  · rw [HL.out]; exact heap_alloc_new _ _
  · rw [HL.out]; exact (BytesAt.owned HO.out).below ((Below.refl _ _).alloc (Nat.le_refl _) _)
  · subst hx
    rcases HO.out.2 with ⟨h', _⟩ | ⟨g, cap', cur, h', hg, _⟩
    · simp at h'
    · simp only [Value.slice.injEq, Option.some.injEq] at h'
      obtain ⟨rfl, _, _⟩ := h'
      exact hg

/-- At -/
theorem atR_any (B : Nat) (a : Option Addr) (cap : Nat) (l : List UInt8) (at_ : Nat) (w : World) (h : RdV w B a cap l at_) :
    Calls Try.prog 19 #[.pointer (some ⟨B, 0, none⟩)] w fun e w' => e = .returned (.int .i64 (at_ : Int)) ∧ w = w' := by
  obtain ⟨c0, c1, f0, f1⟩ := two_cells h.1
  go_enter Try.func19, Try.ntmps19
  go_wp2
  go_ret
  exact ⟨rfl, rfl⟩

/-- Left -/
theorem leftR_any (B : Nat) (a : Option Addr) (cap : Nat) (l : List UInt8) (at_ : Nat) (w : World) (h : RdV w B a cap l at_) (hl : l.length ≤ 1099511627776) (hat : at_ ≤ 8 * l.length) :
    Calls Try.prog 37 #[.pointer (some ⟨B, 0, none⟩)] w fun e w' => e = .returned (.int .i64 ((8 * l.length - at_ : Nat) : Int)) ∧ ∃ n, w' = w.drewN n := by
  obtain ⟨c0, c1, f0, f1⟩ := two_cells h.1
  have he : (l.length : Int) * 8 - at_ = ((8 * l.length - at_ : Nat) : Int) := by omega
  have HE := Lib.hid he
  clear he h
  generalize 8 * l.length - at_ = q at *
  generalize l.length = m at *
  go_enter Try.func37, Try.ntmps37
  go_wp2
  have e1 : IntKind.i64.wrap ((m : Int) * 8) = (m : Int) * 8 := IntWalk.i64_in _ (by omega)
  have e2 : IntKind.i64.wrap ((m : Int) * 8 - at_) = (m : Int) * 8 - at_ := IntWalk.i64_in _ (by omega)
  go_quiet (fail)
  go_wp2
  go_ret
  exact ⟨congrArg (fun x => Ending.returned (.int .i64 x)) HE.out, _, rfl⟩
end Go.Proofs.Ytgfdonmkhmolpaa
