/-
  Writers and readers of a call's own: everything they write lies at n0 or behind.
-/
import Derived.Test.YtgfdonmkhmolpaaBtT
namespace Go.Proofs.Ytgfdonmkhmolpaa
open Go.RowKit
set_option linter.unusedVariables false
set_option linter.unusedSimpArgs false
set_option maxRecDepth 100000

/-- a writer that was made at n0 or later -/
def WrS (n0 : Nat) (w : World) (B : Nat) (F : List Bool) : Prop := ∃ v, WrV w B v F ∧ n0 ≤ B ∧ ∀ k, v.ownBlock = some k → n0 ≤ k
/-- blocks of other types stay -/
def KeepT (B : Nat) (w w' : World) : Prop := ∀ k c t, w.heap[k]? = some (.cells c t (0, 0)) → k ≠ B → t ≠ 5 → w'.heap[k]? = some (.cells c t (0, 0))
/-- what a writer's call leaves -/
def WrK (n0 B : Nat) (F : List Bool) (w w' : World) : Prop := WrS n0 w' B F ∧ Below n0 w w' ∧ KeepT B w w'
theorem WrS.lt {n0 : Nat} {w : World} {B : Nat} {F : List Bool} (h : WrS n0 w B F) : B < w.heap.size := by obtain ⟨v, h, _⟩ := h; exact h.lt
theorem WrS.le {n0 : Nat} {w : World} {B : Nat} {F : List Bool} (h : WrS n0 w B F) : n0 ≤ w.heap.size := by obtain ⟨v, h, h2, _⟩ := h; have := h.lt; omega
theorem WrS.below {n0 : Nat} {w w' : World} {B : Nat} {F : List Bool} (h : WrS n0 w B F) (hb : Below w.heap.size w w') : WrS n0 w' B F := by
  obtain ⟨v, h1, h2, h3⟩ := h
  exact ⟨v, ⟨(hb.block B h1.lt).trans h1.1, h1.2.below hb⟩, h2, h3⟩
theorem WrK.of {n0 : Nat} {w w' : World} {B : Nat} {v : Value} {F G : List Bool} (h : WrV w B v F) (h2 : n0 ≤ B) (h3 : ∀ k, v.ownBlock = some k → n0 ≤ k) (ht : WrTo B v G w w') : WrK n0 B G w w' := by
  obtain ⟨v', h', ho, hb⟩ := ht
  have hn := h.lt
  refine ⟨⟨v', h', h2, fun k hk => ?_⟩, ho.below (by omega) (fun i hi hs => ?_), fun k c t hk hB ht => ?_⟩
  · rcases hb with hb | ⟨j, hj, hj2⟩
    · rw [hb] at hk; exact h3 k hk
    · rw [hj] at hk; injection hk with hk; omega
  · rcases hs with rfl | hs
    · omega
    · have := h3 i hs; omega
  · rw [ho.block k (Array.getElem?_eq_some_iff.1 hk).1 ?_]
    · exact hk
    · rintro (hs | hs)
      · exact hB hs
      · obtain ⟨cur, hc⟩ := h.2.blk k hs
        rw [hk] at hc
        injection hc with hc
        injection hc with _ hc
        exact ht hc
theorem wr_scene {f : FuncId} {args : Array Value} {n0 : Nat} {w : World} {B : Nat} {F G : List Bool} {P : Ending → Prop} (h : WrS n0 w B F)
    (hc : ∀ v, WrV w B v F → Calls Try.prog f args w fun e w' => P e ∧ WrTo B v G w w') : Calls Try.prog f args w fun e w' => P e ∧ WrK n0 B G w w' := by
  obtain ⟨v, h1, h2, h3⟩ := h
  exact (hc v h1).mono fun e w' ⟨he, ht⟩ => ⟨he, WrK.of h1 h2 h3 ht⟩
theorem keep_bools {B : Nat} {w w' : World} {v : Value} {L : List Bool} (hk : KeepT B w w') (h : BoO w v L) (hB : ∃ c, w.heap[B]? = some (.cells c 74 (0, 0))) : BoO w' v L := by
  refine h.keep fun k hkk => ?_
  obtain ⟨cur, hc⟩ := h.blk k hkk
  obtain ⟨c, hB⟩ := hB
  rw [hc, hk k cur _ hc (h.ne_of hB (by decide) k hkk) (by decide)]
theorem WrS.box {n0 : Nat} {w : World} {B : Nat} {F : List Bool} (h : WrS n0 w B F) : ∃ c, w.heap[B]? = some (.cells c 74 (0, 0)) := by obtain ⟨v, h1, _⟩ := h; exact ⟨_, h1.1⟩

theorem newS (w : World) (n0 : Nat) (hn : n0 ≤ w.heap.size) : Calls Try.prog 20 #[] w fun e w' => e = .returned (.pointer (some ⟨w.heap.size, 0, none⟩)) ∧ WrS n0 w' w.heap.size [] ∧ Below w.heap.size w w' :=
  (newW_any w).mono fun e w' ⟨he, hw, hb⟩ => ⟨he, ⟨_, hw, hn, fun k hk => by simp [Value.ownBlock] at hk⟩, hb⟩

theorem turnS {n0 B : Nat} {F : List Bool} {w : World} (h : WrS n0 w B F) (x : Nat) (n : Int) (hx : x < 18446744073709551616) (hF : F.length ≤ 1099511627000) :
    Calls Try.prog 39 #[.pointer (some ⟨B, 0, none⟩), .int .u64 x, .int .i64 n] w fun e w' => e = .returned (.int .i64 (fitE x n)) ∧ WrK n0 B (turnL x n F) w w' :=
  wr_scene h fun v hv => turnW_any B v F x n w hv hx hF

theorem countS {n0 B : Nat} {F : List Bool} {w : World} (h : WrS n0 w B F) :
    Calls Try.prog 25 #[.pointer (some ⟨B, 0, none⟩)] w fun e w' => e = .returned (.int .i64 (F.length : Int)) ∧ w = w' := by
  obtain ⟨v, h1, _⟩ := h
  exact countW_any B v F w h1
theorem bytesS {n0 B : Nat} {F : List Bool} {w : World} (h : WrS n0 w B F) (hF : F.length ≤ 1099511627776) :
    Calls Try.prog 26 #[.pointer (some ⟨B, 0, none⟩)] w (ReadB id (octN F.length) (packB F) w) := by
  obtain ⟨v, h1, _⟩ := h
  exact readB_of (bytesW_any B v F w h1 hF)

/-- a reader that was made at n0 or later -/
def RdS (n0 : Nat) (w : World) (B : Nat) (l : List UInt8) (at_ : Nat) : Prop := ∃ a cap, RdV w B a cap l at_ ∧ n0 ≤ B ∧ ∀ x, a = some x → n0 ≤ x.block
/-- what a reader's call leaves -/
def RdK (n0 B : Nat) (l : List UInt8) (at_ : Nat) (w w' : World) : Prop := RdS n0 w' B l at_ ∧ Below n0 w w' ∧ Only (fun i => i = B) w w'
theorem RdS.le {n0 : Nat} {w : World} {B : Nat} {l : List UInt8} {at_ : Nat} (h : RdS n0 w B l at_) : n0 ≤ w.heap.size := by obtain ⟨a, cap, h, h2, _⟩ := h; have := h.lt; omega
theorem RdS.below {n0 : Nat} {w w' : World} {B : Nat} {l : List UInt8} {at_ : Nat} (h : RdS n0 w B l at_) (hb : Below w.heap.size w w') : RdS n0 w' B l at_ := by
  obtain ⟨a, cap, h1, h2, h3⟩ := h
  exact ⟨a, cap, ⟨(hb.block B h1.lt).trans h1.1, h1.2.below hb⟩, h2, h3⟩
theorem RdK.of {n0 B : Nat} {a : Option Addr} {cap : Nat} {l : List UInt8} {i j : Nat} {w w' : World} (h : RdV w B a cap l i) (h2 : n0 ≤ B) (h3 : ∀ x, a = some x → n0 ≤ x.block) (ht : RdTo B a cap l j w w') : RdK n0 B l j w w' :=
  ⟨⟨a, cap, ht.1, h2, h3⟩, ht.2.below (by have := h.lt; omega) (fun i hi hs => by omega), ht.2⟩
theorem readS (sa : Option Addr) (sn sc : Nat) (l : List UInt8) (w : World) (h : BytesAt w sa sn sc l) (hn : sn ≤ 1099511627776) :
    Calls Try.prog 14 #[.slice sa sn sc] w fun e w' => ∃ B, e = .returned (.pointer (some ⟨B, 0, none⟩)) ∧ RdS w.heap.size w' B l 0 ∧ Below w.heap.size w w' :=
  (readR_any sa sn sc l w h hn).mono fun e w' ⟨B, a, cap, he, hr, hb, h2, h3⟩ => ⟨B, he, ⟨a, cap, hr, h2, h3⟩, hb⟩
theorem atS {n0 B : Nat} {l : List UInt8} {at_ : Nat} {w : World} (h : RdS n0 w B l at_) :
    Calls Try.prog 19 #[.pointer (some ⟨B, 0, none⟩)] w fun e w' => e = .returned (.int .i64 (at_ : Int)) ∧ w = w' := by
  obtain ⟨a, cap, h1, _⟩ := h
  exact atR_any B a cap l at_ w h1
theorem leftS {n0 B : Nat} {l : List UInt8} {at_ : Nat} {w : World} (h : RdS n0 w B l at_) (hl : l.length ≤ 1099511627776) (hat : at_ ≤ 8 * l.length) :
    Calls Try.prog 37 #[.pointer (some ⟨B, 0, none⟩)] w fun e w' => e = .returned (.int .i64 ((8 * l.length - at_ : Nat) : Int)) ∧ ∃ n, w' = w.drewN n := by
  obtain ⟨a, cap, h1, _⟩ := h
  exact leftR_any B a cap l at_ w h1 hl hat

theorem takeS {n0 B : Nat} {l : List UInt8} {at_ : Nat} {w : World} (h : RdS n0 w B l at_) (n : Int) (hl : l.length ≤ 1099511627776) (hat : at_ ≤ 8 * l.length) :
    Calls Try.prog 16 #[.pointer (some ⟨B, 0, none⟩), .int .i64 n] w fun e w' => e = .returned (.tuple #[.int .u64 ((takeR l at_ n).1 : Int), .int .i64 (takeR l at_ n).2.1]) ∧ RdK n0 B l (takeR l at_ n).2.2 w w' := by
  obtain ⟨a, cap, h1, h2, h3⟩ := h
  exact (takeR_any B a cap l at_ n w h1 hl hat).mono fun e w' ⟨he, ht⟩ => ⟨he, RdK.of h1 h2 h3 ht⟩
/-- octets that are handed out, by a reader of the call's own -/
def OctsK (n0 B : Nat) (l : List UInt8) (r : List UInt8 × Int × Nat) (w : World) (e : Ending) (w' : World) : Prop :=
  ∃ a2 cap2, e = .returned (.tuple #[.slice a2 r.1.length cap2, .int .i64 r.2.1]) ∧ BytesAt w' a2 r.1.length cap2 r.1 ∧ RdK n0 B l r.2.2 w w'

end Go.Proofs.Ytgfdonmkhmolpaa
