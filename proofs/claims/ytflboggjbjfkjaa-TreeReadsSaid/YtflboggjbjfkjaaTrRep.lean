/-
  Pairs, octets and slices of slices in memory.
-/
import Derived.Test.YtflboggjbjfkjaaTrLook
import Derived.Test.YtflboggjbjfkjaaCame
import Derived.Test.YtflboggjbjfkjaaFill
import Derived.Test.YtflboggjbjfkjaaHead
import Derived.Test.YtflboggjbjfkjaaCrcC
namespace Go.Proofs.Ytflboggjbjfkjaa
open Go.RowKit
set_option linter.unusedVariables false
set_option linter.unusedSimpArgs false

/-! ### records that are owned are read -/
theorem Recs.came {α : Type} {f : α → List Value} {w : World} {e : TypeId} {size n cap : Nat} {a : Option Addr} {L : List α} (h : Recs f w e size (.slice a n cap) L) : CameAt f size w a n cap L := by
  obtain ⟨a', cap', hv, h1, h2⟩ := h.form
  simp only [Value.slice.injEq] at hv
  obtain ⟨rfl, rfl, rfl⟩ := hv
  refine ⟨rfl, h1, h2, h.1, ?_⟩
  by_cases hp : 0 < L.length
  · obtain ⟨g, cap2, hv, _, _, _⟩ := h.form' hp
    simp only [Value.slice.injEq] at hv
    obtain ⟨rfl, _, rfl⟩ := hv
    exact .inr ⟨_, rfl, fun i j x hi hj => by rw [Addr.add_mid, Nat.zero_add]; exact h.cellAt i j x hi hj⟩
  · rcases h.2.2.2 with ⟨hv, h0⟩ | ⟨g, cap2, cur, hv, _⟩
    · simp at hv; exact .inl ⟨hv.1, by omega, hv.2.2⟩
    · simp only [Value.slice.injEq] at hv
      obtain ⟨rfl, _, rfl⟩ := hv
      exact .inr ⟨_, rfl, fun i j x hi hj => by have := (List.getElem?_eq_some_iff.1 hi).1; omega⟩
theorem CameAt.len {α : Type} {f : α → List Value} {w : World} {size n cap : Nat} {a : Option Addr} {L : List α} (h : CameAt f size w a n cap L) : L.length = n := h.1

/-- a part of what is read -/
theorem CameAt.part {α : Type} {f : α → List Value} {w : World} {size n cap : Nat} {a : Option Addr} {L : List α} (h : CameAt f size w a n cap L) (i m : Nat) (b off : Nat) (ha : a = some ⟨b, off, none⟩) (hi : i + m ≤ n) (hs : 0 < size) :
    CameAt f size w (some ⟨b, off + i * size, none⟩) m m ((L.drop i).take m) := by
  obtain ⟨h1, h2, h3, h4, h5⟩ := h
  refine ⟨by simp; omega, Nat.le_refl _, by omega, fun x hx => h4 x (List.mem_of_mem_drop (List.mem_of_mem_take hx)), .inr ⟨_, rfl, fun k j x hk hj => ?_⟩⟩
  rcases h5 with ⟨hn, _, _⟩ | ⟨p, hp, hc⟩
  · rw [hn] at ha; cases ha
  · rw [hp] at ha
    cases ha
    have hkm : k < m := by
      have := (List.getElem?_eq_some_iff.1 hk).1
      simp at this
      omega
    rw [List.getElem?_take_of_lt hkm, List.getElem?_drop] at hk
    have := hc (i + k) j x hk hj
    rw [Addr.add_mid] at this ⊢
    rw [← this]
    congr 2
    rw [Nat.add_mul]
    omega

/-! ### pairs -/
def pairC (p : Nat × Nat) : List Value := [.int .u64 (p.1 : Int), .int .u64 (p.2 : Int)]
theorem pairC_len (p : Nat × Nat) : (pairC p).length = 2 := rfl
theorem pairC_one (p : Nat × Nat) : ∀ u ∈ pairC p, u.oneCell' = true := by
  intro u hu
  simp only [pairC, List.mem_cons, List.not_mem_nil, or_false] at hu
  rcases hu with rfl | rfl <;> rfl
abbrev PairsAt := CameAt pairC 2
theorem infoPair : (Try.prog.info? 48).map (fun i => (i.zero, i.size, i.bytes)) = some (some (.agg #[.int .u64 0, .int .u64 0]), 2, 16) := by kernel_rfl
theorem sizePair : (Try.prog.info? 48).map (·.size) = some 2 := by kernel_rfl
theorem PairsAt.cells {w : World} {a : Option Addr} {n cap : Nat} {L : List (Nat × Nat)} (h : PairsAt w a n cap L) (hn : 0 < n) :
    ∃ b off, a = some ⟨b, off, none⟩ ∧ b < w.heap.size ∧ ∀ i, i < n → w.cell? ⟨b, off + i * 2, none⟩ = some (.int .u64 ((L.getD i (0, 0)).1 : Int)) ∧ w.cell? ⟨b, off + (i * 2 + 1), none⟩ = some (.int .u64 ((L.getD i (0, 0)).2 : Int)) ∧ w.rangeAt b (off + i * 2) (pairC (L.getD i (0, 0))) := by
  obtain ⟨b, off, h1, h2, h3⟩ := CameAt.at h hn (by omega)
  refine ⟨b, off, h1, h2, fun i hi => ?_⟩
  have hx : L[i]? = some (L.getD i (0, 0)) := by rw [List.getD, List.getElem?_eq_getElem (by have := h.1; omega)]; rfl
  refine ⟨h3 i 0 _ hx (by omega), h3 i 1 _ hx (by omega), fun j u hu => ?_⟩
  have hj : j < 2 := (List.getElem?_eq_some_iff.1 hu).1
  rw [Nat.add_assoc, h3 i j _ hx hj, hu]

/-! ### octets that are owned -/
def octC (b : UInt8) : List Value := [.int .u8 b.toNat]
theorem octs_vals (l : List UInt8) : l.flatMap octC = vals l := by
  induction l with
  | nil => rfl
  | cons b l ih => rw [List.flatMap_cons, ih]; rfl
abbrev OctO (w : World) (v : Value) (l : List UInt8) := Recs octC w 5 1 v l
theorem octO_of {w : World} {B n cap : Nat} {a : Option Addr} {l : List UInt8} (h : w.ownsRow B 5 1 (.slice a n cap) n (vals l)) : OctO w (.slice a n cap) l ∧ l.length = n := by
  have hl : l.length = n := by have := h.1; simpa [vals_length] using this
  refine ⟨⟨fun _ _ => rfl, fun x _ u hu => by simp only [octC, List.mem_singleton] at hu; subst hu; rfl, ?_⟩, hl⟩
  rw [octs_vals, hl]
  exact owned_base h (Nat.zero_le _)
theorem OctO.at {w : World} {n cap : Nat} {a : Option Addr} {l : List UInt8} (h : OctO w (.slice a n cap) l) : BytesAt w a n cap l := by
  obtain ⟨a', cap', hv, _, _⟩ := h.form
  simp only [Value.slice.injEq] at hv
  have h2 := h.2.2
  rw [octs_vals, ← hv.2.1] at h2
  exact BytesAt.owned h2

/-! ### slices of slices -/
abbrev Hd := Option Addr × Nat × Nat
def hdC (h : Hd) : List Value := [.slice h.1 h.2.1 h.2.2]
theorem hdC_one (h : Hd) : ∀ u ∈ hdC h, u.oneCell' = true := by
  intro u hu
  simp only [hdC, List.mem_singleton] at hu
  subst hu; rfl
/-- a slice of slices, each of which reads as E says -/
def Rows2 {β : Type} (E : World → Option Addr → Nat → Nat → β → Prop) (w : World) (a : Option Addr) (n cap : Nat) (P : List β) : Prop :=
  ∃ Hs : List Hd, CameAt hdC 1 w a n cap Hs ∧ Hs.length = P.length ∧ ∀ (i : Nat) (h : Hd) (b : β), Hs[i]? = some h → P[i]? = some b → E w h.1 h.2.1 h.2.2 b
abbrev RowsR := Rows2 BytesAt
abbrev GrpsR := Rows2 PairsAt
theorem Rows2.len {β : Type} {E : World → Option Addr → Nat → Nat → β → Prop} {w : World} {a : Option Addr} {n cap : Nat} {P : List β} (h : Rows2 E w a n cap P) : P.length = n := by
  obtain ⟨Hs, h1, h2, _⟩ := h
  rw [← h2]; exact h1.1
theorem Rows2.caps {β : Type} {E : World → Option Addr → Nat → Nat → β → Prop} {w : World} {a : Option Addr} {n cap : Nat} {P : List β} (h : Rows2 E w a n cap P) : n ≤ cap ∧ cap ≤ maxLen := by
  obtain ⟨Hs, h1, _, _⟩ := h
  exact ⟨h1.2.1, h1.2.2.1⟩
theorem Rows2.below {β : Type} {E : World → Option Addr → Nat → Nat → β → Prop} (hE : ∀ w w' a n c b, E w a n c b → Below w.heap.size w w' → E w' a n c b) {w w' : World} {a : Option Addr} {n cap : Nat} {P : List β} (h : Rows2 E w a n cap P) (hb : Below w.heap.size w w') : Rows2 E w' a n cap P := by
  obtain ⟨Hs, h1, h2, h3⟩ := h
  exact ⟨Hs, h1.below (by omega) hb, h2, fun i x b hi hb' => hE _ _ _ _ _ _ (h3 i x b hi hb') hb⟩
theorem RowsR.below {w w' : World} {a : Option Addr} {n cap : Nat} {P : List (List UInt8)} (h : RowsR w a n cap P) (hb : Below w.heap.size w w') : RowsR w' a n cap P := Rows2.below (E := BytesAt) (fun w w' a n c b h hb => BytesAt.below h hb) h hb
theorem GrpsR.below {w w' : World} {a : Option Addr} {n cap : Nat} {P : List (List (Nat × Nat))} (h : GrpsR w a n cap P) (hb : Below w.heap.size w w') : GrpsR w' a n cap P := Rows2.below (E := PairsAt) (fun w w' a n c b h hb => CameAt.below h (Nat.zero_lt_succ 1) hb) h hb
theorem Rows2.at {β : Type} {E : World → Option Addr → Nat → Nat → β → Prop} {w : World} {a : Option Addr} {n cap : Nat} {P : List β} (h : Rows2 E w a n cap P) (d : β) (hn : 0 < n) :
    ∃ b off, a = some ⟨b, off, none⟩ ∧ b < w.heap.size ∧ ∀ i, i < n → ∃ h : Hd, w.cell? ⟨b, off + i, none⟩ = some (.slice h.1 h.2.1 h.2.2) ∧ E w h.1 h.2.1 h.2.2 (P.getD i d) := by
  obtain ⟨Hs, h1, h2, h3⟩ := h
  obtain ⟨b, off, e1, e2, e3⟩ := CameAt.at h1 hn (by omega)
  refine ⟨b, off, e1, e2, fun i hi => ?_⟩
  have hl := h1.1
  have hx : Hs[i]? = some Hs[i] := List.getElem?_eq_getElem (by omega)
  refine ⟨Hs[i], ?_, h3 i _ _ hx (by rw [List.getD, List.getElem?_eq_getElem (by omega)]; rfl)⟩
  have := e3 i 0 _ hx (by omega)
  simpa [hdC] using this

/-- a slice of rows of octets, all of it owned -/
def RowsO (w : World) (v : Value) (P : List (List UInt8)) : Prop :=
  ∃ Hs : List Hd, Recs hdC w 34 1 v Hs ∧ Hs.length = P.length ∧ ∀ (i : Nat) (h : Hd) (l : List UInt8), Hs[i]? = some h → P[i]? = some l → OctO w (.slice h.1 h.2.1 h.2.2) l
theorem RowsO.nil (w : World) : RowsO w (.slice none 0 0) [] := ⟨[], Recs.nil _ _ _ _, rfl, fun i h l hi _ => by simp at hi⟩
theorem RowsO.read {w : World} {a : Option Addr} {n cap : Nat} {P : List (List UInt8)} (h : RowsO w (.slice a n cap) P) : RowsR w a n cap P := by
  obtain ⟨Hs, h1, h2, h3⟩ := h
  exact ⟨Hs, h1.came, h2, fun i x l hi hl => (h3 i x l hi hl).at⟩
theorem RowsO.lt {w : World} {v : Value} {P : List (List UInt8)} (h : RowsO w v P) : ∀ k, v.ownBlock = some k → k < w.heap.size := by
  obtain ⟨Hs, h1, _, _⟩ := h
  exact h1.lt
theorem RowsO.form {w : World} {v : Value} {P : List (List UInt8)} (h : RowsO w v P) : ∃ a cap, v = .slice a P.length cap ∧ P.length ≤ cap ∧ cap ≤ maxLen := by
  obtain ⟨Hs, h1, h2, _⟩ := h
  rw [← h2]
  exact h1.form
theorem RowsO.below {w w' : World} {v : Value} {P : List (List UInt8)} (h : RowsO w v P) (hb : Below w.heap.size w w') : RowsO w' v P := by
  obtain ⟨Hs, h1, h2, h3⟩ := h
  exact ⟨Hs, h1.below hb, h2, fun i x l hi hl => (h3 i x l hi hl).below hb⟩
theorem infoRow : (Try.prog.info? 34).map (fun i => (i.zero, i.size, i.bytes)) = some (some (.slice none 0 0), 1, 24) := by kernel_rfl
theorem ne_row_octet : (5 : TypeId) ≠ 34 := by decide
theorem Recs.typed {α : Type} {f : α → List Value} {w : World} {e t : TypeId} {size : Nat} {v : Value} {L : List α} (h : Recs f w e size v L) (hne : e ≠ t) {β : Type} {f2 : β → List Value} {s2 : Nat} {v2 : Value} {M : List β} (h2 : Recs f2 w t s2 v2 M) : ∀ k, v.ownBlock = some k → ¬ v2.ownBlock = some k := by
  intro k hk hk2
  obtain ⟨cur, hc⟩ := h2.blk k hk2
  exact h.ne_of hc hne k hk rfl
/-- a row is laid behind -/
theorem RowsO.more {w w' : World} {v v' : Value} {P : List (List UInt8)} {a : Option Addr} {n cap : Nat} {l : List UInt8} {Hs : List Hd} (h1 : Recs hdC w 34 1 v Hs) (h2 : Hs.length = P.length) (h3 : ∀ (i : Nat) (h : Hd) (l : List UInt8), Hs[i]? = some h → P[i]? = some l → OctO w (.slice h.1 h.2.1 h.2.2) l)
    (hl : OctO w (.slice a n cap) l) (hr : Recs hdC w' 34 1 v' (Hs ++ [(a, n, cap)])) (hg : w.grownBy w' v.ownBlock) : RowsO w' v' (P ++ [l]) := by
  have ho : Only (fun k => v.ownBlock = some k) w w' := Only.of_grown hg fun k e => e
  refine ⟨_, hr, by simp [h2], fun i x m hi hm => ?_⟩
  by_cases hlt : i < Hs.length
  · rw [List.getElem?_append_left hlt] at hi
    rw [List.getElem?_append_left (by omega)] at hm
    have := h3 i x m hi hm
    exact this.only ho (this.typed ne_row_octet h1)
  · have hlen := (List.getElem?_eq_some_iff.1 hi).1
    rw [List.length_append, List.length_singleton] at hlen
    have hii : i = Hs.length := by omega
    subst hii
    rw [List.getElem?_append_right (by omega), Nat.sub_self] at hi
    rw [h2, List.getElem?_append_right (by omega), Nat.sub_self] at hm
    simp at hi hm
    subst hi hm
    exact hl.only ho (hl.typed ne_row_octet h1)

theorem built_pair (X : Array Value) (hX : X.size = 2) : ∀ w : World, (Instr.buildSlice 22 1 #[(0, .agg X)]).run Try.prog w = .ok (.slice (some ⟨w.heap.size, 0, none⟩) 1 1) (w.alloc (.cells X 48)) := fun w => by
  obtain ⟨i0, hi, hz0, hz1, hz2⟩ := info_parts infoPair
  exact run_buildSlice_one w _ _ _ i0 _ 2 Try.underlying22 hi hz0 hz1 (by simp [hX]) (by omega) (by omega)

end Go.Proofs.Ytflboggjbjfkjaa
