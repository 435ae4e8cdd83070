/-
  Contracts of package crc: Open.
-/
import Derived.Test.YtjahiddgighjeaaCrcB
import Derived.Stop.BytesEq
import Derived.Deep.RegionHeld3
namespace Go.Proofs.Ytjahiddgighjeaa
open Go.RowKit
set_option linter.unusedVariables false
set_option linter.unusedSimpArgs false

theorem owned_base {w : World} {B B' : Nat} {t : TypeId} {sz n : Nat} {v : Value} {xs : List Value} (h : w.ownsRow B t sz v n xs) (hB : B' ≤ B) : w.ownsRow B' t sz v n xs := by
  refine ⟨h.1, ?_⟩
  rcases h.2 with hn | ⟨g, cap, cur, rfl, hbg, rest⟩
  · exact .inl hn
  · exact .inr ⟨g, cap, cur, rfl, Nat.le_trans hB hbg, rest⟩

theorem open_short (a : Option Addr) (n cap : Nat) (l : List UInt8) (w : World) (hl : BytesAt w a n cap l) (hn : n < 4) :
    Calls Try.prog 16 #[.slice a n cap] w fun e w' => e = .returned (.tuple #[.slice none 0 0, .int .i64 2]) ∧ w = w' := by
  have hlt : (n : Int) - 4 < 0 := by omega
  go_enter Try.func16, Try.ntmps16
  go_wp2
  go_ret2
  exact ⟨rfl, rfl⟩

theorem four {l : List UInt8} (h : l.length = 4) : ∃ x0 x1 x2 x3, l = [x0, x1, x2, x3] := by
  match l, h with
  | [x0, x1, x2, x3], _ => exact ⟨_, _, _, _, rfl⟩

theorem sizeU8 : ∀ w, (sizeOf 5).run Try.prog w = .ok 1 w := by
  intro w
  obtain ⟨i0, hi, hz0, hz1, hz2⟩ := info_parts infoU8
  simp [sizeOf, typeInfo, hi, hz1]

theorem marks_eq (xs l : List UInt8) (h : xs.length = 4) (w : World) :
    (Op.equalIn 10000 43 (.agg (vals xs).toArray) (.agg (markV (sumL l)))).run Try.prog w = .ok (xs == leB 4 (sumL l)) w := by
  have e : markV (sumL l) = (vals (leB 4 (sumL l))).toArray := by rw [← mark_vals, Array.toArray_toList]
  rw [e]
  exact run_equalIn_bytes w 9998 43 5 4 Try.underlying43 Try.underlying5 sizeU8 xs _ h (leB_length _ _)

theorem run_arrayAt (x : Addr) (c : Nat) (w : World) : (Instr.arrayAt 43 (.slice (some x) 4 c)).run Try.prog w = .ok (.pointer (some x)) w := by
  simp [Instr.arrayAt, run_underlying Try.underlying43]

set_option maxHeartbeats 1000000 in
set_option maxRecDepth 100000 in
theorem open_bad (a : Option Addr) (m cap : Nat) (l t : List UInt8) (w : World) (hl : BytesAt w a (m + 4) cap (l ++ t)) (hm : l.length = m) (hne : t ≠ leB 4 (sumL l)) :
    Calls Try.prog 16 #[.slice a ((m + 4 : Nat) : Nat) cap] w fun e w' => e = .returned (.tuple #[.slice none 0 0, .int .i64 9]) ∧ Below w.heap.size w w' := by
  have HL := Lib.hid hl
  have hcap := hl.2.1
  have hmax := hl.2.2.1
  unfold maxLen at hmax
  obtain ⟨b, off, rfl, hc⟩ := hl.at (by omega)
  have ht : t.length = 4 := by have := hl.1; simp at this; omega
  obtain ⟨x0, x1, x2, x3, rfl⟩ := four ht
  have hget : ∀ i, i < 4 → (l ++ [x0, x1, x2, x3]).getD (m + i) 0 = [x0, x1, x2, x3].getD i 0 := fun i hi => by
    simp only [List.getD]; rw [List.getElem?_append_right (by omega), hm, Nat.add_sub_cancel_left]
  have c0 : w.cell? ⟨b, off + m, none⟩ = some (.int .u8 x0.toNat) := by have := hc m (by omega); rw [show m = m + 0 by rfl, hget 0 (by omega)] at this; exact this
  have c1 : w.cell? ⟨b, off + m + 1, none⟩ = some (.int .u8 x1.toNat) := by have := hc (m + 1) (by omega); rw [hget 1 (by omega)] at this; exact this
  have c2 : w.cell? ⟨b, off + m + 2, none⟩ = some (.int .u8 x2.toNat) := by have := hc (m + 2) (by omega); rw [hget 2 (by omega)] at this; exact this
  have c3 : w.cell? ⟨b, off + m + 3, none⟩ = some (.int .u8 x3.toNat) := by have := hc (m + 3) (by omega); rw [hget 3 (by omega)] at this; exact this
  have hblt := World.block_lt_of_cell? w _ c0
  simp only at hblt
  have hhead := hl.head (m := m) (by omega)
  rw [← hm, List.take_left, hm] at hhead
  have HM := Lib.hid (fun (u : World) (h : BytesAt u (some ⟨b, off, none⟩) m cap l) => mark_any _ m cap l u h)
  have HH := Lib.hid hhead
  have heq : ∀ u, (Op.equalIn 10000 43 (.agg #[.int .u8 x0.toNat, .int .u8 x1.toNat, .int .u8 x2.toNat, .int .u8 x3.toNat]) (.agg (markV (sumL l)))).run Try.prog u = .ok false u := fun u => by
    have := marks_eq [x0, x1, x2, x3] l rfl u
    rw [show ([x0, x1, x2, x3] == leB 4 (sumL l)) = false by simpa using hne] at this
    exact this
  have h1 : ¬ ((m : Int) + 4 - 4 < 0) := by omega
  have h2 : (m : Int) + 4 - 4 = m := by omega
  have h3 : ¬ cap = m := by omega
  have h4 : (m : Int) ≤ (m : Int) + 4 := by omega
  have h5 : (m : Int) ≤ (cap : Int) := by omega
  have harr := run_arrayAt ⟨b, off + m, none⟩ (cap - m)
  clear hl hc hget hne hhead ht
  go_enter Try.func16, Try.ntmps16
  go_wp2
  go_region_law (first
    | (go_simp; go_at_call 18; refine (HM.out w.drew HH.out).mono ?_; rintro e w1 ⟨rfl, hb1⟩; have d0 := (hb1.cell (p := ⟨b, off + m, none⟩) hblt).trans c0; have d1 := (hb1.cell (p := ⟨b, off + m + 1, none⟩) hblt).trans c1; have d2 := (hb1.cell (p := ⟨b, off + m + 2, none⟩) hblt).trans c2; have d3 := (hb1.cell (p := ⟨b, off + m + 3, none⟩) hblt).trans c3))
  all_goals
    go_wp2
    go_ret2
    exact ⟨rfl, (below_drewN (Below.refl _ _) 1).trans hb1⟩

/-- octets that came in, made again behind a row of nothing -/
theorem nil_row (w : World) : w.ownsRow w.heap.size 5 1 (.slice none 0 0) 0 [] := World.ownsRow_nil _ _ _ _

set_option maxHeartbeats 1000000 in
set_option maxRecDepth 100000 in
theorem open_good (a : Option Addr) (m cap : Nat) (l : List UInt8) (w : World) (hl : BytesAt w a (m + 4) cap (sealL l)) (hm : l.length = m) (hn : m ≤ 140737488355320) :
    Calls Try.prog 16 #[.slice a ((m + 4 : Nat) : Nat) cap] w (FreshB (fun v => .tuple #[v, .int .i64 0]) m l w) := by
  have HL := Lib.hid hl
  have hcap := hl.2.1
  have hmax := hl.2.2.1
  unfold maxLen at hmax
  obtain ⟨b, off, rfl, hc⟩ := hl.at (by omega)
  obtain ⟨x0, x1, x2, x3, hx⟩ := four (leB_length 4 (sumL l))
  unfold sealL at hc
  rw [hx] at hc
  have hget : ∀ i, i < 4 → (l ++ [x0, x1, x2, x3]).getD (m + i) 0 = [x0, x1, x2, x3].getD i 0 := fun i hi => by
    simp only [List.getD]; rw [List.getElem?_append_right (by omega), hm, Nat.add_sub_cancel_left]
  have c0 : w.cell? ⟨b, off + m, none⟩ = some (.int .u8 x0.toNat) := by have := hc m (by omega); rw [show m = m + 0 by rfl, hget 0 (by omega)] at this; exact this
  have c1 : w.cell? ⟨b, off + m + 1, none⟩ = some (.int .u8 x1.toNat) := by have := hc (m + 1) (by omega); rw [hget 1 (by omega)] at this; exact this
  have c2 : w.cell? ⟨b, off + m + 2, none⟩ = some (.int .u8 x2.toNat) := by have := hc (m + 2) (by omega); rw [hget 2 (by omega)] at this; exact this
  have c3 : w.cell? ⟨b, off + m + 3, none⟩ = some (.int .u8 x3.toNat) := by have := hc (m + 3) (by omega); rw [hget 3 (by omega)] at this; exact this
  have hblt := World.block_lt_of_cell? w _ c0
  simp only at hblt
  have hhead := hl.head (m := m) (by omega)
  unfold sealL at hhead
  rw [← hm, List.take_left, hm] at hhead
  have HM := Lib.hid (fun (u : World) (h : BytesAt u (some ⟨b, off, none⟩) m cap l) => mark_any _ m cap l u h)
  have HH := Lib.hid hhead
  have heq : ∀ u, (Op.equalIn 10000 43 (.agg #[.int .u8 x0.toNat, .int .u8 x1.toNat, .int .u8 x2.toNat, .int .u8 x3.toNat]) (.agg (markV (sumL l)))).run Try.prog u = .ok true u := fun u => by
    have := marks_eq [x0, x1, x2, x3] l rfl u
    rw [show ([x0, x1, x2, x3] == leB 4 (sumL l)) = true by simpa using hx.symm] at this
    exact this
  have h1 : ¬ ((m : Int) + 4 - 4 < 0) := by omega
  have h2 : (m : Int) + 4 - 4 = m := by omega
  have h3 : ¬ cap = m := by omega
  have h4 : (m : Int) ≤ (m : Int) + 4 := by omega
  have h5 : (m : Int) ≤ (cap : Int) := by omega
  have harr := run_arrayAt ⟨b, off + m, none⟩ (cap - m)
  clear hl hc hget hhead hx
  go_enter Try.func16, Try.ntmps16
  go_wp2
  go_region_law (first
    | (go_simp; go_at_call 18; refine (HM.out w.drew HH.out).mono ?_; rintro e w1 ⟨rfl, hb1⟩; have d0 := (hb1.cell (p := ⟨b, off + m, none⟩) hblt).trans c0; have d1 := (hb1.cell (p := ⟨b, off + m + 1, none⟩) hblt).trans c1; have d2 := (hb1.cell (p := ⟨b, off + m + 2, none⟩) hblt).trans c2; have d3 := (hb1.cell (p := ⟨b, off + m + 3, none⟩) hblt).trans c3))
  all_goals
    have hb2 := (below_drewN (Below.refl w.heap.size w) 1).trans hb1
    have HB := Lib.hid hb2
    clear hb1 hb2 d0 d1 d2 d3
    go_wp2_with (at_builtin; refine wpList_append_bytes rfl _ _ rfl w1.heap.size (.slice none 0 0) 0 [] rfl (nil_row w1) (some ⟨b, off, none⟩) m cap l rfl (HH.out.below HB.out) m (by omega) (by omega) (Nat.le_refl _) ?_; intro a2 cap2 w2 ho2 hg2)
    go_ret2
    rw [List.nil_append] at ho2
    exact ⟨a2, cap2, rfl, owned_base ho2 HB.out.size, HB.out.grown hg2 HB.out.size (fun k hk => by cases hk)⟩

end Go.Proofs.Ytjahiddgighjeaa
