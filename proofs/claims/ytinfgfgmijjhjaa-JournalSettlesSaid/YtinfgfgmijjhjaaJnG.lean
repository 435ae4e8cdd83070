/-
  The journal's sectors, and the puts that they name.
-/
import Derived.Test.YtinfgfgmijjhjaaJnE
import Derived.Test.YtinfgfgmijjhjaaOctRd
import Derived.Test.YtinfgfgmijjhjaaHead
import Derived.IntWalk
namespace Go.Proofs.Ytinfgfgmijjhjaa
open Go.RowKit
set_option linter.unusedVariables false
set_option linter.unusedSimpArgs false

def slC (x : Option Addr × Nat × Nat) : List Value := [.slice x.1 x.2.1 x.2.2]
theorem slC_one (x : Option Addr × Nat × Nat) : ∀ u ∈ slC x, u.oneCell' = true := by
  intro u hu
  simp only [slC, List.mem_cons, List.not_mem_nil, or_false] at hu
  subst hu; rfl
theorem infoSl : (Try.prog.info? 24).map (fun i => (i.zero, i.size, i.bytes)) = some (some (.slice none 0 0), 1, 24) := by kernel_rfl

/-- sectors in rows of memory that is new since w -/
structure RowsIn (w wr : World) (b : Nat) (R : List (Option Addr × Nat × Nat)) (L : List (List UInt8)) (n : Nat) : Prop where
  len : L.length = R.length
  recs : Recs slC wr 24 1 (.slice (some ⟨b, 0, none⟩) n n) (R ++ List.replicate (n - R.length) (none, 0, 0))
  bytes : ∀ k, k < R.length → BytesAt wr (R.getD k (none, 0, 0)).1 (R.getD k (none, 0, 0)).2.1 (R.getD k (none, 0, 0)).2.2 (L.getD k [])
  new : ∀ k, k < R.length → ∀ p, (R.getD k (none, 0, 0)).1 = some p → w.heap.size ≤ p.block ∧ p.block < wr.heap.size ∧ p.block ≠ b
  newB : w.heap.size ≤ b ∧ b < wr.heap.size
  below : Below w.heap.size w wr

theorem RowsIn.next {w wr w1 : World} {b n : Nat} {R : List (Option Addr × Nat × Nat)} {L : List (List UInt8)} (h : RowsIn w wr b R L n) (hlt : R.length < n) {a : Option Addr} {m c : Nat} {l : List UInt8} (hb : Below wr.heap.size wr w1) (hl : BytesAt w1 a m c l) (ha : ∀ p, a = some p → wr.heap.size ≤ p.block ∧ p.block < w1.heap.size) :
    RowsIn w (w1.setCell ⟨b, R.length, none⟩ (.slice a m c)) b (R ++ [(a, m, c)]) (L ++ [l]) n := by
  have h1 := h.recs.below hb
  have h2 := h1.stored R.length 0 (by simp; omega) (by omega) (a, m, c) (.slice a m c) rfl rfl
  have hsz : (w1.setCell ⟨b, R.length, none⟩ (.slice a m c)).heap.size = w1.heap.size := by simp [World.setCell]
  have hg := setCell_grown w1 b R.length (.slice a m c)
  have hbl := h.newB
  have hbs := hb.size
  refine ⟨by simp [h.len], ?_, fun k hk => ?_, fun k hk p hp => ?_, ⟨hbl.1, by rw [hsz]; omega⟩, ?_⟩
  · rw [Nat.mul_one, Nat.add_zero] at h2
    have e : (R ++ List.replicate (n - R.length) (none, 0, 0)).set R.length (a, m, c) = (R ++ [(a, m, c)]) ++ List.replicate (n - (R ++ [(a, m, c)]).length) (none, 0, 0) := by
      rw [List.set_append, if_neg (by omega), Nat.sub_self, show n - R.length = (n - (R ++ [(a, m, c)]).length) + 1 by simp; omega, List.replicate_succ, List.set_cons_zero]
      simp
    rw [e] at h2
    exact h2
  · rw [List.length_append, List.length_singleton] at hk
    by_cases hkl : k < R.length
    · have e1 : (R ++ [(a, m, c)]).getD k (none, 0, 0) = R.getD k (none, 0, 0) := by rw [List.getD, List.getElem?_append_left hkl]; rfl
      have e2 : (L ++ [l]).getD k [] = L.getD k [] := by rw [List.getD, List.getElem?_append_left (by rw [h.len]; exact hkl)]; rfl
      rw [e1, e2]
      exact ((h.bytes k hkl).below hb).grown hg (fun x hx => by have := (h.new k hkl x hx).2.2; simpa using this)
    · obtain rfl : k = R.length := by omega
      have e1 : (R ++ [(a, m, c)]).getD R.length (none, 0, 0) = (a, m, c) := by simp [List.getD]
      have e2 : (L ++ [l]).getD R.length [] = l := by rw [← h.len]; simp [List.getD]
      rw [e1, e2]
      exact hl.grown hg (fun x hx => by have := (ha x hx).1; simp; omega)
  · rw [List.length_append, List.length_singleton] at hk
    rw [hsz]
    by_cases hkl : k < R.length
    · have e1 : (R ++ [(a, m, c)]).getD k (none, 0, 0) = R.getD k (none, 0, 0) := by rw [List.getD, List.getElem?_append_left hkl]; rfl
      rw [e1] at hp
      have := h.new k hkl p hp
      exact ⟨this.1, by omega, this.2.2⟩
    · obtain rfl : k = R.length := by omega
      have e1 : (R ++ [(a, m, c)]).getD R.length (none, 0, 0) = (a, m, c) := by simp [List.getD]
      rw [e1] at hp
      have := ha p hp
      have := h.below.size
      exact ⟨by omega, by omega, by omega⟩
  · exact (h.below.trans (hb.mono h.below.size)).setCell hbl.1 _

def RowsTo (D : Dk) (w : World) (e : Ending) (w' : World) : Prop :=
  ∃ b R, e = .returned (.tuple #[.slice (some ⟨b, 0, none⟩) 41 41, .int .i64 0]) ∧ R.length = 41 ∧ RowsIn w w' b R (rowsL D) 41

theorem rowsL_take (D : Dk) (k : Nat) (hk : k < 41) : (rowsL D).take (k + 1) = (rowsL D).take k ++ [D.content k] := by
  rw [List.take_succ_eq_append_getElem (by simp [rowsL]; exact hk)]
  simp [rowsL]

set_option maxHeartbeats 1000000 in
set_option maxRecDepth 100000 in
theorem rows_yes (g : Nat) (D : Dk) (S : Nat → Prop) (w : World) (h : DiskAt w S g D) (hs : 41 < D.secs.length) (hp : D.power = true) :
    Calls Try.prog 50 #[.pointer (some ⟨g, 0, none⟩)] w (RowsTo D w) := by
  obtain ⟨i0, hi, hz0, hz1, hz2⟩ := info_parts infoSl
  have hmk : ∀ u, (Instr.makeSlice 91 (.int .i64 41) (.int .i64 41)).run Try.prog u = .ok (.slice (some ⟨u.heap.size, 0, none⟩) 41 41) (u.alloc (.cells (madeCells #[.slice none 0 0] 41) 24)) := fun u => by
    have := run_make u 91 24 i0 _ Try.underlying91 hi hz0 .i64 .i64 41 41 (by omega) (by omega) (by rw [hz2]; omega) (by omega)
    rw [hz1] at this
    simpa [Value.cells] using this
  have hr0 : RowsIn w (w.alloc (.cells (madeCells #[.slice none 0 0] 41) 24)) w.heap.size [] [] 41 := by
    refine ⟨rfl, ?_, fun k hk => by simp at hk, fun k hk => by simp at hk, ⟨Nat.le_refl _, by simp⟩, (Below.refl _ _).alloc (Nat.le_refl _) _⟩
    have := World.ownsRow_lit (base := 0) (e := 24) (size := 1) w (madeCells #[.slice none 0 0] 41) 41 (Nat.zero_le _) (by unfold maxLen; omega) (by rw [size_madeCells])
    exact recs_made (none, 0, 0) #[.slice none 0 0] rfl (slC_one _) (by simp) this
  have HR0 := Lib.hid hr0
  have HD := Lib.hid h
  clear hi hz0 hz1 hz2 hr0 h
  generalize madeCells #[.slice none 0 0] 41 = C at *
  go_enter Try.func50, Try.ntmps50
  go_wp2
  go_loopw [11] (fun i wr => ∃ (k : Nat) (R : List (Option Addr × Nat × Nat)), k ≤ 41 ∧ i = .int .i64 k ∧ R.length = k ∧ RowsIn w wr w.heap.size R ((rowsL D).take k) 41) (fun i _ => 41 - (intOf i).toNat)
  case atStart => exact ⟨0, [], by omega, rfl, rfl, HR0.out⟩
  case round =>
    obtain ⟨k, R, hk, rfl, hRl, hr⟩ := hrel
    have HR := Lib.hid hr
    have HRL := Lib.hid hRl
    clear hr hRl
    by_cases hlt : k < 41
    · have CR := Lib.hid (read_yes g k D S wr (HD.out.below HR.out.below) (by omega) hp)
      have HTK := Lib.hid (rowsL_take D k hlt)
      have hki : (k : Int) < 41 := by omega
      go_wp2_with fail
      refine (CR.out).mono ?_
      rintro e w1 ⟨a, cap, rfl, hl, hb, ha⟩
      have hbl := HR.out.newB
      have hcell : w1.cell? ⟨w.heap.size, k, none⟩ = some (.slice none 0 0) := by
        have := (HR.out.recs.below hb).cellAt k 0 (none, 0, 0) (by rw [List.getElem?_append_right (by rw [HRL.out]; omega), HRL.out, Nat.sub_self, List.getElem?_replicate, if_pos (by omega)]) (by omega)
        simpa [slC] using this
      have hfz := (HR.out.recs.below hb).frozenAt k
      have HN := Lib.hid (HR.out.next (by rw [HRL.out]; exact hlt) hb hl ha)
      rw [HRL.out, ← HTK.out] at HN
      clear hl hb ha hbl CR
      go_wp2
      go_roundw
      case rel => exact ⟨k + 1, R ++ [(a, 128, cap)], by omega, by go_num, by simp [HRL.out], HN.out⟩
      case measure => simp [intOf]; omega
    · obtain rfl : k = 41 := by omega
      have hrr := HR.out
      rw [List.take_of_length_le (by simp [rowsL])] at hrr
      have HR2 := Lib.hid hrr
      clear hrr
      go_wp2
      go_ret2
      exact ⟨w.heap.size, R, rfl, HRL.out, HR2.out⟩

set_option maxHeartbeats 1000000 in
set_option maxRecDepth 100000 in
theorem rows_off (g : Nat) (D : Dk) (S : Nat → Prop) (w : World) (h : DiskAt w S g D) (hs : 41 < D.secs.length) (hp : D.power = false) :
    Calls Try.prog 50 #[.pointer (some ⟨g, 0, none⟩)] w fun e w' => e = .returned (.tuple #[.slice none 0 0, .int .i64 10]) ∧ Below w.heap.size w w' := by
  obtain ⟨i0, hi, hz0, hz1, hz2⟩ := info_parts infoSl
  have hmk : ∀ u, (Instr.makeSlice 91 (.int .i64 41) (.int .i64 41)).run Try.prog u = .ok (.slice (some ⟨u.heap.size, 0, none⟩) 41 41) (u.alloc (.cells (madeCells #[.slice none 0 0] 41) 24)) := fun u => by
    have := run_make u 91 24 i0 _ Try.underlying91 hi hz0 .i64 .i64 41 41 (by omega) (by omega) (by rw [hz2]; omega) (by omega)
    rw [hz1] at this
    simpa [Value.cells] using this
  have HD := Lib.hid h
  clear hi hz0 hz1 hz2 h
  generalize madeCells #[.slice none 0 0] 41 = C at *
  have CR := Lib.hid (fun u (hb : Below w.heap.size w u) => read_off g 0 D S u (HD.out.below hb) (by omega) hp)
  go_enter Try.func50, Try.ntmps50
  go_wp2
  go_loopw [11] (fun i wr => i = .int .i64 ((0 : Nat) : Int) ∧ Below w.heap.size w wr) (fun _ _ => 0)
  case atStart => exact ⟨rfl, (Below.refl _ _).alloc (Nat.le_refl _) _⟩
  case round =>
    obtain ⟨rfl, hb⟩ := hrel
    have HB := Lib.hid hb
    clear hb
    go_wp2_with fail
    refine (CR.out _ HB.out).mono ?_
    rintro e w1 ⟨rfl, rfl⟩
    go_wp2
    go_ret2
    exact ⟨rfl, HB.out⟩

open Go.RowKit
def namedM (R : List (Option Addr × Nat × Nat)) (L : List (List UInt8)) (c : Nat) : List PutM :=
  (List.range c).map fun k => ⟨(le (((L.getD 0 []).drop (10 + 2 * k)).take 2) : Nat), (R.getD (1 + k) (none, 0, 0)).1, (R.getD (1 + k) (none, 0, 0)).2.1, (R.getD (1 + k) (none, 0, 0)).2.2, L.getD (1 + k) []⟩
theorem namedM_length (R : List (Option Addr × Nat × Nat)) (L : List (List UInt8)) (c : Nat) : (namedM R L c).length = c := by simp [namedM]
theorem namedM_at (R : List (Option Addr × Nat × Nat)) (L : List (List UInt8)) (c k : Nat) (hk : k < c) : (namedM R L c)[k]? = some ⟨(le (((L.getD 0 []).drop (10 + 2 * k)).take 2) : Nat), (R.getD (1 + k) (none, 0, 0)).1, (R.getD (1 + k) (none, 0, 0)).2.1, (R.getD (1 + k) (none, 0, 0)).2.2, L.getD (1 + k) []⟩ := by
  simp [namedM, hk]
theorem namedM_pt (R : List (Option Addr × Nat × Nat)) (L : List (List UInt8)) (h : ¬ 40 < le (((L.getD 0 []).drop 4).take 2)) : (namedM R L (le (((L.getD 0 []).drop 4).take 2))).map PutM.pt = namedL L := by
  unfold namedL namedM
  rw [if_neg h, List.map_map]
  rfl

theorem RowsIn.cell {w wr : World} {b n : Nat} {R : List (Option Addr × Nat × Nat)} {L : List (List UInt8)} (h : RowsIn w wr b R L n) (hn : R.length = n) (k : Nat) (hk : k < n) :
    wr.cell? ⟨b, k, none⟩ = some (.slice (R.getD k (none, 0, 0)).1 (R.getD k (none, 0, 0)).2.1 (R.getD k (none, 0, 0)).2.2) := by
  have hx : (R ++ List.replicate (n - R.length) (none, 0, 0))[k]? = some (R.getD k (none, 0, 0)) := by
    rw [List.getElem?_append_left (by omega), List.getD, List.getElem?_eq_getElem (by omega)]; rfl
  have := h.recs.cellAt k 0 _ hx (by omega)
  simpa [slC] using this
theorem RowsIn.carry {w wr w1 : World} {b n : Nat} {R : List (Option Addr × Nat × Nat)} {L : List (List UInt8)} (h : RowsIn w wr b R L n) (hb : Below wr.heap.size wr w1) : RowsIn w w1 b R L n :=
  ⟨h.len, h.recs.below hb, fun k hk => (h.bytes k hk).below hb, fun k hk p hp => by
    have := h.new k hk p hp
    have := hb.size
    exact ⟨by omega, by omega, by omega⟩, ⟨h.newB.1, Nat.lt_of_lt_of_le h.newB.2 hb.size⟩, h.below.trans (hb.mono h.below.size)⟩

theorem rraw_ok (l : List UInt8) (at_ m : Nat) (h : at_ + m ≤ l.length) : rRaw l at_ 0 m = ((l.drop at_).take m, at_ + m, 0) := by
  simp only [rRaw]; rw [if_neg (by simp), if_neg (by omega), if_neg (by omega), Int.toNat_natCast]
theorem rnum_fine (l : List UInt8) (at_ m : Nat) (h1 : 1 ≤ m) (h2 : m ≤ 8) (h : at_ + m ≤ l.length) : rNum l at_ 0 m = (le ((l.drop at_).take m), at_ + m, 0) := by
  simp only [rNum]; rw [if_neg (by simp), if_neg (by omega), if_neg (by omega), Int.toNat_natCast]

set_option maxHeartbeats 2000000 in
set_option maxRecDepth 100000 in
theorem named_any (b : Nat) (R : List (Option Addr × Nat × Nat)) (L : List (List UInt8)) (w0 w : World) (h : RowsIn w0 w b R L 41) (hR : R.length = 41) (hL : (L.getD 0 []).length = 128) :
    Calls Try.prog 76 #[.slice (some ⟨b, 0, none⟩) 41 41] w (CopiesTo (fun k => w0.heap.size ≤ k) (namedL L) w) := by
  have c0 := h.cell hR 0 (by omega)
  have HY := Lib.hid (h.bytes 0 (by omega))
  have hm : (R.getD 0 (none, 0, 0)).2.1 = 128 := by rw [← HY.out.1]; exact hL
  have CRD := Lib.hid (read_any _ _ _ _ w HY.out (by rw [hm]; omega))
  rw [hm] at c0 CRD
  have q1 := rraw_ok (L.getD 0 []) 0 4 (by omega)
  have q2 := rnum_fine (L.getD 0 []) 4 2 (by omega) (by omega) (by omega)
  have q3 := rraw_ok (L.getD 0 []) 6 4 (by omega)
  have hc2 := le2_lt (L.getD 0 []) 4
  have hpt := namedM_pt R L
  have HH := Lib.hid h
  have HRL := Lib.hid hR
  have HL0 := Lib.hid hL
  have Q1 := Lib.hid q1
  have Q2 := Lib.hid q2
  have Q3 := Lib.hid q3
  have HPT := Lib.hid hpt
  have hnil : 40 < le (((L.getD 0 []).drop 4).take 2) → namedL L = [] := fun h => by unfold namedL; rw [if_pos h]
  have HNIL := Lib.hid hnil
  clear h hR hL hm HY q1 q2 q3 hpt hnil
  generalize le (((L.getD 0 []).drop 4).take 2) = c at *
  go_enter Try.func76, Try.ntmps76
  go_wp2_with fail
  refine (CRD.out).mono ?_
  rintro e w1 ⟨g, sl, rfl, hg, hrd, hsl, hb1⟩
  have C1 := Lib.hid (rdraw_any w1 g sl 128 (L.getD 0 []) 0 0 4 hrd (by omega) (by omega))
  have Q1' := Q1.out
  simp only [Nat.zero_add] at Q1'
  rw [show ((4 : Nat) : Int) = 4 from rfl] at Q1'
  rw [Q1'] at C1
  dsimp only at C1
  have B1 := Lib.hid hb1
  have HG := Lib.hid hg
  have HSL := Lib.hid hsl
  clear Q1' Q1 hrd hsl hb1 hg CRD
  go_wp2_with fail
  refine (C1.out).mono ?_
  rintro e w2 ⟨a2, cap2, rfl, _, hrd2, hg2, _⟩
  have B2 := Lib.hid (B1.out.grown hg2 B1.out.size (fun k hk => by cases hk; exact HG.out))
  have C2 := Lib.hid (rdnum_any w2 g sl 128 (L.getD 0 []) 4 0 2 hrd2 (by omega))
  have Q2' := Q2.out
  rw [show ((2 : Nat) : Int) = 2 from rfl] at Q2'
  rw [Q2'] at C2
  dsimp only at C2
  clear Q2' Q2 hrd2 hg2 C1 B1
  go_wp2_with fail
  refine (C2.out).mono ?_
  rintro e w3 ⟨rfl, hrd3, hg3⟩
  have B3 := Lib.hid (B2.out.grown hg3 B2.out.size (fun k hk => by cases hk; exact HG.out))
  have C3 := Lib.hid (rdraw_any w3 g sl 128 (L.getD 0 []) 6 0 4 hrd3 (by omega) (by omega))
  have Q3' := Q3.out
  rw [show ((4 : Nat) : Int) = 4 from rfl] at Q3'
  rw [Q3'] at C3
  dsimp only at C3
  clear Q3' Q3 hrd3 hg3 C2 B2
  go_wp2_with fail
  refine (C3.out).mono ?_
  rintro e w4 ⟨a4, cap4, rfl, _, hrd4, hg4, _⟩
  have B4 := Lib.hid (B3.out.grown hg4 B3.out.size (fun k hk => by cases hk; exact HG.out))
  have D4 := Lib.hid hrd4
  clear hrd4 hg4 C3 B3
  by_cases hbig : 40 < c
  · have HN := Lib.hid (HNIL.out hbig)
    have hbI : (40 : Int) < (c : Int) := by omega
    go_wp2
    go_ret
    exact ⟨fun _ => False, none, 0, 0, [], rfl, PutsIn.nil _ _ (by simp), HN.out.symm, B4.out, by simp⟩
  · have HPT := Lib.hid (HPT.out hbig)
    have hbI : (c : Int) ≤ 40 := by omega
    obtain ⟨i0, hi, hz0, hz1, hz2⟩ := info_parts infoPut
    have hb1 : Hid (i0.bytes * c ≤ 281474976710656) := by unfold Hid; rw [hz2]; omega
    have hb2 : Hid (c ≤ maxLen) := by unfold Hid maxLen; omega
    clear HNIL
    go_wp2_with (at_make; refine wpList_make_full _ rfl _ _ 22 rfl 0 69 i0 (.agg #[.int .i64 0, .slice none 0 0]) 2 Try.underlying22 hi hz0 hz1 .u64 .u64 _ _ c rfl rfl rfl rfl hb1.out hb2.out (Nat.zero_le _) ?_; intro w5 hown hgrow)
    have hr0 : Recs putC w5 69 2 (.slice (some ⟨w4.heap.size, 0, none⟩) c c) (List.replicate c ⟨0, none, 0, 0, []⟩) := recs_made _ #[.int .i64 0, .slice none 0 0] rfl (putC_one _) (by simp) hown
    have hbel : Below w4.heap.size w4 w5 := (Below.refl _ _).grown hgrow (Nat.le_refl _) (fun k hk => by cases hk)
    have HR0 := Lib.hid hr0
    have B5 := Lib.hid (B4.out.trans (hbel.mono B4.out.size))
    have D5 := Lib.hid (D4.out.below hbel)
    have HGB := Lib.hid (show g < w4.heap.size ∧ w.heap.size ≤ w4.heap.size from ⟨D4.out.lt, B4.out.size⟩)
    clear hown hgrow hr0 hbel hi hz0 hz1 hz2 B4 D4
    generalize w4.heap.size = B at *
    go_wp2
    go_loopw [23] (fun i wr => ∃ k : Nat, k ≤ c ∧ i = .int .i64 k ∧ Recs putC wr 69 2 (.slice (some ⟨B, 0, none⟩) c c) ((namedM R L c).take k ++ List.replicate (c - k) ⟨0, none, 0, 0, []⟩) ∧ Rd wr g sl 128 (L.getD 0 []) (10 + 2 * k) 0 ∧ Below w.heap.size w wr) (fun i _ => c - (intOf i).toNat)
    case atStart => exact ⟨0, Nat.zero_le _, rfl, HR0.out, D5.out, B5.out⟩
    case round =>
      obtain ⟨k, hk, rfl, hr, hd, hb⟩ := hrel
      have HR := Lib.hid hr
      have HD := Lib.hid hd
      have HB := Lib.hid hb
      clear hr hd hb
      by_cases hlt : k < c
      · have HX := Lib.hid (namedM_at R L c k hlt)
        have HCS := Lib.hid (fun u (hb : Below w.heap.size w u) => (HH.out.carry hb).cell HRL.out (1 + k) (by omega))
        have hcs := HCS.out _ HB.out
        have hln : ((namedM R L c).take k ++ List.replicate (c - k) (⟨0, none, 0, 0, []⟩ : PutM)).length = c := by rw [List.length_append, List.length_take, List.length_replicate, namedM_length]; omega
        have HLN := Lib.hid hln
        have q := rnum_fine (L.getD 0 []) (10 + 2 * k) 2 (by omega) (by omega) (by rw [HL0.out]; omega)
        rw [show ((2 : Nat) : Int) = 2 from rfl] at q
        have CN := Lib.hid (rdnum_any wr.drew g sl 128 (L.getD 0 []) (10 + 2 * k) 0 2 (HD.out.drewN 1) (by omega))
        rw [q] at CN
        dsimp only at CN
        have hv := le2_lt (L.getD 0 []) (10 + 2 * k)
        have hki : (k : Int) < (c : Int) := by omega
        clear hln q
        generalize R.getD (1 + k) (none, 0, 0) = r at *
        obtain ⟨ra, rm, rc⟩ := r
        dsimp only at hcs HX HCS
        generalize le (((L.getD 0 []).drop (10 + 2 * k)).take 2) = v at *
        have hw1 : IntKind.i64.wrap (1 + (k : Int)) = 1 + (k : Int) := IntWalk.i64_in _ (by omega)
        have hw2 : 0 ≤ 1 + (k : Int) := by omega
        have hw3 : 1 + (k : Int) < 41 := by omega
        have hw4 : (1 + (k : Int)).toNat = 1 + k := by omega
        go_wp2_with fail
        refine region_head 11 [0, 1, 2, 5, 6, 7, 8, 9, 3, 4, 10] [3] (fun u => u.cell? ⟨b, 1 + k, none⟩ = some (.slice ra rm rc)) (by kernel_rfl) (by kernel_rfl) hcs ?_
        simp only [pickO, List.append_eq, List.cons_append, List.nil_append, List.filterMap_cons, List.filterMap_nil, List.getElem?_cons_zero, List.getElem?_cons_succ, Option.map_some, List.drop_succ_cons, List.drop_zero]
        iterate 8
          refine seqH_readG _ rfl (by rfl) (by rintro u hu1; go_simp; with_reducible rfl) ?_
          try simp only [Act.put, List.setIfInBounds_toArray, List.set_cons_zero, List.set_cons_succ]
        refine seqH_moveG rfl (by rfl) (fun K hK => ?_)
        go_simp
        refine (CN.out).mono ?_
        rintro e w6 ⟨rfl, hrd6, hg6⟩
        have HB6 := Lib.hid ((below_drewN HB.out 1).grown hg6 HB.out.size (fun q hq => by cases hq; exact HG.out) : Below w.heap.size w w6)
        have hgB : some B ≠ some g := fun e => by have := HGB.out.1; simp at e; omega
        have hsz6 : wr.heap.size ≤ w6.heap.size := by simpa using hg6.size
        have HR6 := Lib.hid (HR.out.keep (w' := w6) (fun q hq => by simp [Value.ownBlock] at hq; subst hq; exact hg6.block _ (HR.out.lt _ rfl) hgB))
        have HD6 := Lib.hid hrd6
        have hcs6 := HCS.out _ HB6.out
        have HT6 := Lib.hid (HR6.out.there k (by rw [HLN.out]; exact hlt))
        refine hK _ _ hcs6 ?_
        clear hK K hrd6 hg6 CN hcs hcs6
        try simp only [Act.put, List.setIfInBounds_toArray, List.set_cons_zero, List.set_cons_succ]
        refine seqH_readG (.int .i64 (v : Int)) rfl (by rfl) (by rintro u hu1; have hvw : IntKind.i64.wrap (v : Int) = (v : Int) := IntWalk.i64_in _ (by omega); go_simp) ?_
        try simp only [Act.put, List.setIfInBounds_toArray, List.set_cons_zero, List.set_cons_succ]
        refine seqH_readG (.agg #[.int .i64 (v : Int), .slice ra rm rc]) rfl (by rfl) (by rintro u hu1; go_simp) ?_
        try simp only [Act.put, List.setIfInBounds_toArray, List.set_cons_zero, List.set_cons_succ]
        refine seqH_nil ?_
        clear hw1 hw2 hw3 hw4
        go_wp2_with (refine wpList_store_mid rfl 69 _ _ rfl B (k * 2) #[.int .i64 (v : Int), .slice ra rm rc] rfl rfl (by simpa using HT6.out) sizePut (by simp [Value.oneCell']) ?_)
        go_roundw
        case rel =>
          have hput := HR6.out.put k (by rw [HLN.out]; exact hlt) ⟨(v : Int), ra, rm, rc, L.getD (1 + k) []⟩ rfl (putC_one _)
          rw [fill_next (namedM R L c) ⟨0, none, 0, 0, []⟩ _ c k (namedM_length R L c) hlt HX.out] at hput
          refine ⟨k + 1, by omega, by go_num, hput.1, ?_, HB6.out.grown hput.2 HB6.out.size (fun q hq => by simp at hq; have := HGB.out.2; omega)⟩
          exact (HD6.out.other hput.2 (by have := HGB.out.1; omega) (fun x hx => by have := (HSL.out x hx).2; have := HGB.out.1; omega))
        case measure => simp [intOf]; omega
      · obtain rfl : k = c := by omega
        go_wp2
        go_ret
        have hr := HR.out
        rw [Nat.sub_self, List.replicate_zero, List.append_nil, List.take_of_length_le (by rw [namedM_length]; omega)] at hr
        have hh := HH.out.carry HB.out
        have hmem : ∀ y ∈ namedM R L k, ∃ j, j < k ∧ y = ⟨(le (((L.getD 0 []).drop (10 + 2 * j)).take 2) : Nat), (R.getD (1 + j) (none, 0, 0)).1, (R.getD (1 + j) (none, 0, 0)).2.1, (R.getD (1 + j) (none, 0, 0)).2.2, L.getD (1 + j) []⟩ := fun y hy => by
          obtain ⟨j, hj, rfl⟩ := List.mem_map.1 hy
          exact ⟨j, by simpa using hj, rfl⟩
        have hkc : k ≤ 40 := by omega
        refine ⟨fun j => (w0.heap.size ≤ j ∧ j < wr.heap.size), _, _, _, namedM R L k, rfl, ⟨came_of_recs hr, fun j hj => hj.2, fun p hp => ?_, fun y hy => ?_, fun y hy p hp => ?_⟩, HPT.out, HB.out, fun j hj => .inl hj.1⟩
        · cases hp
          exact ⟨Nat.le_trans HH.out.below.size HGB.out.2, hr.lt _ rfl⟩
        · obtain ⟨j, hj, rfl⟩ := hmem y hy
          exact hh.bytes (1 + j) (by rw [HRL.out]; omega)
        · obtain ⟨j, hj, rfl⟩ := hmem y hy
          have := hh.new (1 + j) (by rw [HRL.out]; omega) p hp
          exact ⟨this.1, this.2.1⟩

end Go.Proofs.Ytinfgfgmijjhjaa
