/-
  made, both, reads.
-/
import Derived.Test.YtinfgfgmijjhjaaJnEval
import Derived.Test.YtinfgfgmijjhjaaFew
namespace Go.Proofs.Ytinfgfgmijjhjaa
open Go.RowKit
set_option linter.unusedVariables false
set_option linter.unusedSimpArgs false

set_option maxHeartbeats 1000000 in
set_option maxRecDepth 100000 in
theorem made_any (n : Nat) (w : World) (h1 : 41 < n) (h2 : n ≤ 2048) : Calls Try.prog 31 #[.int .i64 n] w (FreshDisk id (Dk.new n) w) := by
  have hfn := format_new n h1
  have HFN := Lib.hid hfn
  clear hfn
  go_enter Try.func31, Try.ntmps31
  go_wp2_with fail
  refine (new_yes n w (by omega) (by omega)).mono ?_
  rintro e w1 ⟨g, S1, rfl, hd1, hb1, hn1⟩
  have CF := Lib.hid (format_any g (Dk.new n) S1 w1 hd1 (by simp [Dk.new]))
  rw [HFN.out] at CF
  have HB1 := Lib.hid hb1
  have HN1 := Lib.hid hn1
  clear hd1 hb1 hn1
  go_wp2_with fail
  refine (CF.out).mono ?_
  rintro e w2 ⟨rfl, S2, hd2, ho2, hs2⟩
  have HO2 := Lib.hid ho2
  have HS2 := Lib.hid hs2
  have HD2 := Lib.hid hd2
  clear hd2 ho2 hs2 CF
  go_wp2
  go_ret
  exact ⟨g, S2, rfl, HD2.out, HB1.out.trans (HO2.out.below HB1.out.size (fun i hi hS => by have := HN1.out i hS; omega)), fun k hk => (HS2.out k hk).elim (HN1.out k) (fun h => Nat.le_trans HB1.out.size h)⟩

theorem built_put2 (i1 i2 : Int) (a1 a2 : Option Addr) (n1 c1 n2 c2 : Nat) : ∀ w : World, (Instr.buildSlice 22 2 #[(0, .agg (putV i1 a1 n1 c1)), (1, .agg (putV i2 a2 n2 c2))]).run Try.prog w = .ok (.slice (some ⟨w.heap.size, 0, none⟩) 2 2) (w.alloc (.cells #[.int .i64 i1, .slice a1 n1 c1, .int .i64 i2, .slice a2 n2 c2] 69)) := fun w => by
  obtain ⟨i0, hi, hz0, hz1, hz2⟩ := info_parts infoPut
  refine run_buildSlice w _ _ _ _ _ i0 _ Try.underlying22 hi hz0 (by rw [hz1]; omega) (by rw [hz1]; omega) ?_
  rw [hz1]
  have := fill_whole (fun i => some (i * 2, 2)) ((Array.range (2 * 2)).map fun x => (Value.agg #[.int .i64 0, .slice none 0 0]).cells[x % (Value.agg #[.int .i64 0, .slice none 0 0]).cells.size]!) [(0, .agg (putV i1 a1 n1 c1)), (1, .agg (putV i2 a2 n2 c2))] ⟨by simp [Value.cells, putV], by simp [Value.cells, putV], trivial⟩ (by simp [Value.cells, putV])
  simpa [Value.cells, putV] using this

/-- a slice of puts of the call's own -/
theorem puts_two {w : World} {U : Nat → Prop} {B : Nat} {i1 i2 : Int} {a1 a2 : Option Addr} {n1 c1 n2 c2 : Nat} {l1 l2 : List UInt8} (h : w.heap[B]? = some (.cells #[.int .i64 i1, .slice a1 n1 c1, .int .i64 i2, .slice a2 n2 c2] 69 (0, 0)))
    (h1 : BytesAt w a1 n1 c1 l1) (h2 : BytesAt w a2 n2 c2 l2) (hU : ∀ k, U k → k < w.heap.size) (hB : U B) (u1 : ∀ p, a1 = some p → U p.block) (u2 : ∀ p, a2 = some p → U p.block) :
    PutsIn w U (some ⟨B, 0, none⟩) 2 2 [⟨i1, a1, n1, c1, l1⟩, ⟨i2, a2, n2, c2, l2⟩] := by
  refine ⟨⟨rfl, Nat.le_refl _, by unfold maxLen; omega, fun x hx => rfl, .inr ⟨_, rfl, fun k j x hk hj => ?_⟩⟩, hU, fun p hp => by cases hp; exact hB, fun x hx => ?_, fun x hx p hp => ?_⟩
  · rw [Addr.add_mid, Nat.zero_add, cell_of_row _ _ _ _ _ _ h]
    match k, j, hj with
    | 0, 0, _ => simp at hk; subst hk; rfl
    | 0, 1, _ => simp at hk; subst hk; rfl
    | 1, 0, _ => simp at hk; subst hk; rfl
    | 1, 1, _ => simp at hk; subst hk; rfl
    | k + 2, _, _ => simp at hk
  · simp only [List.mem_cons, List.not_mem_nil, or_false] at hx
    rcases hx with rfl | rfl
    · exact h1
    · exact h2
  · simp only [List.mem_cons, List.not_mem_nil, or_false] at hx
    rcases hx with rfl | rfl
    · exact u1 p hp
    · exact u2 p hp

set_option maxHeartbeats 1000000 in
set_option maxRecDepth 100000 in
theorem both_any (w : World) : Calls Try.prog 36 #[] w (FewTo bothL w) := by
  go_enter Try.func36, Try.ntmps36
  go_wp2_with fail
  refine (all_any 7 w).mono ?_
  rintro e w1 ⟨a1, c1, rfl, hr1, hb1, hn1⟩
  have R1 := Lib.hid hr1
  have B1 := Lib.hid hb1
  have N1 := Lib.hid hn1
  clear hr1 hb1 hn1
  dsimp only [id]
  go_wp2_with fail
  refine (all_any 8 w1).mono ?_
  rintro e w2 ⟨a2, c2, rfl, hr2, hb2, hn2⟩
  have R2 := Lib.hid hr2
  have R1' := Lib.hid (R1.out.below hb2)
  have B2 := Lib.hid (B1.out.trans (hb2.mono B1.out.size))
  have N2 := Lib.hid hn2
  have HZ := Lib.hid hb2.size
  clear hr2 hb2 hn2
  dsimp only [id]
  have bp := built_put2 41 42 a1 a2 128 c1 128 c2
  unfold putV at bp
  go_wp2
  go_ret
  have hb3 : Below w2.heap.size w2 (w2.alloc (.cells #[.int .i64 41, .slice a1 128 c1, .int .i64 42, .slice a2 128 c2] 69)) := (Below.refl _ _).alloc (Nat.le_refl _) _
  have h1 := B1.out.size
  have h2 := B2.out.size
  have h3 := HZ.out
  exact ⟨_, 2, 2, _, rfl, puts_two (heap_alloc_new w2 _) (R1'.out.below hb3) (R2.out.below hb3) (fun k hk => hk.2) ⟨by omega, by simp⟩ (fun p hp => ⟨(N1.out p hp).1, by have := (N1.out p hp).2; simp; omega⟩) (fun p hp => ⟨by have := (N2.out p hp).1; omega, by have := (N2.out p hp).2; simp; omega⟩), rfl, B2.out.trans (hb3.mono B2.out.size)⟩

open Go.RowKit
set_option maxHeartbeats 4000000 in
set_option maxRecDepth 100000 in
theorem reads_yes (g : Nat) (D : Dk) (S : Nat → Prop) (a : Option Addr) (n cap : Nat) (lb : List UInt8) (w : World) (h : DiskAt w S g D) (hl : BytesAt w a n cap lb) (hp : D.power = true) (hn : n ≤ 100) (hs : 41 + n ≤ D.secs.length)
    (hall : ∀ i, i < n → D.content (41 + i) = sec (lb.getD i 0)) :
    Calls Try.prog 37 #[.pointer (some ⟨g, 0, none⟩), .slice a n cap] w fun e w' => e = .returned (.bool true) ∧ Below w.heap.size w w' := by
  have HD := Lib.hid h
  have HL := Lib.hid hl
  have HA := Lib.hid hall
  have HP := Lib.hid hp
  clear h hl hall hp
  go_enter Try.func37, Try.ntmps37
  go_wp2
  go_loopw [5] (fun i wr => ∃ k : Nat, k ≤ n ∧ i = .int .i64 k ∧ Below w.heap.size w wr) (fun i _ => n - (intOf i).toNat)
  case atStart => exact ⟨0, Nat.zero_le _, rfl, Below.refl _ _⟩
  case round =>
    obtain ⟨k, hk, rfl, hb⟩ := hrel
    have HB := Lib.hid hb
    clear hb
    by_cases hlt : k < n
    · obtain ⟨b, off, rfl, hc⟩ := HL.out.at (by omega)
      have hck := hc k hlt
      have hbl := block_lt hck
      have HCK := Lib.hid (show ∀ u, Below w.heap.size w u → u.cell? ⟨b, off + k, none⟩ = some (.int .u8 (lb.getD k 0).toNat) from fun u hu => by
        rw [hu.cell (p := ⟨b, off + k, none⟩) hbl]; exact hck)
      have CR := Lib.hid (read_yes g (41 + k) D S wr (HD.out.below HB.out) (by omega) HP.out)
      have hcon := HA.out k hlt
      rw [hcon] at CR
      have hki : (k : Int) < (n : Int) := by omega
      have a1 : ((41 + k : Nat) : Int) = 41 + (k : Int) := by omega
      rw [a1] at CR
      clear a1 hc hck hbl hcon
      generalize lb.getD k 0 = c at *
      go_wp2_with fail
      refine (CR.out).mono ?_
      rintro e w1 ⟨a4, cap4, rfl, hr4, hb4, _⟩
      have HB4 := Lib.hid (HB.out.trans (hb4.mono HB.out.size))
      have HR4 := Lib.hid hr4
      have hS0 : BytesAt w1.drew a4 128 cap4 (sec c) ∧ w1.drew.cell? ⟨b, off + k, none⟩ = some (.int .u8 c.toNat) := ⟨hr4.below ((Below.refl _ _).drew), HCK.out _ HB4.out.drew⟩
      clear hr4 hb4 CR
      go_wp2_with fail
      refine region_head 13 [0, 1, 2, 3, 4, 5, 6, 7, 8, 9, 10, 11, 12] [6, 7] (fun u => BytesAt u a4 128 cap4 (sec c) ∧ u.cell? ⟨b, off + k, none⟩ = some (.int .u8 c.toNat)) (by kernel_rfl) (by kernel_rfl) hS0 ?_
      clear hS0
      simp only [pickO, List.append_eq, List.cons_append, List.nil_append, List.filterMap_cons, List.filterMap_nil, List.getElem?_cons_zero, List.getElem?_cons_succ, Option.map_some, List.drop_succ_cons, List.drop_zero]
      iterate 6
        refine seqH_readG _ rfl (by rfl) (by rintro u ⟨hu1, hu2⟩; have hv := hu1.conv; clear hu1; go_simp; with_reducible rfl) ?_
        try simp only [Act.put, List.setIfInBounds_toArray, List.set_cons_zero, List.set_cons_succ]
      refine seqH_moveG rfl (by rfl) (fun K hK => ?_)
      go_simp
      refine (all_any c _).mono ?_
      rintro e w5 ⟨a5, c5, rfl, hr5, hb5, _⟩
      have HB5 := Lib.hid (HB4.out.trans ((((Below.refl w1.heap.size w1).drew).trans (hb5.mono (by simp))).mono HB4.out.size))
      have HR5 := Lib.hid hr5
      have HS5 := Lib.hid (show BytesAt w5 a4 128 cap4 (sec c) ∧ w5.cell? ⟨b, off + k, none⟩ = some (.int .u8 c.toNat) from ⟨(HR4.out.below ((Below.refl _ _).drew)).below hb5, HCK.out _ HB5.out⟩)
      refine hK _ _ HS5.out ?_
      clear hK K hr5 hb5
      dsimp only [id]
      try simp only [Act.put, List.setIfInBounds_toArray, List.set_cons_zero, List.set_cons_succ]
      refine seqH_moveG rfl (by rfl) (fun K hK => ?_)
      have hv5 := HR5.out.conv
      go_simp
      refine hK _ _ HS5.out ?_
      clear hK K hv5
      try simp only [Act.put, List.setIfInBounds_toArray, List.set_cons_zero, List.set_cons_succ]
      iterate 5
        refine seqH_readG _ rfl (by rfl) (by rintro u hu; clear hu; go_simp; with_reducible rfl) ?_
        try simp only [Act.put, List.setIfInBounds_toArray, List.set_cons_zero, List.set_cons_succ]
      refine seqH_nil ?_
      go_wp2
      go_roundw
      case rel => exact ⟨k + 1, by omega, by go_num, HB5.out⟩
      case measure => simp [intOf]; omega
    · obtain rfl : k = n := by omega
      go_wp2
      go_ret
      exact ⟨rfl, HB.out⟩

end Go.Proofs.Ytinfgfgmijjhjaa
