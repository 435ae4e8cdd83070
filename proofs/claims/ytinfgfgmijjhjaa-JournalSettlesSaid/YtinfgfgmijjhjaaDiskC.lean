/-
  Contracts of package disk: Flush, Cut, On, Write.
-/
import Derived.Test.YtinfgfgmijjhjaaDiskB
import Derived.Test.YtinfgfgmijjhjaaCame
import Derived.Test.YtinfgfgmijjhjaaFill
import Derived.Deep.RegionLaw
namespace Go.Proofs.Ytinfgfgmijjhjaa
open Go.RowKit
set_option linter.unusedVariables false
set_option linter.unusedSimpArgs false

theorem enter34 (args : Array Value) (u : World) : (callFunc 61 args).run Try.prog u = .ok (.enter 61 args) u := by
  simp [callFunc, Try.func61, Try.f61, go_sem]
theorem enter35 (args : Array Value) (u : World) : (callFunc 56 args).run Try.prog u = .ok (.enter 56 args) u := by
  simp [callFunc, Try.func56, Try.f56, go_sem]
theorem enter36 (args : Array Value) (u : World) : (callFunc 57 args).run Try.prog u = .ok (.enter 57 args) u := by
  simp [callFunc, Try.func57, Try.f57, go_sem]

theorem flush1_any (k : Nat) (w : World) : Calls Try.prog 61 #[.int .i64 k] w fun e w' => e = .returned (.bool true) ∧ w = w' := by
  go_enter Try.func61, Try.ntmps61
  go_wp2
  go_ret
  exact ⟨rfl, rfl⟩
theorem on1_any (k : Nat) (w : World) : Calls Try.prog 57 #[.int .i64 k] w fun e w' => e = .returned (.bool false) ∧ w = w' := by
  go_enter Try.func57, Try.ntmps57
  go_wp2
  go_ret
  exact ⟨rfl, rfl⟩
theorem cut1_any (k : Nat) (B : Nat) (a : Option Addr) (n cap : Nat) (L : List Bool) (w : World) (hk : k ≤ 1073741824) (hB : w.cell? ⟨B, 0, none⟩ = some (.slice a n cap)) (h : BoolsAt w a n cap L) :
    Calls Try.prog 56 #[.int .i64 k, .pointer (some ⟨B, 0, none⟩)] w fun e w' => e = .returned (.bool (Dk.keeps L k)) ∧ w = w' := by
  have hm : n ≤ 9223372036854775807 := by have := h.2.1; have := h.2.2.1; unfold maxLen at *; omega
  by_cases hlt : k < n
  · obtain ⟨b, off, rfl, _, hc⟩ := h.cell (by omega)
    have hck := hc k hlt
    have hi : (k : Int) < (n : Int) := by omega
    have HK := Lib.hid (show L.getD k false = Dk.keeps L k from rfl)
    generalize L.getD k false = x at *
    clear hc h
    go_enter Try.func56, Try.ntmps56
    go_wp2
    go_ret
    exact ⟨by rw [← HK.out]; rfl, rfl⟩
  · have hi : (n : Int) ≤ (k : Int) := by omega
    have hkk : Dk.keeps L k = false := by unfold Dk.keeps; rw [List.getD, List.getElem?_eq_none (by have := h.1; omega)]; rfl
    rw [hkk]
    clear h hkk
    go_enter Try.func56, Try.ntmps56
    go_wp2
    go_ret
    exact ⟨rfl, rfl⟩

theorem flush_no (g : Nat) (D : Dk) (S : Nat → Prop) (w : World) (h : DiskAt w S g D) (hc : D.can = false) :
    Calls Try.prog 28 #[.pointer (some ⟨g, 0, none⟩)] w (DiskTo (.int .i64 10) S g D.off w) := by
  have CS := Lib.hid (spend_no g D S w h hc)
  clear h hc
  go_enter Try.func28, Try.ntmps28
  go_wp2_with (go_at_call 59; refine (CS.out).mono ?_; rintro e w1 ⟨rfl, hd⟩)
  go_ret
  exact ⟨rfl, hd⟩

theorem flush_yes (g : Nat) (D : Dk) (S : Nat → Prop) (w : World) (h : DiskAt w S g D) (hc : D.can = true) :
    Calls Try.prog 28 #[.pointer (some ⟨g, 0, none⟩)] w (DiskTo (.int .i64 0) S g D.flushed w) := by
  have CS := Lib.hid (spend_yes g D S w h hc)
  clear h hc
  go_enter Try.func28, Try.ntmps28
  go_upto_region 4 with (go_at_call 59; refine (CS.out).mono ?_; rintro e w1 ⟨rfl, hd, ho, hs⟩)
  have CT := Lib.hid (settle_any 61 #[] (fun _ => true) g D.paid S w1 hd enter34 (fun k u hk _ => flush1_any k u))
  have HO := Lib.hid ho
  have HS := Lib.hid hs
  clear hd ho hs
  go_wp2_with (go_at_call 55; refine (CT.out).mono ?_; rintro e w2 ⟨rfl, S2, hd2, ho2, hs2⟩)
  go_ret
  exact ⟨rfl, S2, hd2, HO.out.trans ho2 (fun _ _ h => h), fun k hk => by rw [← HS.out]; exact hs2 k hk⟩

theorem on_any (g : Nat) (D : Dk) (S : Nat → Prop) (w : World) (h : DiskAt w S g D) :
    Calls Try.prog 21 #[.pointer (some ⟨g, 0, none⟩)] w (DiskTo (.tuple #[]) S g D.on w) := by
  have CT := Lib.hid (settle_any 57 #[] (fun _ => false) g D S w h enter36 (fun k u hk _ => on1_any k u))
  clear h
  go_enter Try.func21, Try.ntmps21
  go_upto_region 1 with (go_at_call 55; refine (CT.out).mono ?_; rintro e w2 ⟨rfl, S2, hd2, ho2, hs2⟩)
  have HD := Lib.hid hd2
  have HO := Lib.hid ho2
  obtain ⟨vs, vw, hd⟩ := hd2
  obtain ⟨c0, c1, c2, c3, hf⟩ := DiskAt.cells (S := S) hd.blk
  have f2 := hf 2
  have f3 := hf 3
  clear hd hf ho2
  go_wp2
  go_end0
  refine ⟨rfl, S2, (HD.out.setPower true).setBudget (-1) (by omega) (by omega), ?_, hs2⟩
  exact HO.out.trans ((Only.setCell (S := S2) _ _ _ HD.out.self).trans (Only.setCell (S := S2) _ _ _ HD.out.self) (fun _ _ h => h)) (fun i hi h => (hs2 i h).resolve_right (by omega))

theorem cut_any (g : Nat) (D : Dk) (S : Nat → Prop) (a : Option Addr) (n cap : Nat) (L : List Bool) (w : World) (h : DiskAt w S g D) (hL : BoolsAt w a n cap L) (hS : ∀ p, a = some p → 0 < n → ¬ S p.block) :
    Calls Try.prog 19 #[.pointer (some ⟨g, 0, none⟩), .slice a n cap] w (DiskTo (.tuple #[]) S g (D.cut L) w) := by
  have hb : Below w.heap.size w (w.alloc (.cells #[.slice a n cap] 38)) := (Below.refl _ _).alloc (Nat.le_refl _) _
  have CT := Lib.hid (settle_any 56 #[.pointer (some ⟨w.heap.size, 0, none⟩)] (Dk.keeps L) g D S (w.alloc (.cells #[.slice a n cap] 38)) (h.below hb) enter35 (fun k u hk ho =>
    cut1_any k w.heap.size a n cap L u (Nat.le_trans (Nat.le_of_lt hk) h.ok.few) (by
      rw [World.cell?_of_block (w := w.alloc (.cells #[.slice a n cap] 38)) (ho.block w.heap.size (by simp) (fun hs => by have := h.lt _ hs; omega))]
      rw [cell_of_row _ _ _ _ _ _ (heap_alloc_new w _)]; rfl)
      (CameAt.only (CameAt.below hL (by omega) hb) (by omega) ho hS)))
  have HB := Lib.hid hb
  clear h hL hS hb
  go_enter Try.func19, Try.ntmps19
  go_upto_region 2 with (go_at_call 55; refine (CT.out).mono ?_; rintro e w2 ⟨rfl, S2, hd2, ho2, hs2⟩)
  have HD := Lib.hid hd2
  have HO := Lib.hid ho2
  obtain ⟨vs, vw, hd⟩ := hd2
  obtain ⟨c0, c1, c2, c3, hf⟩ := DiskAt.cells (S := S) hd.blk
  have f2 := hf 2
  clear hd hf ho2
  go_wp2
  go_end0
  have hs3 : ∀ k, S2 k → S k ∨ w.heap.size ≤ k := fun k hk => (hs2 k hk).imp_right (fun h => by simp at h; omega)
  refine ⟨rfl, S2, HD.out.setPower false, ?_, hs3⟩
  exact (Only.of_below HB.out).trans (HO.out.trans (Only.setCell (S := S2) _ _ _ HD.out.self) (fun i hi h => (hs2 i h).resolve_right (by omega))) (fun i hi h => h)

/-! ### Write -/
theorem write_range (g : Nat) (i : Int) (D : Dk) (S : Nat → Prop) (v : Value) (w : World) (h : DiskAt w S g D) (hi : i < 0 ∨ (D.secs.length : Int) ≤ i) :
    Calls Try.prog 25 #[.pointer (some ⟨g, 0, none⟩), .int .i64 i, v] w fun e w' => e = .returned (.int .i64 4) ∧ w = w' := by
  have CT := Lib.hid (there_no g i D S w h hi)
  clear h hi
  go_enter Try.func25, Try.ntmps25
  go_wp2_with (go_at_call 58; refine (CT.out).mono ?_; rintro e w1 ⟨rfl, rfl⟩)
  go_ret
  exact ⟨rfl, rfl⟩

theorem write_arg (g : Nat) (i : Nat) (D : Dk) (S : Nat → Prop) (a : Option Addr) (n cap : Nat) (w : World) (h : DiskAt w S g D) (hi : i < D.secs.length) (hn : n ≠ 128) :
    Calls Try.prog 25 #[.pointer (some ⟨g, 0, none⟩), .int .i64 i, .slice a n cap] w fun e w' => e = .returned (.int .i64 1) ∧ w = w' := by
  have CT := Lib.hid (there_yes g i D S w h hi)
  have h1 : ((n : Int) == 128) = false := by simp; omega
  have h2 : ((n : Int) != 128) = true := by simp; omega
  clear h hi hn
  go_enter Try.func25, Try.ntmps25
  go_wp2_with (go_at_call 58; refine (CT.out).mono ?_; rintro e w1 ⟨rfl, rfl⟩)
  go_ret
  exact ⟨rfl, rfl⟩

theorem write_off (g : Nat) (i : Nat) (D : Dk) (S : Nat → Prop) (a : Option Addr) (cap : Nat) (w : World) (h : DiskAt w S g D) (hi : i < D.secs.length) (hc : D.can = false) :
    Calls Try.prog 25 #[.pointer (some ⟨g, 0, none⟩), .int .i64 i, .slice a 128 cap] w (DiskTo (.int .i64 10) S g D.off w) := by
  have CT := Lib.hid (there_yes g i D S w h hi)
  have CS := Lib.hid (spend_no g D S w h hc)
  clear h hi hc
  go_enter Try.func25, Try.ntmps25
  go_wp2_with (first
    | (go_at_call 58; refine (CT.out).mono ?_; rintro e w1 ⟨rfl, rfl⟩)
    | (go_at_call 59; refine (CS.out).mono ?_; rintro e w1 ⟨rfl, hd⟩))
  go_ret
  exact ⟨rfl, hd⟩

theorem run_arrayAtS (x : Addr) (c : Nat) (w : World) : (Instr.arrayAt 106 (.slice (some x) 128 c)).run Try.prog w = .ok (.pointer (some x)) w := by
  simp [Instr.arrayAt, run_underlying Try.underlying106]

theorem built_wait (i : Int) (l : List UInt8) (hl : l.length = 128) (w : World) :
    (Instr.build 108 #[(0, .int .i64 i), (1, .agg (vals l).toArray)]).run Try.prog w = .ok (.agg (Value.int .i64 i :: vals l).toArray) w := by
  obtain ⟨i0, hi, hz0, hz1, hz2⟩ := info_parts infoWait
  have := run_build_side (P := Try.prog) w 108 #[(0, .int .i64 i), (1, .agg (vals l).toArray)] _ [(0, 1), (1, 128)] i0 _ hi hz0 Try.underlying108 (by kernel_rfl) ⟨rfl, by simp [Value.cells, vals_length, hl], trivial⟩ (by simp [Value.cells, vals_length, hl])
  simpa [Value.cells] using this

theorem builtS_wait (x : Nat × List UInt8) (hl : x.2.length = 128) (w : World) :
    (Instr.buildSlice 81 1 #[(0, .agg (waitC x).toArray)]).run Try.prog w = .ok (.slice (some ⟨w.heap.size, 0, none⟩) 1 1) (w.alloc (.cells (waitC x).toArray 108)) := by
  obtain ⟨i0, hi, hz0, hz1, hz2⟩ := info_parts infoWait
  exact run_buildSlice_one w _ _ _ i0 _ 129 Try.underlying81 hi hz0 hz1 (by simp [waitC_length x hl]) (by omega) (by omega)

end Go.Proofs.Ytinfgfgmijjhjaa
