/-
  The document's own answers for layer 10 (hamperref10): May, Two; packs in memory.
-/
import Derived.Test.YtklfoafbgniogaaLmMod
import Derived.Test.YtklfoafbgniogaaInts
import Derived.Test.YtklfoafbgniogaaOwn
import Derived.Deep.WholeRow
import Derived.Deep.MidRow
namespace Go.Proofs.Ytklfoafbgniogaa
open Go.RowKit
set_option linter.unusedVariables false
set_option linter.unusedSimpArgs false
set_option maxRecDepth 100000

/-! ### which counts may be -/
def okK (x : Int) : Bool := decide (0 ≤ x) && decide (x ≤ 2147483647)
def mayK (L : List Int) : Bool := L.all okK && decide (L.length ≤ 320)
theorem okK_take (L : List Int) (k : Nat) (h : k < L.length) : (L.take (k + 1)).all okK = ((L.take k).all okK && okK (L.getD k 0)) := by
  rw [List.take_succ_eq_append_getElem h, List.all_append, List.getD, List.getElem?_eq_getElem h]; simp
theorem mayK_bad (L : List Int) (k : Nat) (h : k < L.length) (hx : okK (L.getD k 0) = false) : mayK L = false := by
  unfold mayK
  have : L.all okK = false := by
    rw [List.all_eq_false]
    refine ⟨L.getD k 0, ?_, by rw [hx]; simp⟩
    rw [List.getD, List.getElem?_eq_getElem h]; exact List.getElem_mem h
  rw [this]; rfl
theorem mayK_nats (L : List Int) (h : mayK L = true) : L.length ≤ 320 ∧ (∀ x ∈ L, 0 ≤ x ∧ x ≤ 2147483647) := by
  unfold mayK at h
  simp only [Bool.and_eq_true, decide_eq_true_eq] at h
  refine ⟨h.2, fun x hx => ?_⟩
  have := List.all_eq_true.1 h.1 x hx
  unfold okK at this
  simpa using this

set_option maxHeartbeats 2000000 in
theorem lmMay_any (a : Option Addr) (n cap : Nat) (L : List Int) (w : World) (h : IntsAt w a n cap L) :
    Calls Try.prog 13 #[.slice a n cap] w fun e w' => e = .returned (.bool (mayK L)) ∧ w = w' := by
  have hl : L.length = n := h.1
  have hn : n ≤ 9223372036854775807 := by have := h.2.1; have := h.2.2.1; unfold maxLen at *; omega
  have HL := Lib.hid h
  have H1 := Lib.hid hl
  have HNV := Lib.hid (fun k (hk : k < n) => mayK_bad L k (by rw [hl]; exact hk))
  have HAL := Lib.hid (fun k (hk : k < n) => okK_take L k (by rw [hl]; exact hk))
  have HCH := Lib.hid (show L.all okK = true → mayK L = decide (n ≤ 320) from fun h => by unfold mayK; rw [h, hl]; rfl)
  clear h hl
  go_enter Try.func13, Try.ntmps13
  go_wp2
  go_loop [3] (fun i => ∃ k : Nat, k ≤ n ∧ i = .int .i64 k ∧ (L.take k).all okK = true) (fun i => n - (intOf i).toNat)
  case atStart => exact ⟨0, Nat.zero_le _, rfl, rfl⟩
  case round =>
    obtain ⟨k, hk, rfl, hv⟩ := hrel
    have HV := Lib.hid hv
    clear hv
    by_cases hlt : k < n
    · obtain ⟨b, off, rfl, _, hc⟩ := IntsAt.cell HL.out (by omega)
      have x1 := hc k hlt
      have hki : (k : Int) < n := by omega
      have hok := HAL.out k hlt
      have hno := HNV.out k hlt
      clear hc
      generalize L.getD k 0 = z at *
      have HOK := Lib.hid hok
      clear hok HAL HNV
      by_cases hneg : z < 0
      · have HR := Lib.hid (hno (by unfold okK; simp; omega))
        clear hno
        go_wp2
        go_ret
        exact ⟨by rw [HR.out]; rfl, rfl⟩
      · by_cases h15 : 2147483647 < z
        · have HR := Lib.hid (hno (by unfold okK; simp; omega))
          clear hno
          go_wp2
          go_ret
          exact ⟨by rw [HR.out]; rfl, rfl⟩
        · clear hno
          have hok2 : okK z = true := by unfold okK; simp; omega
          have HYV := Lib.hid (show (L.take (k + 1)).all okK = true by rw [HOK.out, HV.out, hok2]; rfl)
          clear hok2 HOK
          go_wp2
          go_round
          case rel => exact ⟨k + 1, by omega, by go_num, HYV.out⟩
          case measure => simp [intOf]; omega
    · obtain rfl : k = n := by omega
      have hki : ¬ (k : Int) < k := by omega
      have HT := Lib.hid (show L.take k = L from List.take_of_length_le (by have := H1.out; omega))
      have hv2 := HV.out
      rw [HT.out] at hv2
      have HC := Lib.hid (HCH.out hv2)
      clear HCH HV hv2 HNV HAL
      by_cases h3 : k ≤ 320
      · have h3i : (k : Int) ≤ 320 := by omega
        have HD := Lib.hid (show mayK L = true by rw [HC.out, decide_eq_true h3])
        go_wp2
        go_ret
        exact ⟨by rw [HD.out]; rfl, rfl⟩
      · have h3i : ¬ (k : Int) ≤ 320 := by omega
        have HD := Lib.hid (show mayK L = false by rw [HC.out, decide_eq_false h3])
        go_wp2
        go_ret
        exact ⟨by rw [HD.out]; rfl, rfl⟩

/-! ### packs -/
/-- how often each symbol is in it -/
def timesL (N : Nat) (x : Itm) : List Int := (List.range N).map fun s => (x.ms.count s : Int)
theorem timesL_len (N : Nat) (x : Itm) : (timesL N x).length = N := by simp [timesL]
theorem timesL_at (N : Nat) (x : Itm) (s : Nat) (h : s < N) : (timesL N x).getD s 0 = (x.ms.count s : Int) := by unfold timesL; rw [List.getD, List.getElem?_map, List.getElem?_range h]; rfl
structure PK where
  x : Itm
  a : Option Addr
  cap : Nat
deriving Inhabited
def packC (N : Nat) (p : PK) : List Value := [.int .i64 (p.x.w : Int), .slice p.a N p.cap]
theorem packC_one (N : Nat) (p : PK) : ∀ u ∈ packC N p, u.oneCell' = true := by
  intro u hu; simp only [packC, List.mem_cons, List.not_mem_nil, or_false] at hu; rcases hu with rfl | rfl <;> rfl
def PkAt (N : Nat) (w : World) (p : PK) : Prop := IntsAt w p.a N p.cap (timesL N p.x)
theorem infoPack : (Try.prog.info? 47).map (fun i => (i.zero, i.size, i.bytes)) = some (some (.agg #[.int .i64 0, .slice none 0 0]), 2, 32) := by kernel_rfl
theorem sizePack : (Try.prog.info? 47).map (·.size) = some 2 := by kernel_rfl
/-- packs that are handed out -/
def FreshPk (N : Nat) (X : List Itm) (w : World) (e : Ending) (w' : World) : Prop :=
  ∃ a n cap Z, e = .returned (.slice a n cap) ∧ OwnI (packC N) 47 2 w w' a n cap Z ∧ (∀ p ∈ Z, PkAt N w' p) ∧ Z.map (·.x) = X

/-! ### ints of the call's own -/
def IntI := OwnI intCS 3 1
theorem intCS_one (z : Int) : ∀ u ∈ intCS z, u.oneCell' = true := by
  intro u hu; simp only [intCS, List.mem_singleton] at hu; subst hu; rfl
theorem ints_mk (n : Nat) (hn : n ≤ 100000) (u : World) : (Instr.makeSlice 22 (.int .i64 n) (.int .i64 n)).run Try.prog u = .ok (.slice (some ⟨u.heap.size, 0, none⟩) n n) (u.alloc (.cells (madeCells #[.int .i64 0] n) 3)) := by
  obtain ⟨i0, hi, hz0, hz1, hz2⟩ := info_parts infoIntS
  have := run_make u 22 3 i0 _ Try.underlying22 hi hz0 .i64 .i64 (n : Int) (n : Int) (by omega) (by omega) (by rw [hz2]; omega) (by omega)
  rw [hz1] at this
  simpa [Value.cells] using this
theorem ints_made (w : World) (n : Nat) (hn : n ≤ 100000) : Recs intCS (w.alloc (.cells (madeCells #[.int .i64 0] n) 3)) 3 1 (.slice (some ⟨w.heap.size, 0, none⟩) n n) (List.replicate n 0) := by
  have hm : (madeCells #[.int .i64 0] n).toList = (List.replicate n (0 : Int)).flatMap intCS := by
    apply List.ext_getElem?
    intro j
    have hl : ∀ x ∈ List.replicate n (0 : Int), (intCS x).length = 1 := fun _ _ => rfl
    by_cases hj : j < n
    · have := flatMap_at (size := 1) _ hl j 0 0 (by rw [List.getElem?_replicate, if_pos hj]) (by omega)
      rw [Nat.mul_one, Nat.add_zero] at this
      rw [this]
      simp [madeCells, intCS, hj, Nat.mod_one]
    · rw [List.getElem?_eq_none (by simp [size_madeCells]; omega), List.getElem?_eq_none (by rw [flatMap_len _ hl]; simp; omega)]
  have hs := size_madeCells #[.int .i64 0] n
  refine ⟨fun _ _ => rfl, fun x _ => intCS_one x, ?_, .inr ⟨w.heap.size, n, _, ?_, Nat.zero_le _, heap_alloc_new w _, ?_, ?_, by omega, ?_⟩⟩
  · rw [← hm]; simp [hs]
  · simp
  · simp
  · unfold maxLen; omega
  · rw [← hm, List.take_of_length_le]; simp [hs]
theorem intR_at {w : World} {g n cap : Nat} {L : List Int} (h : Recs intCS w 3 1 (.slice (some ⟨g, 0, none⟩) n cap) L) (i : Nat) (hi : i < L.length) : w.cell? ⟨g, i, none⟩ = some (.int .i64 (L.getD i 0)) := by
  have := h.cellAt i 0 _ (List.getElem?_eq_getElem hi) (by omega)
  rw [Nat.mul_one, Nat.add_zero] at this
  rw [this, List.getD, List.getElem?_eq_getElem hi]; rfl
theorem intR_set {w : World} {g n cap : Nat} {L : List Int} (h : Recs intCS w 3 1 (.slice (some ⟨g, 0, none⟩) n cap) L) (i : Nat) (hi : i < L.length) (z : Int) : Recs intCS (w.setCell ⟨g, i, none⟩ (.int .i64 z)) 3 1 (.slice (some ⟨g, 0, none⟩) n cap) (L.set i z) := by
  have := h.stored i 0 hi (by omega) z (.int .i64 z) rfl rfl
  rwa [Nat.mul_one, Nat.add_zero] at this
end Go.Proofs.Ytklfoafbgniogaa
