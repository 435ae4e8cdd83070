/-
  awake of layer 2: the chapter's examples.
-/
import Derived.Test.YtjahiddgighjeaaRefCrc
import Derived.Deep.DeepCutAuto
import Derived.Lib.SlBytesConst
namespace Go.Proofs.Ytjahiddgighjeaa
open Go.RowKit
set_option linter.unusedVariables false
set_option linter.unusedSimpArgs false

def nine : List UInt8 := [49, 50, 51, 52, 53, 54, 55, 56, 57]

def nineC : Array Value := #[.int .u8 49, .int .u8 50, .int .u8 51, .int .u8 52, .int .u8 53, .int .u8 54, .int .u8 55, .int .u8 56, .int .u8 57]

theorem nine_at (w : World) (fr : Nat × Nat) : BytesAt (w.alloc (.cells nineC 5 fr)) (some ⟨w.heap.size, 0, none⟩) 9 9 nine :=
  BytesAt.of_cells rfl (Nat.le_refl _) (by unfold maxLen; omega) fun i hi => by
    rw [Nat.zero_add, cell_of_row _ _ i _ _ _ (heap_alloc_new w _), ← Array.getElem?_toList, show nineC.toList = vals nine by rfl, vals_at _ _ (by exact hi)]

theorem nine_sum : sumL nine = 3421780262 := by decide +kernel
theorem none_sum : sumL [] = 0 := by decide +kernel
theorem none_seal : sealL [] = [0, 0, 0, 0] := by decide +kernel
theorem tab_one : steps 8 1 = 1996959894 := by decide +kernel

theorem aw_nine (w : World) : Calls Try.prog 9 #[.slice (some ⟨w.heap.size, 0, none⟩) 9 9] (w.alloc (.cells nineC 5 (9, 10))) fun e w' => e = .returned (.int .u32 3421780262) ∧ Below w.heap.size w w' := by
  have h := sum_any _ _ _ _ _ (nine_at w (9, 10))
  rw [nine_sum] at h
  exact h.mono fun _ _ ⟨he, hb⟩ => ⟨he, ((Below.refl _ _).alloc (Nat.le_refl _) _).trans (hb.mono (by simp))⟩
theorem aw_none (w : World) : Calls Try.prog 9 #[.slice none 0 0] w fun e w' => e = .returned (.int .u32 0) ∧ Below w.heap.size w w' := by
  have h := sum_any _ _ _ _ _ (BytesAt.nil w)
  rw [none_sum] at h
  exact h
theorem aw_seal (w : World) : Calls Try.prog 14 #[.slice none 0 0] w (ReadB id 4 [0, 0, 0, 0] w) := by
  have h := seal_any _ _ _ _ _ (BytesAt.nil w) (by omega)
  rw [none_seal] at h
  exact readB_of h

set_option maxHeartbeats 1000000 in
set_option maxRecDepth 100000 in
theorem awake02 (w : World) : Calls Try.prog 13 #[] w fun e w' => e = .returned (.bool true) ∧ Below w.heap.size w w' := by
  have hz := (zero_of_info infoTab).1
  rw [← tabC_zero] at hz
  go_enter Try.func13, Try.ntmps13
  go_upto_region 2 with (first
    | (go_at_call 8; refine (table_any _).mono ?_; rintro e w1 ⟨rfl, hb1⟩)
    | (refine wpList_store_row rfl _ _ _ rfl w1.heap.size (tabC 256) rfl rfl 25 (tabC 0) (heap_alloc_new w1 _) (by rw [tabC_size]; exact sizeTab) (by simp only [tabC_size]) (tabC_one _) ?_))
  have hall : Below w.heap.size w ((w1.alloc (.cells (tabC 0) 25)).setRow w1.heap.size (tabC 256)) :=
    below_setRow (hb1.alloc hb1.size _) hb1.size _
  have htab := heap_setRow_same (w1.alloc (.cells (tabC 0) 25)) w1.heap.size (tabC 256) _ _ (heap_alloc_new w1 _)
  have hlt : w1.heap.size < ((w1.alloc (.cells (tabC 0) 25)).setRow w1.heap.size (tabC 256)).heap.size := by simp
  have HA := Lib.hid hall
  have HT := Lib.hid htab
  clear hall htab
  generalize (w1.alloc (.cells (tabC 0) 25)).setRow w1.heap.size (tabC 256) = w2 at *
  have hcs := Lib.run_convert_bytes_const (P := Try.prog) w2 22 5 nineC 9 9 Try.underlying22 Try.underlying5
  unfold nineC at hcs
  go_wp2_with fail
  refine (aw_nine _).mono ?_
  rintro e w3 ⟨rfl, hb3⟩
  go_wp2_with fail
  refine (aw_none _).mono ?_
  rintro e w4 ⟨rfl, hb4⟩
  have k4 := hb3.trans (hb4.mono hb3.size)
  have hc1 : w4.cell? ⟨w1.heap.size, 1, none⟩ = some (.int .u32 1996959894) := by
    rw [k4.cell (p := ⟨w1.heap.size, 1, none⟩) hlt, cell_of_row _ _ _ _ _ _ HT.out, tabC_at _ _ (by omega), if_pos (by omega), tab_one]; rfl
  go_wp2_with fail
  refine (aw_seal _).mono ?_
  rintro e w5 ⟨a5, c5, rfl, hr5, hb5⟩
  have v5 := hr5.conv
  have k5 := HA.out.trans (k4.mono HA.out.size)
  have k6 := k5.trans (hb5.mono k5.size)
  have K6 := Lib.hid k6
  clear k4 k5 k6 hb3 hb4 hb5 hc1 hr5
  go_wp2
  go_ret
  exact ⟨rfl, K6.out⟩

end Go.Proofs.Ytjahiddgighjeaa
