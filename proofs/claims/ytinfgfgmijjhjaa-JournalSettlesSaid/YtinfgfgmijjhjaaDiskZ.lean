/-
  The disk's contracts where the sector's number comes as an integer; a disk under way.
-/
import Derived.Test.YtinfgfgmijjhjaaAwake03
namespace Go.Proofs.Ytinfgfgmijjhjaa
open Go.RowKit
set_option linter.unusedVariables false
set_option linter.unusedSimpArgs false

theorem write_yesZ (g : Nat) (z : Int) (D : Dk) (S : Nat → Prop) (a : Option Addr) (cap : Nat) (l : List UInt8) (w : World) (h : DiskAt w S g D) (h0 : 0 ≤ z) (hi : z < D.secs.length) (hc : D.can = true) (hf : D.waits.length < 1073741824)
    (hl : BytesAt w a 128 cap l) (hS : ∀ p, a = some p → ¬ S p.block) :
    Calls Try.prog 25 #[.pointer (some ⟨g, 0, none⟩), .int .i64 z, .slice a 128 cap] w (DiskTo (.int .i64 0) S g (D.put z.toNat l) w) := by
  obtain ⟨i, rfl⟩ := Int.eq_ofNat_of_zero_le h0
  exact write_yes g i D S a cap l w h (by omega) hc hf hl hS
theorem write_offZ (g : Nat) (z : Int) (D : Dk) (S : Nat → Prop) (a : Option Addr) (cap : Nat) (w : World) (h : DiskAt w S g D) (h0 : 0 ≤ z) (hi : z < D.secs.length) (hc : D.can = false) :
    Calls Try.prog 25 #[.pointer (some ⟨g, 0, none⟩), .int .i64 z, .slice a 128 cap] w (DiskTo (.int .i64 10) S g D.off w) := by
  obtain ⟨i, rfl⟩ := Int.eq_ofNat_of_zero_le h0
  exact write_off g i D S a cap w h (by omega) hc
theorem read_yesZ (g : Nat) (z : Int) (D : Dk) (S : Nat → Prop) (w : World) (h : DiskAt w S g D) (h0 : 0 ≤ z) (hi : z < D.secs.length) (hp : D.power = true) :
    Calls Try.prog 32 #[.pointer (some ⟨g, 0, none⟩), .int .i64 z] w (ReadN (fun v => .tuple #[v, .int .i64 0]) 128 (D.content z.toNat) w) := by
  obtain ⟨i, rfl⟩ := Int.eq_ofNat_of_zero_le h0
  exact read_yes g i D S w h (by omega) hp

end Go.Proofs.Ytinfgfgmijjhjaa
