/-
  In whatever pieces octets come, the sum that goes on is that of all (P2.3).
  No condition: every slice of slices.
-/
import Derived.Test.YtjahiddgighjeaaAwake02
import Derived.Test.YtjahiddgighjeaaRowsAt
import Derived.Deep.DeepCutAuto
namespace Go.Proofs.Ytjahiddgighjeaa.crcPieces
open Go.ChangeShapes Go.WideShapes Go.ChangeAt Go.RowKit
set_option linter.unusedVariables false
set_option linter.unusedSimpArgs false

set_option maxRecDepth 100000 in
set_option maxHeartbeats 2000000 in
theorem walk (a : Option Addr) (n cap : Nat) (R : Nat → Option Addr × Nat × Nat) (L : Nat → List UInt8) (w : World) (hr : RowsAt w a n cap R L) :
    Calls Try.prog 5 #[.slice a n cap] w fun e w' => e = .returned (.bool true) ∧ Below w.heap.size w w' := by
  have HR := Lib.hid hr
  have hn : n ≤ 9223372036854775807 := by have h1 := hr.1; have h2 := hr.2.1; unfold maxLen at h2; omega
  clear hr
  go_enter Try.func5, Try.ntmps5
  go_wp2
  go_loopw [3, 4, 5] (fun s3 s4 s5 wx => ∃ (i : Nat) (acc : List UInt8) (a' : Option Addr) (N cap' : Nat), i ≤ n ∧ i ≤ 20 ∧ s5 = .int .i64 i ∧ s3 = .int .u32 (sumL acc : Nat) ∧ s4 = .slice a' N cap' ∧ N ≤ 500 * i ∧ wx.ownsRow w.heap.size 5 1 (.slice a' N cap') N (vals acc) ∧ Below w.heap.size w wx) (fun _ _ s5 _ => 20 - (intOf s5).toNat)
  case atStart => exact ⟨0, [], none, 0, 0, by omega, by omega, rfl, by rw [none_sum]; rfl, rfl, by omega, World.ownsRow_nil _ _ _ _, Below.refl _ _⟩
  case round =>
    obtain ⟨i, acc, a', N, cap', hin, hi20, rfl, rfl, rfl, hN, ho, hb⟩ := hrel
    have HO := Lib.hid ho
    have HB := Lib.hid hb
    have hbs := hb.size
    clear ho hb
    have hlen : acc.length = N := by have := HO.out.1; simpa [vals_length] using this
    by_cases h12 : i < n ∧ i < 20
    · obtain ⟨h1, h2⟩ := h12
      obtain ⟨pa, pn, pc, hRi⟩ : ∃ pa pn pc, R i = (pa, pn, pc) := ⟨_, _, _, rfl⟩
      obtain ⟨bb, off, rfl, hc⟩ := HR.out.at (by omega)
      have hci := hc i h1
      rw [hRi] at hci
      simp only at hci
      clear hc
      have hp := (HR.out.2.2 i h1).2
      rw [hRi] at hp
      simp only at hp
      clear hRi
      generalize L i = q at *
      have HP := Lib.hid hp
      have CF := Lib.hid (fun u (h : Below w.heap.size w u) => few_any pa pn pc q u (HP.out.below h))
      have HT := Lib.hid (hp.head (m := min pn 500) (by omega))
      have htl := HT.out.1
      have hm : min pn 500 ≤ 500 := by omega
      clear hp HP
      generalize q.take (min pn 500) = t at *
      generalize min pn 500 = m at *
      have CM := Lib.hid (more_any (sumL acc) pa m pc t wr (sumL_lt acc) (HT.out.below HB.out))
      rw [moreL_sum] at CM
      have hbb : bb < w.heap.size := by have := World.block_lt_of_cell? w _ hci; exact this
      have hci1 : wr.cell? ⟨bb, off + i, none⟩ = some (.slice pa pn pc) := (HB.out.cell (p := ⟨bb, off + i, none⟩) hbb).trans hci
      have HTL := Lib.hid htl
      have HLEN := Lib.hid hlen
      clear htl hlen
      go_wp2_with (first
        | (go_at_call 7; first | (refine (CF.out _ hb1).mono ?_; rintro e u ⟨rfl, rfl⟩) | (refine (CF.out _ HB.out).mono ?_; rintro e u ⟨rfl, rfl⟩))
        | (go_at_call 11; refine (CM.out).mono ?_; rintro e w1 ⟨rfl, hx1⟩; have ho1 := owned_below HO.out hx1; have hb1 := HB.out.trans (hx1.mono hbs); have hci2 : w1.cell? ⟨bb, off + i, none⟩ = some (.slice pa pn pc) := (hb1.cell (p := ⟨bb, off + i, none⟩) hbb).trans hci)
        | (at_builtin; refine wpList_append_bytes rfl (.tmp 23) (.tmp 28) rfl w.heap.size (.slice a' N cap') N (vals acc) rfl ho1 pa m pc t rfl (HT.out.below hb1) (N + m) rfl (by omega) hb1.size ?_; intro a4 cap4 w4 ho4 hg4))
      go_roundw
      case rel =>
        refine ⟨i + 1, acc ++ t, a4, N + m, cap4, by omega, by omega, by go_num, rfl, rfl, by omega, ?_, hb1.grown hg4 hb1.size (fun k hk => (ho1.lt k hk).1)⟩
        simpa [vals] using ho4
      case measure => simp [intOf]; omega
    · have hx : ¬ i < n ∨ (i < n ∧ ¬ i < 20) := by omega
      clear h12
      have CS := Lib.hid (sum_any a' N cap' acc wr (BytesAt.owned HO.out))
      clear hlen
      rcases hx with hx | ⟨hx, hy⟩
      all_goals
        go_wp2_with (first
          | (go_at_call 9; refine (CS.out).mono ?_; rintro e w1 ⟨rfl, hx1⟩)
          | (go_at_call 13; refine (awake02 _).mono ?_; rintro e w2 ⟨rfl, hx2⟩))
        go_ret
        exact ⟨rfl, HB.out.trans ((hx1.trans (hx2.mono hx1.size)).mono hbs)⟩

theorem own : ownKnob Try.prog.godebug = none := by kernel_rfl
theorem laidOut : laidOutB Try.prog = true := by kernel_rfl

set_option maxRecDepth 100000 in
theorem lifted (os : Os) (started : os.Started) (H : Type) (enc : TypeId × Value → H) :
    ReturnsInHanded {} Try.checked os 5 .any (Rows.crcPiecesSpec.pre6 enc Try.prog Try.f5 Rows.crcPiecesRow.domain false) (Rows.crcPiecesSpec.post enc Try.prog Try.f5 false true false false) := by
  refine returnsInHanded_of_change (C := Try.checked) own started (by kernel_rfl) Try.func5
    (ChangeSpec.witness6 (enc := enc) (C := Try.checked) false ⟨#[], #[.slice none 0 0], []⟩ 8 (by kernel_rfl) (by kernel_rfl) (by kernel_rfl) (by kernel_rfl)) ?_
  intro W base args ds gs before hval0 hW hcnd _
  have hval : ∀ (j : Nat) t v, Try.f5.params[j]? = some t → args[j]? = some v → Value.okWide Try.prog W .any base t v := hval0
  have hW' := hW
  obtain ⟨p, q, hA0, hV, rfl, hfz, hnd⟩ := hW
  have hA : DataW.TrodAll enc Try.prog W 0 (fun _ => true) true Try.f5.params.toList args.toList ds p := hA0
  rw [Try.params5] at hA hval
  obtain ⟨v0, vs0, d0, ds0, p0, q0, hargs, rfl, rfl, h0, r0⟩ := trodAll_cons hA
  obtain ⟨rfl, rfl, rfl⟩ := trodAll_nil r0
  obtain rfl : args = #[v0] := by cases args; simp_all
  obtain ⟨rfl, rfl⟩ := trodVars_none hV
  have k0 := h0
  have lt0 : ∀ x ∈ p0, x.block < W.heap.size := by obtain ⟨m, hm⟩ := k0; exact DataW.trod_lt m _ _ _ hm
  clear hA0 hval0
  obtain ⟨a0, len0, cap0, rfl⟩ := okWide_slice Try.underlying36 (hval 0 36 v0 rfl rfl)
  obtain ⟨A0, n0, c0, R0, L0, hcs0, hr0⟩ := open_rows h0
  simp [Value.cells] at hcs0
  obtain ⟨rfl, rfl, rfl⟩ := hcs0
  refine (walk _ _ _ R0 L0 W hr0).mono fun e W' ⟨he, bel⟩ => ?_
  subst he
  exact ⟨_, rfl, _, _, _, [], _, [], hW', trodAll_mk1 (shut_bool Try.underlying4 _), (trodAll_cons_mk (Below.trod laidOut (by kernel_rfl) (of_decide_eq_true (by kernel_rfl)) k0 bel lt0) trodAll_mk0), rfl, bel.frame _, fun h => by cases h⟩

theorem proved : Rows.CrcPiecesSaid :=
  OpenClaim.holds_of_wide 5 Try.f5 rfl rfl rfl rfl rfl rfl rfl ⟨rfl, rfl, rfl, rfl, rfl⟩ rfl rfl rfl rfl rfl (by kernel_rfl) Try.func5 (by kernel_rfl)
    (of_decide_eq_true (by kernel_rfl)) (by unfold Func.isWrapper; first | (rw [if_pos (by decide +kernel)]; kernel_rfl) | (rw [if_neg (by decide +kernel)]; exact ⟨rfl, rfl⟩))
    (fun os started H enc _ => lifted os started H enc)
end Go.Proofs.Ytjahiddgighjeaa.crcPieces
