/-
  The sum of any octets, of any that go on, and the table's entries, are the document's (P2.1).
  No condition: every two slices and every octet.
-/
import Derived.Test.YtjahiddgighjeaaAwake02
import Derived.OpenShut
import Derived.ChangeOld
import Derived.Deep.DeepCutAuto
namespace Go.Proofs.Ytjahiddgighjeaa.crcSums
open Go.ChangeShapes Go.WideShapes Go.ChangeAt Go.RowKit
open Go.ChangeMaps (open_string shut_string)
set_option linter.unusedVariables false
set_option linter.unusedSimpArgs false

theorem one_at' (w : World) (x : UInt8) : BytesAt (w.alloc (.cells #[.int .u8 x.toNat] 5)) (some ⟨w.heap.size, 0, none⟩) 1 1 [x] := blk_at w _ _ 1 [x] (by rfl) rfl (by unfold maxLen; omega)

theorem empty_row (B : Nat) (w : World) (h : B ≤ w.heap.size) : (w.alloc (.cells #[] 5)).ownsRow B 5 1 (.slice (some ⟨w.heap.size, 0, none⟩) 0 0) 0 [] :=
  ⟨rfl, .inr ⟨w.heap.size, 0, #[], rfl, h, heap_alloc_new w _, by omega, by unfold maxLen; omega, rfl, rfl⟩⟩

set_option maxRecDepth 100000 in
set_option maxHeartbeats 2000000 in
theorem walk (a : Option Addr) (n cap : Nat) (l : List UInt8) (a2 : Option Addr) (n2 cap2 : Nat) (l2 : List UInt8) (k : Int) (w : World) (hl : BytesAt w a n cap l) (hl2 : BytesAt w a2 n2 cap2 l2) (hk : (Lit.int .u8 k).wf = true) :
    Calls Try.prog 3 #[.slice a n cap, .slice a2 n2 cap2, .int .u8 k] w fun e w' => e = .returned (.bool true) ∧ Below w.heap.size w w' := by
  have hz := (zero_of_info infoTab).1
  rw [← tabC_zero] at hz
  have HL := Lib.hid hl
  have HL2 := Lib.hid hl2
  have HB := Lib.hid (hl.head (m := min n 500) (by omega))
  have HC := Lib.hid (hl2.head (m := min n2 500) (by omega))
  have hn : min n 500 ≤ 500 := by omega
  have hn2 : min n2 500 ≤ 500 := by omega
  clear hl hl2
  go_enter Try.func3, Try.ntmps3
  go_upto_region 2 with (first
    | (go_at_call 7; refine (few_any a n cap l _ HL.out).mono ?_; rintro e w1 ⟨rfl, rfl⟩)
    | (go_at_call 7; refine (few_any a2 n2 cap2 l2 _ HL2.out).mono ?_; rintro e w1 ⟨rfl, rfl⟩))
  generalize l.take (min n 500) = b at *
  generalize l2.take (min n2 500) = c at *
  generalize min n 500 = m at *
  generalize min n2 500 = m2 at *
  go_upto_region 3 with (first
    | (go_at_call 8; refine (table_any _).mono ?_; rintro e w1 ⟨rfl, hb1⟩)
    | (refine wpList_store_row rfl _ _ _ rfl w1.heap.size (tabC 256) rfl rfl 25 (tabC 0) (heap_alloc_new w1 _) (by rw [tabC_size]; exact sizeTab) (by simp only [tabC_size]) (tabC_one _) ?_))
  have hall : Below w.heap.size w ((w1.alloc (.cells (tabC 0) 25)).setRow w1.heap.size (tabC 256)) :=
    below_setRow (hb1.alloc hb1.size _) hb1.size _
  have htab := heap_setRow_same (w1.alloc (.cells (tabC 0) 25)) w1.heap.size (tabC 256) _ _ (heap_alloc_new w1 _)
  have hlt : w1.heap.size < ((w1.alloc (.cells (tabC 0) 25)).setRow w1.heap.size (tabC 256)).heap.size := by simp
  have HA := Lib.hid hall
  have HT := Lib.hid htab
  clear hall htab
  generalize (w1.alloc (.cells (tabC 0) 25)).setRow w1.heap.size (tabC 256) = w2 at *
  have HE := Lib.hid (empty_row w2.heap.size w2 (Nat.le_refl _))
  have HBE := Lib.hid ((Below.refl w2.heap.size w2).alloc (Nat.le_refl _) (.cells #[] 5))
  have HB2 := Lib.hid (HB.out.below HA.out)
  have HC2 := Lib.hid (HC.out.below HA.out)
  go_upto_region 4 with (first
    | (at_builtin; refine wpList_append_bytes rfl (.tmp 14) (.tmp 15) rfl w2.heap.size (.slice (some ⟨w2.heap.size, 0, none⟩) 0 0) 0 [] rfl HE.out a m cap b rfl (HB2.out.below HBE.out) m (by omega) (by omega) HBE.out.size ?_; intro a3 cap3 w3 ho3 hg3; have hb3 := HBE.out.grown hg3 HBE.out.size (fun k hk => by cases hk; exact Nat.le_refl _))
    | (at_builtin; refine wpList_append_bytes rfl (.tmp 16) (.tmp 17) rfl w2.heap.size (.slice a3 m cap3) m _ rfl ho3 a2 m2 cap2 c rfl (HC2.out.below hb3) (m + m2) (by omega) (by omega) hb3.size ?_; intro a4 cap4 w4 ho4 hg4))
  have hb4 : Below w2.heap.size w2 w4 := hb3.grown hg4 hb3.size (fun k hk => (ho3.lt k hk).1)
  have HB4 := Lib.hid (HB2.out.below hb4)
  have HC4 := Lib.hid (HC2.out.below hb4)
  rw [List.nil_append, show vals b ++ vals c = vals (b ++ c) by simp [vals]] at ho4
  have HD4 := Lib.hid (BytesAt.owned ho4)
  have htab4 : w4.heap[w1.heap.size]? = some (.cells (tabC 256) 25 (0, 0)) := by rw [hb4.block _ hlt]; exact HT.out
  have HT4 := Lib.hid htab4
  have hlt4 : w1.heap.size < w4.heap.size := Nat.lt_of_lt_of_le hlt hb4.size
  have HA4 := Lib.hid (HA.out.trans (hb4.mono HA.out.size))
  have hA4s := HA4.out.size
  clear htab4 ho4 hg4 ho3 hg3 hb3 hb4 HB2 HC2 HBE HE HT HA HB HC HL HL2 hlt
  have CB := Lib.hid (fun u (h : Below w4.heap.size w4 u) => (sum_any a m cap b u (HB4.out.below h)).mono (fun e w' ⟨h1, h2⟩ => (show e = _ ∧ Below w4.heap.size w4 w' from ⟨h1, h.trans (h2.mono h.size)⟩)))
  have CR := Lib.hid (fun u (h : Below w4.heap.size w4 u) => rsum_any a m cap b u (HB4.out.below h))
  have CM := Lib.hid (fun u (h : Below w4.heap.size w4 u) => (more_any (sumL b) a2 m2 cap2 c u (sumL_lt b) (HC4.out.below h)).mono (fun e w' ⟨h1, h2⟩ => (show e = _ ∧ Below w4.heap.size w4 w' from ⟨h1, h.trans (h2.mono h.size)⟩)))
  have CD := Lib.hid (fun u (h : Below w4.heap.size w4 u) => rsum_any a4 (m + m2) cap4 (b ++ c) u (HD4.out.below h))
  have CA := Lib.hid (fun u (h : Below w4.heap.size w4 u) => (awake02 u).mono (fun e w' ⟨h1, h2⟩ => (show e = _ ∧ Below w4.heap.size w4 w' from ⟨h1, h.trans (h2.mono h.size)⟩)))
  rw [moreL_sum] at CM
  have h0 : Below w4.heap.size w4 w4.drew := below_drewN (Below.refl _ _) 1
  obtain ⟨kk, rfl, hkk⟩ : ∃ kk : UInt8, k = kk.toNat ∧ kk.toNat < 256 := by
    refine ⟨UInt8.ofNat k.toNat, ?_, UInt8.toNat_lt _⟩
    simp [Lit.wf, IntKind.min, IntKind.max, IntKind.signed, IntKind.bits] at hk
    simp; omega
  have CG := Lib.hid (fun (u : World) (h : Below w4.heap.size w4 u) => rgo_any 0 (some ⟨u.heap.size, 0, none⟩) 1 1 [kk] (u.alloc (.cells #[.int .u8 kk.toNat] 5)) (by omega) (one_at' u kk))
  have HG : goL 0 [kk] = steps 8 kk.toNat := by rw [goL_cons, goL_nil, Nat.zero_xor]
  rw [HG] at CG
  have HCELL := Lib.hid (fun (u : World) (h : Below w4.heap.size w4 u) => (show u.cell? ⟨w1.heap.size, kk.toNat, none⟩ = some (.int .u32 (steps 8 kk.toNat : Nat)) from by
    rw [h.cell (p := ⟨w1.heap.size, kk.toNat, none⟩) hlt4, cell_of_row _ _ _ _ _ _ HT4.out, tabC_at _ _ hkk, if_pos hkk]))
  have hki : (kk.toNat : Int) < 256 := by omega
  clear hk HG
  go_region_law (first
    | (go_simp; go_at_call 10; first | (refine (CR.out _ (by assumption)).mono ?_; rintro e u ⟨rfl, rfl⟩) | (refine (CD.out _ (by assumption)).mono ?_; rintro e u ⟨rfl, rfl⟩))
    | (go_simp; go_at_call 9; refine (CB.out _ (by assumption)).mono ?_; rintro e u ⟨rfl, hu⟩)
    | (go_simp; go_at_call 11; refine (CM.out _ (by assumption)).mono ?_; rintro e u3 ⟨rfl, hu3⟩; have hcell := HCELL.out _ hu3; have hlt3 : w1.heap.size < u3.heap.size := Nat.lt_of_lt_of_le hlt4 hu3.size)
    | (go_simp; go_at_call 12; refine (CG.out _ (by assumption)).mono ?_; rintro e u ⟨rfl, rfl⟩)
    | (go_simp; go_at_call 13; refine (CA.out _ (by first | assumption | (exact hu3.alloc hu3.size _))).mono ?_; rintro e u ⟨rfl, hu5⟩))
  all_goals
    go_wp2
    go_ret
    exact ⟨rfl, HA4.out.trans (hu5.mono hA4s)⟩

theorem own : ownKnob Try.prog.godebug = none := by kernel_rfl
theorem laidOut : laidOutB Try.prog = true := by kernel_rfl

set_option maxRecDepth 100000 in
theorem lifted (os : Os) (started : os.Started) (H : Type) (enc : TypeId × Value → H) :
    ReturnsInHanded {} Try.checked os 3 .any (Rows.crcSumsSpec.pre6 enc Try.prog Try.f3 Rows.crcSumsRow.domain false) (Rows.crcSumsSpec.post enc Try.prog Try.f3 false true false false) := by
  refine returnsInHanded_of_change (C := Try.checked) own started (by kernel_rfl) Try.func3
    (ChangeSpec.witness6 (enc := enc) (C := Try.checked) false ⟨#[], #[.slice none 0 0, .slice none 0 0, .int .u8 0], []⟩ 8 (by kernel_rfl) (by kernel_rfl) (by kernel_rfl) (by kernel_rfl)) ?_
  intro W base args ds gs before hval0 hW hcnd _
  have hval : ∀ (j : Nat) t v, Try.f3.params[j]? = some t → args[j]? = some v → Value.okWide Try.prog W .any base t v := hval0
  have hW' := hW
  obtain ⟨p, q, hA0, hV, rfl, hfz, hnd⟩ := hW
  have hA : DataW.TrodAll enc Try.prog W 0 (fun _ => true) true Try.f3.params.toList args.toList ds p := hA0
  rw [Try.params3] at hA hval
  obtain ⟨v0, vs0, d0, ds0, p0, q0, hargs, rfl, rfl, h0, r0⟩ := trodAll_cons hA
  obtain ⟨v1, vs1, d1, ds1, p1, q1, rfl, rfl, rfl, h1, r1⟩ := trodAll_cons r0
  obtain ⟨v2, vs2, d2, ds2, p2, q2, rfl, rfl, rfl, h2, r2⟩ := trodAll_cons r1
  obtain ⟨rfl, rfl, rfl⟩ := trodAll_nil r2
  obtain rfl : args = #[v0, v1, v2] := by cases args; simp_all
  obtain ⟨rfl, rfl⟩ := trodVars_none hV
  have k0 := h0
  have lt0 : ∀ x ∈ p0, x.block < W.heap.size := by obtain ⟨m, hm⟩ := k0; exact DataW.trod_lt m _ _ _ hm
  obtain ⟨a0, len0, cap0, rfl⟩ := okWide_slice Try.underlying22 (hval 0 22 v0 rfl rfl)
  obtain ⟨l0, w0⟩ : ∃ l, BytesAt W a0 len0 cap0 l := by
    obtain ⟨fuel, hf⟩ := h0
    rcases open_ints Try.underlying22 Try.underlying5 (by kernel_rfl) hf with ⟨hcs, _⟩ | ⟨x, l, c, zs, hcs, _, hl, hm, hz, _, hcell, hwz⟩
    · simp [Value.cells] at hcs
      obtain ⟨rfl, rfl, rfl⟩ := hcs
      exact ⟨[], BytesAt.nil W⟩
    · simp [Value.cells] at hcs
      obtain ⟨rfl, rfl, rfl⟩ := hcs
      exact ⟨_, BytesAt.of_row hl hm (by simpa using hz) hcell hwz⟩
  have k1 := h1
  have lt1 : ∀ x ∈ p1, x.block < W.heap.size := by obtain ⟨m, hm⟩ := k1; exact DataW.trod_lt m _ _ _ hm
  obtain ⟨a1, len1, cap1, rfl⟩ := okWide_slice Try.underlying22 (hval 1 22 v1 rfl rfl)
  obtain ⟨l1, w1⟩ : ∃ l, BytesAt W a1 len1 cap1 l := by
    obtain ⟨fuel, hf⟩ := h1
    rcases open_ints Try.underlying22 Try.underlying5 (by kernel_rfl) hf with ⟨hcs, _⟩ | ⟨x, l, c, zs, hcs, _, hl, hm, hz, _, hcell, hwz⟩
    · simp [Value.cells] at hcs
      obtain ⟨rfl, rfl, rfl⟩ := hcs
      exact ⟨[], BytesAt.nil W⟩
    · simp [Value.cells] at hcs
      obtain ⟨rfl, rfl, rfl⟩ := hcs
      exact ⟨_, BytesAt.of_row hl hm (by simpa using hz) hcell hwz⟩
  obtain ⟨a2, rfl, rfl, rfl, w2⟩ := open_int Try.underlying5 (hval 2 5 v2 rfl rfl) h2
  clear hA0 hval0
  refine (walk a0 len0 cap0 l0 a1 len1 cap1 l1 a2 W w0 w1 w2).mono fun e W' ⟨he, bel⟩ => ?_
  subst he
  exact ⟨_, rfl, _, _, _, [], _, [], hW', trodAll_mk1 (shut_bool Try.underlying4 _), (trodAll_cons_mk (Below.trod laidOut (by kernel_rfl) (of_decide_eq_true (by kernel_rfl)) k0 bel lt0) (trodAll_cons_mk (Below.trod laidOut (by kernel_rfl) (of_decide_eq_true (by kernel_rfl)) k1 bel lt1) (trodAll_cons_mk (shut_int Try.underlying5 w2) trodAll_mk0))), rfl, bel.frame _, fun h => by cases h⟩

theorem proved : Rows.CrcSumsSaid :=
  OpenClaim.holds_of_wide 3 Try.f3 rfl rfl rfl rfl rfl rfl rfl ⟨rfl, rfl, rfl, rfl, rfl⟩ rfl rfl rfl rfl rfl (by kernel_rfl) Try.func3 (by kernel_rfl)
    (of_decide_eq_true (by kernel_rfl)) (by unfold Func.isWrapper; first | (rw [if_pos (by decide +kernel)]; kernel_rfl) | (rw [if_neg (by decide +kernel)]; exact ⟨rfl, rfl⟩))
    (fun os started H enc _ => lifted os started H enc)
end Go.Proofs.Ytjahiddgighjeaa.crcSums
