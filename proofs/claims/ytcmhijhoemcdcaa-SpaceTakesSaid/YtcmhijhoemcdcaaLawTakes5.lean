/-
  Taken in two goes the pages are those that one go takes, the first ones ahead (P5.2).
  No condition: every space and every two numbers.
-/
import Derived.Test.YtcmhijhoemcdcaaSpL
import Derived.Deep.DeepCutAuto
namespace Go.Proofs.Ytcmhijhoemcdcaa.spaceTakes
open Go.ChangeShapes Go.WideShapes Go.ChangeAt Go.RowKit
set_option linter.unusedVariables false
set_option linter.unusedSimpArgs false

theorem markF_app (F : List Bool) (P Q : List Nat) : markF (markF F P) Q = markF F (P ++ Q) := by simp [markF, List.foldl_append]
theorem takeR_err (F : List Bool) (k : Nat) : ((takeR F k).2.2 = 0 ↔ k ≤ (frees F).length) ∧ (k ≤ (frees F).length → takeR F k = (markF F ((frees F).take k), (frees F).take k, 0)) := by
  unfold takeR
  rw [if_neg (by omega), Int.toNat_natCast]
  by_cases h : ((frees F).length : Int) < (k : Int)
  · rw [if_pos h]
    exact ⟨⟨fun h' => absurd h' (by decide), fun h' => by omega⟩, fun h' => by omega⟩
  · rw [if_neg h]
    exact ⟨⟨fun _ => by omega, fun _ => rfl⟩, fun _ => rfl⟩
/-- two goes, and one -/
theorem two_goes (N : Int) (l : List UInt8) (k n : Nat) :
    ((takeU N l k).2.2 ≠ 0 ∨ (takeR (takeU N l k).1 n).2.2 ≠ 0 → (takeU N l k).2.2 ≠ 0 ∨ (takeU N l ((k : Int) + (n : Int))).2.2 ≠ 0) ∧
    ((takeU N l k).2.2 = 0 → (takeR (takeU N l k).1 n).2.2 = 0 → (takeU N l ((k : Int) + (n : Int))).2.2 = 0 ∧ (takeU N l ((k : Int) + (n : Int))).2.1 = (takeU N l k).2.1 ++ (takeR (takeU N l k).1 n).2.1 ∧
      (takeU N l ((k : Int) + (n : Int))).1 = (takeR (takeU N l k).1 n).1) := by
  unfold takeU
  cases mayS N l with
  | false => exact ⟨fun _ => .inl (by simp), fun h => absurd h (by simp)⟩
  | true =>
    simp only [if_true]
    generalize flagsL N.toNat l = F
    rw [show (k : Int) + (n : Int) = ((k + n : Nat) : Int) by omega]
    obtain ⟨a1, a2⟩ := takeR_err F k
    obtain ⟨c1, c2⟩ := takeR_err F (k + n)
    by_cases hk : k ≤ (frees F).length
    · rw [a2 hk]
      simp only
      obtain ⟨b1, b2⟩ := takeR_err (markF F ((frees F).take k)) n
      rw [frees_rest, List.length_drop] at b1 b2
      by_cases hn : n ≤ (frees F).length - k
      · rw [b2 hn, c2 (by omega)]
        simp only
        refine ⟨fun h => by simp at h, fun _ _ => ⟨trivial, ?_, ?_⟩⟩
        · rw [List.take_add]
        · rw [markF_app, List.take_add]
      · refine ⟨fun _ => .inr fun h => ?_, fun _ h => ?_⟩
        · have := c1.1 h; omega
        · have := b1.1 h; omega
    · exact ⟨fun _ => .inl fun h => hk (a1.1 h), fun h => absurd (a1.1 h) hk⟩

theorem takeR_pages (F : List Bool) (k : Int) : (takeR F k).2.1.length ≤ F.length := by
  unfold takeR
  split
  · simp
  · split
    · simp
    · have := frees_count F; simp only [List.length_take]; omega
theorem takeU_pages (N : Int) (l : List UInt8) (k : Int) : (takeU N l k).2.1.length ≤ 2048 := by
  unfold takeU
  cases h : mayS N l with
  | false => simp
  | true =>
    rw [if_pos rfl]
    have := takeR_pages (flagsL N.toNat l) k
    have h2 := may_len2 h
    have h3 : (flagsL N.toNat l).length = N.toNat := by simp [flagsL]
    omega
theorem zvals_app (A B : List Nat) : [] ++ zvals (A.map Int.ofNat) ++ zvals (B.map Int.ofNat) = zvals ((A ++ B).map Int.ofNat) := by simp [zvals]

set_option maxRecDepth 100000 in
set_option maxHeartbeats 4000000 in
theorem core (N : Int) (a : Option Addr) (n cap : Nat) (l : List UInt8) (k1 k2 : Nat) (w : World) (hl : BytesAt w a n cap l) (hk1 : k1 < 256) (hk2 : k2 < 256) :
    Calls Try.prog 6 #[.agg #[.int .i64 N, .slice a n cap], .int .u8 k1, .int .u8 k2] w fun e w' => e = .returned (.bool true) ∧ Below w.heap.size w w' := by
  have hb0 : Below w.heap.size w (w.alloc (.cells #[.int .i64 N, .slice a n cap] 24)) := (Below.refl _ _).alloc (Nat.le_refl _) _
  have CF := Lib.hid (few_gen (N := N) (hl.below hb0))
  have HL := Lib.hid (hl.head (m := min n 258) (by omega))
  have hn2 : min n 258 ≤ 258 := by omega
  generalize l.take (min n 258) = L at *
  generalize min n 258 = m at *
  clear hl
  go_enter Try.func6, Try.ntmps6
  go_wp2_with fail
  refine (CF.out).mono ?_
  rintro e w1 ⟨rfl, hb1⟩
  have xs1 : w1.heap[w.heap.size]? = some (.cells (spV N a n cap) 24 (0, 0)) := box_keep hb1
  have b01 : Below w.heap.size w w1 := box_low hb1
  go_upto_region 2 with (refine wpList_store_row rfl _ _ _ rfl w.heap.size (spV N a m cap) rfl rfl 24 _ xs1 sizeSp rfl (spV_one _ _ _ _) ?_)
  have xs2 := heap_setRow_same w1 w.heap.size (spV N a m cap) _ _ xs1
  have b02 : Below w.heap.size w (w1.setRow w.heap.size (spV N a m cap)) := below_setRow b01 (Nat.le_refl _) _
  clear CF hb1 xs1 b01 hb0
  generalize w1.setRow w.heap.size (spV N a m cap) = w2 at *
  have HL2 := Lib.hid (HL.out.below b02)
  have B02 := Lib.hid b02
  have XS2 := Lib.hid xs2
  obtain ⟨c0, c1⟩ := sp_cells xs2
  have hs2 : w.heap.size < w2.heap.size := (Array.getElem?_eq_some_iff.1 xs2).1
  clear xs2 b02
  have CA := Lib.hid (take_gen (N := N) HL2.out (k1 : Int))
  have hP1 := takeU_pages N L k1
  go_wp2_with fail
  refine (CA.out).mono ?_
  rintro e w3 ⟨a3, n3, q3, p3, d3, rfl, S3, I3, hb3⟩
  have hk3 : Below w3.heap.size w3 (w3.alloc (.cells #[.int .i64 ((takeU N L k1).1.length : Nat), .slice a3 n3 q3] 24)) := (Below.refl _ _).alloc (Nat.le_refl _) _
  obtain ⟨hm1, hm2⟩ := two_goes N L k1 k2
  have CB := Lib.hid (take_at (S3.below hk3) (k2 : Int))
  have I3' := Lib.hid I3
  have XS3 := Lib.hid ((hb3.block _ hs2).trans XS2.out)
  have B23 := Lib.hid hb3
  have hP2 := takeR_pages (takeU N L k1).1 k2
  have hF1 := S3.len
  have CC0 := fun (u : World) (hu : Below w2.heap.size w2 u) => take_gen (N := N) (HL2.out.below hu) ((k1 : Int) + (k2 : Int))
  generalize takeU N L k1 = r1 at *
  obtain ⟨F1, P1, e1⟩ := r1
  simp only at *
  generalize takeR F1 (k2 : Int) = r2 at *
  obtain ⟨F2, P2, e2⟩ := r2
  simp only at *
  generalize takeU N L ((k1 : Int) + (k2 : Int)) = r3 at *
  obtain ⟨F3, P3, e3⟩ := r3
  simp only at *
  have CC := Lib.hid CC0
  have M1 := Lib.hid hm1
  have M2 := Lib.hid hm2
  clear CC0 hm1 hm2 S3 I3 hb3 hk3 CA
  go_wp2_with fail
  refine (CB.out).mono ?_
  rintro e w4 ⟨a4, n4, q4, p4, d4, rfl, S4, I4, hb4⟩
  have b34 : Below w3.heap.size w3 w4 := box_low hb4
  have xs4 := (b34.block _ (Array.getElem?_eq_some_iff.1 XS3.out).1).trans XS3.out
  obtain ⟨e0_, e1_⟩ := sp_cells xs4
  have b24 : Below w2.heap.size w2 w4 := B23.out.trans (b34.mono B23.out.size)
  have hk4 : Below w4.heap.size w4 (w4.alloc (.cells #[.int .i64 (F2.length : Nat), .slice a4 n4 q4] 24)) := (Below.refl _ _).alloc (Nat.le_refl _) _
  have CD := Lib.hid (CC.out _ (b24.trans (hk4.mono b24.size)))
  have I3b := Lib.hid (CameAt.below I3'.out (by omega) b34)
  have I4' := Lib.hid I4
  have S4' := Lib.hid S4
  have B24 := Lib.hid b24
  have hs4 : w.heap.size < w4.heap.size := (Array.getElem?_eq_some_iff.1 xs4).1
  clear CB hb4 b34 xs4 b24 hk4 S4 I4 B23 XS3 I3' CC c0 c1
  go_wp2_with fail
  refine (CD.out).mono ?_
  rintro e w5 ⟨a5, n5, q5, p5, d5, rfl, S5, I5, hb5⟩
  have b45 : Below w4.heap.size w4 w5 := box_low hb5
  have xb5 : w5.heap[w4.heap.size]? = some (.cells (spV F2.length a4 n4 q4) 24 (0, 0)) := box_keep hb5
  have b25 := B24.out.trans (b45.mono B24.out.size)
  have B25 := Lib.hid (B02.out.trans (b25.mono B02.out.size))
  have I3c := Lib.hid (CameAt.below I3b.out (by omega) b45)
  have I4c := Lib.hid (CameAt.below I4'.out (by omega) b45)
  have S4c := Lib.hid (S4'.out.below b45)
  have I5' := Lib.hid I5
  have S5' := Lib.hid S5
  have XB5 := Lib.hid xb5
  clear CD hb5 b45 xb5 b25 I3b I4' S4' I5 S5 e0_ e1_
  have hk5 : Below w5.heap.size w5 (w5.alloc (.cells #[.int .i64 (F3.length : Nat), .slice a5 n5 q5] 24)) := (Below.refl _ _).alloc (Nat.le_refl _) _
  have CAW := Lib.hid (awake05 (w5.alloc (.cells #[.int .i64 (F3.length : Nat), .slice a5 n5 q5] 24)))
  have K5 := Lib.hid hk5
  clear hk5
  by_cases h1 : e1 = 0
  · subst h1
    by_cases h2 : e2 = 0
    · subst h2
      obtain ⟨rfl, hp3, hf3⟩ := M2.out rfl rfl
      subst hp3 hf3
      clear M1 M2 CAW
      have hbi := build_ints
      have HO6 := Lib.hid (show ((w5.alloc (.cells #[.int .i64 (F3.length : Nat), .slice a5 n5 q5] 24)).alloc (.cells #[] 3)).ownsRow (w5.heap.size + 1) 3 1 (.slice (some ⟨w5.heap.size + 1, 0, none⟩) 0 0) 0 [] from ⟨rfl, .inr ⟨w5.heap.size + 1, 0, #[], rfl, Nat.le_refl _, heap_alloc2_new _ _ _, by omega, by unfold maxLen; omega, rfl, rfl⟩⟩)
      have K6 := Lib.hid (show Below (w5.heap.size + 1) (w5.alloc (.cells #[.int .i64 (F3.length : Nat), .slice a5 n5 q5] 24)) ((w5.alloc (.cells #[.int .i64 (F3.length : Nat), .slice a5 n5 q5] 24)).alloc (.cells #[] 3)) from (Below.refl _ _).alloc (by simp) _)
      have X56 := fun (u : World) (h : Below (w5.heap.size + 1) (w5.alloc (.cells #[.int .i64 (F3.length : Nat), .slice a5 n5 q5] 24)) u) => K5.out.trans (h.mono (by omega))
      have HI6 := Lib.hid (CameAt.below I3c.out (by omega) (X56 _ K6.out))
      have X56' := Lib.hid X56
      have hP1' : P1.length ≤ 2048 := hP1
      have hP2' : P2.length ≤ 2048 := by omega
      clear X56
      go_wp2_with (first
        | (at_builtin; refine wpList_append_intsG (by rfl) (.tmp 64) (.tmp 65) rfl (w5.heap.size + 1) _ 0 [] rfl HO6.out p3 P1.length d3 (P1.map Int.ofNat) rfl HI6.out P1.length (by omega) (by omega) (by simp) ?_; intro a7 c7 w7 ho7 hg7; have K7 := Lib.hid (K6.out.grown hg7 (by simp) (fun k hk => (HO6.out.lt k hk).1)); have hs7 : w5.heap.size + 1 ≤ w7.heap.size := (by have := K7.out.size; simpa using this); have HO7 := Lib.hid ho7; have HI7 := Lib.hid (CameAt.below I4c.out (by omega) (X56'.out _ K7.out)); clear ho7 hg7)
        | (at_builtin; refine wpList_append_intsG (by rfl) (.tmp 66) (.tmp 67) rfl (w5.heap.size + 1) _ P1.length _ rfl HO7.out p4 P2.length d4 (P2.map Int.ofNat) rfl HI7.out (P1.length + P2.length) rfl (by omega) hs7 ?_; intro a8 c8 w8 ho8 hg8))
      have k8 := K7.out.grown hg8 hs7 (fun k hk => (HO7.out.lt k hk).1)
      rw [zvals_app] at ho8
      have b58 := X56'.out _ k8
      have CS := Lib.hid (same_any p5 a8 _ d5 _ c8 _ _ w8 (CameAt.below I5'.out (by omega) b58) (zints_owned ho8))
      have hs8 : w5.heap.size + 1 ≤ w8.heap.size := (by have := k8.size; simpa using this)
      rw [beq_self_eq_true, List.length_append] at CS
      have K8 := Lib.hid k8
      have B58 := Lib.hid b58
      clear ho8 hg8 HO7 HI7 K7 hs7 HO6 HI6 K6 k8 b58 hbi
      go_wp2_with fail
      refine (CS.out).mono ?_
      rintro e w9 ⟨rfl, hb9⟩
      have k9 := K8.out.trans (hb9.mono hs8)
      have b59 := X56'.out _ k9
      have xc9 : w9.heap[w5.heap.size]? = some (.cells (spV F3.length a5 n5 q5) 24 (0, 0)) := (k9.block _ (by omega)).trans (heap_alloc_new w5 _)
      have xb9 := (b59.block _ (Array.getElem?_eq_some_iff.1 XB5.out).1).trans XB5.out
      obtain ⟨c0, c1⟩ := sp_cells xc9
      obtain ⟨d0, d1⟩ := sp_cells xb9
      have CR := Lib.hid (rsame_any F3.length F3.length a4 a5 n4 q4 n5 q5 _ _ w9 (S4c.out.oct.below b59) (S5'.out.oct.below b59))
      rw [decide_eq_true rfl, beq_self_eq_true] at CR
      unfold spV at CR
      have B29 := Lib.hid (B25.out.trans (b59.mono B25.out.size))
      clear CS hb9 k9 b59 xc9 xb9 K8 B58
      go_wp2_with fail
      refine (CR.out).mono ?_
      rintro e w10 ⟨rfl, hb10⟩
      have CAW := Lib.hid (awake05 w10)
      have B20 := Lib.hid (B29.out.trans (hb10.mono B29.out.size))
      clear CR hb10 c0 c1 d0 d1
      go_wp2_with fail
      refine (CAW.out).mono ?_
      rintro e w11 ⟨rfl, hb11⟩
      have B21 := Lib.hid (B20.out.trans (hb11.mono B20.out.size))
      clear CAW hb11
      go_wp2
      go_ret
      exact ⟨rfl, B21.out⟩
    · have h3 : ¬ e3 = 0 := (M1.out (.inr h2)).resolve_left (fun h => h rfl)
      have hne2 : (e2 != 0) = true := by simpa using h2
      have hne3 : (e3 != 0) = true := by simpa using h3
      go_wp2_with fail
      refine (CAW.out).mono ?_
      rintro e w6 ⟨rfl, hb6⟩
      have B26 := Lib.hid (B25.out.trans ((K5.out.trans (hb6.mono (by simp))).mono B25.out.size))
      clear CAW hb6
      go_wp2
      go_ret
      exact ⟨rfl, B26.out⟩
  · have hne1 : (e1 != 0) = true := by simpa using h1
    go_wp2_with fail
    refine (CAW.out).mono ?_
    rintro e w6 ⟨rfl, hb6⟩
    have B26 := Lib.hid (B25.out.trans ((K5.out.trans (hb6.mono (by simp))).mono B25.out.size))
    clear CAW hb6
    go_wp2
    go_ret
    exact ⟨rfl, B26.out⟩

theorem u8_small {a : Int} (h : (Lit.int .u8 a).wf = true) : 0 ≤ a ∧ a < 256 := by
  simp [Lit.wf, IntKind.min, IntKind.max, IntKind.signed, IntKind.bits] at h
  omega
theorem walk (v : Value) {H : Type} {enc : TypeId × Value → H} (d : DataW H) (p : List MemPlace) (a1 a2 : Int) (W : World) {r : Reach} {b0 base : Nat} {sp : Nat → Bool} {held : Bool}
    (hv : Value.okWide Try.prog W r b0 24 v) (h : DataW.Trod enc Try.prog W base sp held 24 v d p) (w1 : (Lit.int .u8 a1).wf = true) (w2 : (Lit.int .u8 a2).wf = true) :
    Calls Try.prog 6 #[v, .int .u8 a1, .int .u8 a2] W fun e w' => e = .returned (.bool true) ∧ Below W.heap.size W w' := by
  obtain ⟨N, a, n, cap, l, rfl, hl⟩ := open_space hv h
  have h1 := u8_small w1
  have h2 := u8_small w2
  obtain ⟨k1, rfl⟩ := Int.eq_ofNat_of_zero_le h1.1
  obtain ⟨k2, rfl⟩ := Int.eq_ofNat_of_zero_le h2.1
  exact core N a n cap l k1 k2 W hl (by omega) (by omega)

theorem own : ownKnob Try.prog.godebug = none := by kernel_rfl
theorem laidOut : laidOutB Try.prog = true := by kernel_rfl

set_option maxRecDepth 100000 in
theorem lifted (os : Os) (started : os.Started) (H : Type) (enc : TypeId × Value → H) :
    ReturnsInHanded {} Try.checked os 6 .any (Rows.spaceTakesSpec.pre6 enc Try.prog Try.f6 Rows.spaceTakesRow.domain false) (Rows.spaceTakesSpec.post enc Try.prog Try.f6 false true false false) := by
  refine returnsInHanded_of_change (C := Try.checked) own started (by kernel_rfl) Try.func6
    (ChangeSpec.witness6 (enc := enc) (C := Try.checked) false ⟨#[], #[.agg #[.int .i64 0, .slice none 0 0], .int .u8 0, .int .u8 0], []⟩ 8 (by kernel_rfl) (by kernel_rfl) (by kernel_rfl) (by kernel_rfl)) ?_
  intro W base args ds gs before hval0 hW hcnd _
  have hval : ∀ (j : Nat) t v, Try.f6.params[j]? = some t → args[j]? = some v → Value.okWide Try.prog W .any base t v := hval0
  have hW' := hW
  obtain ⟨p, q, hA0, hV, rfl, hfz, hnd⟩ := hW
  have hA : DataW.TrodAll enc Try.prog W 0 (fun _ => true) true Try.f6.params.toList args.toList ds p := hA0
  rw [Try.params6] at hA hval
  obtain ⟨v0, vs0, d0, ds0, p0, q0, hargs, rfl, rfl, h0, r0⟩ := trodAll_cons hA
  obtain ⟨v1, vs1, d1, ds1, p1, q1, rfl, rfl, rfl, h1, r1⟩ := trodAll_cons r0
  obtain ⟨v2, vs2, d2, ds2, p2, q2, rfl, rfl, rfl, h2, r2⟩ := trodAll_cons r1
  obtain ⟨rfl, rfl, rfl⟩ := trodAll_nil r2
  obtain rfl : args = #[v0, v1, v2] := by cases args; simp_all
  obtain ⟨rfl, rfl⟩ := trodVars_none hV
  have k0 := h0
  have lt0 : ∀ x ∈ p0, x.block < W.heap.size := by obtain ⟨m, hm⟩ := k0; exact DataW.trod_lt m _ _ _ hm
  obtain ⟨a1, rfl, rfl, rfl, w1⟩ := open_int Try.underlying5 (hval 1 5 v1 rfl rfl) h1
  obtain ⟨a2, rfl, rfl, rfl, w2⟩ := open_int Try.underlying5 (hval 2 5 v2 rfl rfl) h2
  clear hA0 hval0
  refine (walk v0 d0 p0 a1 a2 W (hval 0 24 v0 rfl rfl) k0 w1 w2).mono fun e W' ⟨he, bel⟩ => ?_
  subst he
  exact ⟨_, rfl, _, _, _, [], _, [], hW', trodAll_mk1 (shut_bool Try.underlying4 _), (trodAll_cons_mk (Below.trod laidOut (by kernel_rfl) (of_decide_eq_true (by kernel_rfl)) k0 bel lt0) (trodAll_cons_mk (shut_int Try.underlying5 w1) (trodAll_cons_mk (shut_int Try.underlying5 w2) trodAll_mk0))), rfl, bel.frame _, fun h => by cases h⟩

theorem proved : Rows.SpaceTakesSaid :=
  OpenClaim.holds_of_wide 6 Try.f6 rfl rfl rfl rfl rfl rfl rfl ⟨rfl, rfl, rfl, rfl, rfl⟩ rfl rfl rfl rfl rfl (by kernel_rfl) Try.func6 (by kernel_rfl)
    (of_decide_eq_true (by kernel_rfl)) (by unfold Func.isWrapper; first | (rw [if_pos (by decide +kernel)]; kernel_rfl) | (rw [if_neg (by decide +kernel)]; exact ⟨rfl, rfl⟩))
    (fun os started H enc _ => lifted os started H enc)

end Go.Proofs.Ytcmhijhoemcdcaa.spaceTakes
