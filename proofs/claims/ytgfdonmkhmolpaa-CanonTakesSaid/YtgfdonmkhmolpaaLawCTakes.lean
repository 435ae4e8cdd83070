/-
  By any lengths that one can read by, from any octets, symbol by symbol, what is taken, and how far it is read, is the document's, or it is refused with its error; other lengths are refused (P9.2).
  No condition: every slice of ints, all octets, every skip.
-/
import Derived.Test.YtgfdonmkhmolpaaCnF
import Derived.Test.YtgfdonmkhmolpaaHdS
namespace Go.Proofs.Ytgfdonmkhmolpaa.canonTakes
open Go.ChangeShapes Go.WideShapes Go.ChangeAt Go.RowKit Go.Deep
set_option linter.unusedVariables false
set_option linter.unusedSimpArgs false
set_option maxRecDepth 100000

theorem takeCn_le (ls : List Nat) (F : List Bool) (at_ : Nat) : ∀ d n, at_ + n ≤ F.length → at_ ≤ (takeCn ls F at_ n d).2.1 ∧ (takeCn ls F at_ n d).2.1 ≤ F.length
  | 0, n, h => by rw [takeCn]; exact ⟨by dsimp only; omega, by dsimp only; omega⟩
  | d + 1, n, h => by
    rw [takeCn]
    by_cases h1 : F.length ≤ at_ + n
    · rw [if_pos h1]; exact ⟨by dsimp only; omega, by dsimp only; omega⟩
    · rw [if_neg h1]
      cases symOf ls (n + 1) (topN F at_ (n + 1)) with
      | some i => exact ⟨by dsimp only; omega, by dsimp only; omega⟩
      | none =>
        dsimp only
        by_cases h0 : d = 0
        · rw [if_pos h0]; exact ⟨by dsimp only; omega, by dsimp only; omega⟩
        · rw [if_neg h0]
          exact takeCn_le ls F at_ d (n + 1) (by omega)
theorem takesN_le (ls : List Nat) (F : List Bool) (at_ : Nat) (h : at_ ≤ F.length) : (takesN ls F at_).2.1 ≤ F.length := (takeCn_le ls F at_ _ 0 (by omega)).2

/-- the decoder, the reader and the document's bits -/
structure Ct (w wr : World) (n0 n1 D B : Nat) (ls : List Nat) (l : List UInt8) (p : Nat) (a : Option Addr) (n c : Nat) : Prop where
  de : DecS n0 wr D ls
  rd : RdS n1 wr B l p
  bo : BoI w wr a n c (ofL l)
  n0 : w.heap.size ≤ n0
  n1 : w.heap.size ≤ n1
theorem Ct.below {w wr w' : World} {n0 n1 D B : Nat} {ls : List Nat} {l : List UInt8} {p : Nat} {a : Option Addr} {n c : Nat} (h : Ct w wr n0 n1 D B ls l p a n c) (hb : Below wr.heap.size wr w') : Ct w w' n0 n1 D B ls l p a n c :=
  ⟨h.de.below hb, h.rd.below hb, h.bo.below hb, h.n0, h.n1⟩
theorem Ct.step {w wr w' : World} {n0 n1 D B : Nat} {ls : List Nat} {l : List UInt8} {p q : Nat} {a : Option Addr} {n c : Nat} (h : Ct w wr n0 n1 D B ls l p a n c) (hk : RdK n1 B l q wr w') : Ct w w' n0 n1 D B ls l q a n c := by
  obtain ⟨h0, h1, h2, h3, h4⟩ := h
  obtain ⟨cc, hc⟩ := RdS.boxed h1
  exact ⟨h0.only hk.2.2 ⟨cc, hc⟩, hk.1, ⟨h2.1.only hk.2.2 fun k hk2 e => h2.1.ne_of hc (by decide) k hk2 e, h2.2.1, h2.2.2.1, h2.2.2.2.trans (hk.2.1.mono h4)⟩, h3, h4⟩

set_option maxHeartbeats 8000000 in
theorem walk (a0 : Option Addr) (n0 cap0 : Nat) (L0 : List Int) (a1 : Option Addr) (n1 cap1 : Nat) (l1 : List UInt8) (z : Int) (w : World) (h0 : IntsAt w a0 n0 cap0 L0) (_ : True) (h1 : BytesAt w a1 n1 cap1 l1) (hzw : (Lit.int .u8 z).wf = true) :
    Calls Try.prog 4 #[.slice a0 n0 cap0, .slice a1 n1 cap1, .int .u8 z] w fun e w' => e = .returned (.bool true) ∧ Below w.heap.size w w' := by
  have hz : 0 ≤ z ∧ z ≤ 255 := by simpa [Lit.wf, IntKind.min, IntKind.max, IntKind.signed, IntKind.bits] using hzw
  clear hzw
  have CF := Lib.hid (cnFew_any a0 n0 cap0 L0 w h0)
  have H1 := Lib.hid h1
  have hcap1 := h1.2.1
  clear h0 h1
  go_enter Try.func4, Try.ntmps4
  go_wp2_with fail
  refine CF.out.mono ?_
  rintro e w0 ⟨rfl, n, L, rfl, hL, hn⟩
  have HL := Lib.hid hL
  clear CF hL
  go_upto_region 2 with (fail)
  go_upto_if 25 with (fail)
  go_cut [1] (fun s1 wx => wx = w ∧ ∃ (ba : Option Addr) (bm bc : Nat) (bl : List UInt8), s1 = .slice ba bm bc ∧ BytesAt w ba bm bc bl ∧ bm ≤ 60)
  case first =>
    by_cases h60 : 60 < n1
    · have h60i : (60 : Int) < (n1 : Int) := by omega
      go_wp2
      go_meet
      exact ⟨rfl, _, _, _, _, rfl, H1.out.head (by omega), by omega⟩
    · have h60i : ¬ (60 : Int) < (n1 : Int) := by omega
      go_wp2
      go_meet
      exact ⟨rfl, _, _, _, _, rfl, H1.out, by omega⟩
  case rest =>
  obtain ⟨hwc, ba, bm, bc, bl, rfl, hbl, hbm⟩ := hcut
  have hwc' := hwc.symm
  clear hwc
  subst hwc'
  have HBL := Lib.hid hbl
  have HBN := Lib.hid hbl.1
  have C1 := Lib.hid (cnNewP_any a0 n cap0 L w HL.out)
  have C2 := Lib.hid (fun u (hb : Below w.heap.size w u) => cnNew_any a0 n cap0 L u (CameAt.below HL.out (Nat.le_refl _) hb) (by omega))
  have HDE := Lib.hid (newE_dec L)
  clear hbl H1 hcap1
  by_cases hN : newE L = 0
  · obtain ⟨hdec, hval⟩ := HDE.out hN
    have C1' := Lib.hid (C1.out.mono fun e w' h => show Below w.heap.size w w' ∧ ∃ D, e = .returned (.tuple #[.pointer (some ⟨D, 0, none⟩), .int .i64 0]) ∧ DecS w.heap.size w' D (natsL L) by
      rcases h.2 with ⟨h1, _⟩ | ⟨_, h2⟩
      · exact absurd hN h1
      · exact ⟨h.1, h2⟩)
    rw [hN] at C2
    have HDEC := Lib.hid hdec
    have HVN := Lib.hid (valid_nats L hval)
    have HKR := Lib.hid (show kraft (natsL L) ≤ 32768 by rcases hdec.2.2 with h | h <;> omega)
    clear C1 HDE hN hdec hval
    go_wp2_with fail
    refine C1'.out.mono ?_
    rintro e w1 ⟨hb1, D, rfl, hd⟩
    have HD := Lib.hid hd
    have B1 := Lib.hid hb1
    have C2' := Lib.hid (C2.out w1 hb1)
    clear C1' C2 hb1 hd
    go_wp2_with fail
    refine C2'.out.mono ?_
    rintro e w2 ⟨rfl, hb2⟩
    have HD2 := Lib.hid (HD.out.below hb2)
    have B2 := Lib.hid (B1.out.trans (hb2.mono B1.out.size))
    clear hb2 C2' HD B1
    have C3 := Lib.hid (readS ba bm bc bl w2 (HBL.out.below B2.out) (by omega))
    go_wp2_with fail
    refine C3.out.mono ?_
    rintro e w3 ⟨Br, rfl, hr3, hb3⟩
    have HR3 := Lib.hid hr3
    have HD3 := Lib.hid (HD2.out.below hb3)
    have HN1 := Lib.hid B2.out.size
    have B3 := Lib.hid (B2.out.trans (hb3.mono B2.out.size))
    clear hr3 hb3 C3 HD2 B2
    generalize w2.heap.size = n1r at *
    have C4 := Lib.hid (rofb_any ba bm bc bl w3 (HBL.out.below B3.out) (by omega))
    go_wp2_with fail
    refine C4.out.mono ?_
    rintro e w4 ⟨oa, on, oc, rfl, hB4⟩
    have hon : on = 8 * bm := by rw [← hB4.2.1, ofL_length, HBN.out]
    have hb4 := hB4.2.2.2
    have S4 := Lib.hid (show Ct w w4 w.heap.size n1r D Br (natsL L) bl 0 oa on oc from
      ⟨HD3.out.below hb4, HR3.out.below hb4, ⟨hB4.1, hB4.2.1, fun k hk => Nat.le_trans B3.out.size (hB4.2.2.1 k hk), B3.out.trans (hb4.mono B3.out.size)⟩, Nat.le_refl _, HN1.out⟩)
    have HON := Lib.hid hon
    clear hB4 hb4 C4 HD3 HR3 B3 hon
    obtain ⟨m, hm, rfl⟩ : ∃ m : Nat, m < 256 ∧ z = m := ⟨z.toNat, by omega, by omega⟩
    obtain ⟨r, hr⟩ : ∃ r, r = m % 8 := ⟨_, rfl⟩
    have hri : ((m : Int) % 8) = (r : Int) := by omega
    have hr8 : r < 8 := by omega
    have hbl : bl.length = bm := HBN.out
    have C5 := takeS S4.out.rd (r : Int) (by omega) (by omega)
    obtain ⟨E, p, hEp⟩ : ∃ (E : Int) (p : Nat), (takeR bl 0 (r : Int)).2.1 = E ∧ (takeR bl 0 (r : Int)).2.2 = p := ⟨_, _, rfl, rfl⟩
    have HEP := Lib.hid (show (E = 0 ∧ p = r ∨ E = 2 ∧ p = 0) ∧ p ≤ 8 * bm by
      obtain ⟨h1, h2⟩ := hEp
      unfold takeR at h1 h2
      have hmay : mayN (r : Int) = true := by unfold mayN; simp; omega
      rw [if_neg (by rw [hmay]; simp)] at h1 h2
      by_cases hs : 8 * bl.length < 0 + (r : Int).toNat
      · rw [if_pos hs] at h1 h2; exact ⟨.inr ⟨h1.symm, h2.symm⟩, by rw [← h2]; exact Nat.zero_le _⟩
      · rw [if_neg hs] at h1 h2
        simp only [Nat.zero_add, Int.toNat_natCast] at h2
        exact ⟨.inl ⟨h1.symm, h2.symm⟩, by rw [← h2]; simp at hs; omega⟩)
    rw [hEp.1, hEp.2] at C5
    have C5 := Lib.hid C5
    have HRI := Lib.hid hri
    clear hEp hbl hr
    go_upto_region 13 with (fail)
    have hri2 := HRI.out
    clear hri
    go_wp2_with fail
    rw [HRI.out]
    refine C5.out.mono ?_
    rintro e w5 ⟨rfl, hk5⟩
    have S5 := Lib.hid (S4.out.step hk5)
    generalize (takeR bl 0 (r : Int)).1 = tv at *
    clear hk5 C5 S4
    go_upto_if 70 with (fail)
    go_cut [12] (fun s12 wx => wx = w5 ∧ s12 = .int .i64 (p : Int))
    case first =>
      rcases HEP.out.1 with ⟨hE, hp⟩ | ⟨hE, hp⟩
      · subst hE
        have HPR := Lib.hid hp
        clear hp
        go_wp2
        go_meet
        exact ⟨rfl, by rw [HPR.out]⟩
      · subst hE
        have HPR := Lib.hid hp
        clear hp
        go_wp2
        go_meet
        exact ⟨rfl, by rw [HPR.out]; rfl⟩
    case rest =>
    obtain ⟨hwc, rfl⟩ := hcut
    subst hwc
    have HP := Lib.hid HEP.out.2
    clear HEP hri2 HRI hm hr8
    have CA := Lib.hid (fun u => awake09 u)
    have HTL := Lib.hid (fun q (hq : q ≤ 8 * bm) => show (takesN (natsL L) (ofL bl) q).2.1 ≤ 8 * bm by
      have := takesN_le (natsL L) (ofL bl) q (by rw [ofL_length, HBN.out]; exact hq)
      rw [ofL_length, HBN.out] at this; exact this)
    have CR := Lib.hid (fun u (hb : Below w.heap.size w u) (F : List Bool) (hF : BoolsAt u oa on oc F) q (hq : q ≤ 1000000) => cnTake_any a0 n cap0 L oa on oc F q u (CameAt.below HL.out (Nat.le_refl _) hb) (by omega) HVN.out.1 HVN.out.2.2 HKR.out hF hq)
    go_wp2
    go_loopw [12, 15] (fun s12 s15 wx => ∃ (i q : Nat), i ≤ 40 ∧ s15 = .int .i64 i ∧ s12 = .int .i64 (q : Int) ∧ q ≤ 8 * bm ∧ Ct w wx w.heap.size n1r D Br (natsL L) bl q oa on oc) (fun _ s15 _ => 40 - (intOf s15).toNat)
    case atStart => exact ⟨0, p, by omega, rfl, rfl, HP.out, S5.out⟩
    case round =>
      obtain ⟨i, q, hi, rfl, rfl, hq, hs⟩ := hrel
      rename World => wx
      have HS := Lib.hid hs
      clear hs
      by_cases hlt : i < 40
      · have hlti : (i : Int) < 40 := by omega
        have CT := cnTakeP_any HS.out.de HDEC.out HS.out.rd (by rw [HBN.out]; omega) (by rw [HBN.out]; exact hq)
        unfold TakeTo at CT
        have HQ := Lib.hid (HTL.out q hq)
        obtain ⟨x, nx, er, hx⟩ : ∃ x nx er, takesN (natsL L) (ofL bl) q = (x, nx, er) := ⟨_, _, _, rfl⟩
        rw [hx] at CT HQ
        have HX := Lib.hid hx
        have CT := Lib.hid CT
        have hnx := HQ.out
        dsimp only at hnx
        clear hx HQ
        go_wp2_with fail
        refine CT.out.mono ?_
        rintro e w6 ⟨rfl, hk6⟩
        try dsimp only at hk6
        have S6 := Lib.hid (HS.out.step hk6)
        try dsimp only
        clear hk6 CT HS
        have C7 := Lib.hid (CR.out w6 S6.out.bo.2.2.2 (ofL bl) S6.out.bo.came q (by omega))
        go_wp2_with fail
        refine C7.out.mono ?_
        rintro e w7 ⟨x2, nx2, er2, hx2, rfl, hb7⟩
        rw [HX.out] at hx2
        simp only [Prod.mk.injEq] at hx2
        obtain ⟨rfl, rfl, rfl⟩ := hx2
        have S7 := Lib.hid (S6.out.below hb7)
        have C8 := Lib.hid (atS S7.out.rd)
        clear hb7 C7 S6
        go_wp2_with fail
        refine C8.out.mono ?_
        rintro e w8 ⟨rfl, rfl⟩
        clear C8
        have BB := Lib.hid S7.out.bo.2.2.2
        by_cases he : er2 = 0
        · subst he
          go_wp2
          go_roundw
          case rel => exact ⟨i + 1, nx2, by omega, by go_num, rfl, hnx, S7.out⟩
          case measure => simp [intOf]; omega
        · have heb : (er2 != 0) = true := by simpa using he
          clear he
          go_wp2_with fail
          refine (CA.out _).mono ?_
          rintro e w9 ⟨rfl, hb9⟩
          go_wp2
          go_ret
          exact ⟨rfl, BB.out.trans (hb9.mono BB.out.size)⟩
      · have hlti : ¬ (i : Int) < 40 := by omega
        have BB := Lib.hid HS.out.bo.2.2.2
        go_wp2_with fail
        refine (CA.out _).mono ?_
        rintro e w9 ⟨rfl, hb9⟩
        go_wp2
        go_ret
        exact ⟨rfl, BB.out.trans (hb9.mono BB.out.size)⟩
  · have CA := Lib.hid (fun u => awake09 u)
    have C1' := Lib.hid (C1.out.mono fun e w' h => show Below w.heap.size w w' ∧ e = .returned (.tuple #[.pointer none, .int .i64 (newE L)]) by
      rcases h.2 with ⟨_, h2⟩ | ⟨h1, _⟩
      · exact ⟨h.1, h2⟩
      · exact absurd h1 hN)
    have hNb : (newE L != 0) = true := by simpa using hN
    clear C1 HDE hN
    generalize newE L = E at *
    go_wp2_with fail
    refine C1'.out.mono ?_
    rintro e w1 ⟨hb1, rfl⟩
    have B1 := Lib.hid hb1
    have C2' := Lib.hid (C2.out w1 hb1)
    clear C1' C2 hb1
    go_wp2_with fail
    refine C2'.out.mono ?_
    rintro e w2 ⟨rfl, hb2⟩
    have B2 := Lib.hid (B1.out.trans (hb2.mono B1.out.size))
    clear hb2 C2' B1
    go_wp2_with fail
    refine (CA.out _).mono ?_
    rintro e w3 ⟨rfl, hb3⟩
    go_wp2
    go_ret
    exact ⟨rfl, B2.out.trans (hb3.mono B2.out.size)⟩

theorem own : ownKnob Try.prog.godebug = none := by kernel_rfl
theorem laidOut : laidOutB Try.prog = true := by kernel_rfl

set_option maxRecDepth 100000 in
theorem lifted (os : Os) (started : os.Started) (H : Type) (enc : TypeId × Value → H) :
    ReturnsInHanded {} Try.checked os 4 .any (Rows.canonTakesSpec.pre6 enc Try.prog Try.f4 Rows.canonTakesRow.domain false) (Rows.canonTakesSpec.post enc Try.prog Try.f4 false true false false) := by
  refine returnsInHanded_of_change (C := Try.checked) own started (by kernel_rfl) Try.func4
    (ChangeSpec.witness6 (enc := enc) (C := Try.checked) false ⟨#[], #[.slice none 0 0, .slice none 0 0, .int .u8 0], []⟩ 8 (by kernel_rfl) (by kernel_rfl) (by kernel_rfl) (by kernel_rfl)) ?_
  intro W base args ds gs before hval0 hW hcnd _
  have hval : ∀ (j : Nat) t v, Try.f4.params[j]? = some t → args[j]? = some v → Value.okWide Try.prog W .any base t v := hval0
  have hW' := hW
  obtain ⟨p, q, hA0, hV, rfl, hfz, hnd⟩ := hW
  have hA : DataW.TrodAll enc Try.prog W 0 (fun _ => true) true Try.f4.params.toList args.toList ds p := hA0
  rw [Try.params4] at hA hval
  obtain ⟨v0, vs0, d0, ds0, p0, q0, hargs, rfl, rfl, h0, r0⟩ := trodAll_cons hA
  obtain ⟨v1, vs1, d1, ds1, p1, q1, rfl, rfl, rfl, h1, r1⟩ := trodAll_cons r0
  obtain ⟨v2, vs2, d2, ds2, p2, q2, rfl, rfl, rfl, h2, r2⟩ := trodAll_cons r1
  obtain ⟨rfl, rfl, rfl⟩ := trodAll_nil r2
  obtain rfl : args = #[v0, v1, v2] := by cases args; simp_all
  obtain ⟨rfl, rfl⟩ := trodVars_none hV
  have k0 := h0
  have lt0 : ∀ x ∈ p0, x.block < W.heap.size := by obtain ⟨m, hm⟩ := k0; exact DataW.trod_lt m _ _ _ hm
  obtain ⟨a0, len0, cap0, l0, rfl, w0, g0⟩ := ints_of (hval 0 22 v0 rfl rfl) h0
  have k1 := h1
  have lt1 : ∀ x ∈ p1, x.block < W.heap.size := by obtain ⟨m, hm⟩ := k1; exact DataW.trod_lt m _ _ _ hm
  obtain ⟨a1, len1, cap1, rfl⟩ := okWide_slice Try.underlying36 (hval 1 36 v1 rfl rfl)
  obtain ⟨l1, w1⟩ : ∃ l, BytesAt W a1 len1 cap1 l := by
    obtain ⟨fuel, hf⟩ := h1
    rcases open_ints Try.underlying36 Try.underlying5 (by kernel_rfl) hf with ⟨hcs, _⟩ | ⟨x, l, c, zs, hcs, _, hl, hm, hz, _, hcell, hwz⟩
    · simp [Value.cells] at hcs
      obtain ⟨rfl, rfl, rfl⟩ := hcs
      exact ⟨[], BytesAt.nil W⟩
    · simp [Value.cells] at hcs
      obtain ⟨rfl, rfl, rfl⟩ := hcs
      exact ⟨_, BytesAt.of_row hl hm (by simpa using hz) hcell hwz⟩
  obtain ⟨a2, rfl, rfl, rfl, w2⟩ := open_int Try.underlying5 (hval 2 5 v2 rfl rfl) h2
  clear hA0 hval0
  refine (walk a0 len0 cap0 l0 a1 len1 cap1 l1 a2 W w0 g0 w1 w2).mono fun e W' ⟨he, bel⟩ => ?_
  subst he
  exact ⟨_, rfl, _, _, _, [], _, [], hW', trodAll_mk1 (shut_bool Try.underlying4 _), (trodAll_cons_mk (Below.trod laidOut (by kernel_rfl) (of_decide_eq_true (by kernel_rfl)) k0 bel lt0) (trodAll_cons_mk (Below.trod laidOut (by kernel_rfl) (of_decide_eq_true (by kernel_rfl)) k1 bel lt1) (trodAll_cons_mk (shut_int Try.underlying5 w2) trodAll_mk0))), rfl, bel.frame _, fun h => by cases h⟩

theorem proved : Rows.CanonTakesSaid :=
  OpenClaim.holds_of_wide 4 Try.f4 rfl rfl rfl rfl rfl rfl rfl ⟨rfl, rfl, rfl, rfl, rfl⟩ rfl rfl rfl rfl rfl (by kernel_rfl) Try.func4 (by kernel_rfl)
    (of_decide_eq_true (by kernel_rfl)) (by unfold Func.isWrapper; first | (rw [if_pos (by decide +kernel)]; kernel_rfl) | (rw [if_neg (by decide +kernel)]; exact ⟨rfl, rfl⟩))
    (fun os started H enc _ => lifted os started H enc)

end Go.Proofs.Ytgfdonmkhmolpaa.canonTakes
