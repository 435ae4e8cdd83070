/-
  What is put is read as it was, whatever stands ahead of it and behind (P1.4).
  No condition: every number, width, text, and octets ahead and behind.
-/
import Derived.Test.YtkonkmgijgchlaaAwake01
import Derived.Test.YtkonkmgijgchlaaOpen
import Derived.Deep.DeepCutAuto
import Derived.Deep.CutBlock
namespace Go.Proofs.Ytkonkmgijgchlaa.octetBack
open Go.ChangeShapes Go.WideShapes Go.ChangeAt Go.RowKit
open Go.ChangeMaps (open_string shut_string)
set_option linter.unusedVariables false
set_option linter.unusedSimpArgs false

theorem rRaw_at (x y z : List UInt8) : rRaw (x ++ (y ++ z)) x.length 0 (y.length : Nat) = (y, x.length + y.length, 0) := by
  simp only [rRaw]
  rw [if_neg (by simp), if_neg (by omega), if_neg (by simp; omega), Int.toNat_natCast]
  simp

theorem rNum_at (x z : List UInt8) (w v : Nat) (h1 : 1 ≤ w) (h2 : w ≤ 8) (hv : v < 256 ^ w) : rNum (x ++ (leB w v ++ z)) x.length 0 (w : Nat) = (v, x.length + w, 0) := by
  simp only [rNum]
  rw [if_neg (by simp), if_neg (by omega), if_neg (by simp [leB_length]; omega), Int.toNat_natCast, List.drop_left, List.take_append_of_le_length (by rw [leB_length]; omega), List.take_of_length_le (by rw [leB_length]; omega), le_leB w v hv]

theorem rText_at (x s z : List UInt8) (h : s.length ≤ 65535) : rText (x ++ ((leB 2 s.length ++ s) ++ z)) x.length 0 = (s, x.length + 2 + s.length, 0) := by
  have e1 : rNum (x ++ ((leB 2 s.length ++ s) ++ z)) x.length 0 2 = (s.length, x.length + 2, 0) := by
    have := rNum_at x (s ++ z) 2 s.length (by omega) (by omega) (by omega)
    rw [List.append_assoc]; exact this
  have e2 : rRaw (x ++ ((leB 2 s.length ++ s) ++ z)) (x.length + 2) 0 (s.length : Nat) = (s, x.length + 2 + s.length, 0) := by
    have := rRaw_at (x ++ leB 2 s.length) s z
    rw [List.length_append, leB_length] at this
    rw [← this]
    simp
  simp only [rText, e1, e2]
  simp

/-- what was put stands between: each is read, one behind the other -/
theorem chain (A T Z : List UInt8) (w v : Nat) (s : List UInt8) (h1 : 1 ≤ w) (h2 : w ≤ 8) (hv : v < 256 ^ w) (hs : s.length ≤ 65535) (hT : T = leB 2 s.length ++ s) :
    rRaw (A ++ (leB w v ++ (T ++ Z))) 0 0 (A.length : Nat) = (A, A.length, 0) ∧ rNum (A ++ (leB w v ++ (T ++ Z))) A.length 0 (w : Nat) = (v, A.length + w, 0) ∧
    rText (A ++ (leB w v ++ (T ++ Z))) (A.length + w) 0 = (s, A.length + w + 2 + s.length, 0) ∧
    rRaw (A ++ (leB w v ++ (T ++ Z))) (A.length + w + 2 + s.length) 0 (Z.length : Nat) = (Z, A.length + w + 2 + s.length + Z.length, 0) ∧
    rEnd (A ++ (leB w v ++ (T ++ Z))) (A.length + w + 2 + s.length + Z.length) 0 = (0, 0) := by
  refine ⟨?_, rNum_at A (T ++ Z) w v h1 h2 hv, ?_, ?_, ?_⟩
  · have := rRaw_at [] A (leB w v ++ (T ++ Z))
    simpa using this
  · have := rText_at (A ++ leB w v) s Z hs
    rw [List.length_append, leB_length] at this
    rw [← this, hT]
    simp
  · have := rRaw_at (A ++ (leB w v ++ T)) Z []
    have e : (A ++ (leB w v ++ T)).length = A.length + w + 2 + s.length := by simp [hT, leB_length]; omega
    rw [e] at this
    rw [← this]
    simp
  · have e : (A ++ (leB w v ++ (T ++ Z))).length = A.length + w + 2 + s.length + Z.length := by simp [hT, leB_length]; omega
    rw [rEnd, if_pos rfl, e, if_neg (by omega)]

set_option maxRecDepth 100000 in
set_option maxHeartbeats 4000000 in
theorem core (a : Option Addr) (n cap : Nat) (l : List UInt8) (a2 : Option Addr) (n2 cap2 : Nat) (l2 : List UInt8) (v : Nat) (wd : Int) (s : ByteArray) (w : World) (hl : BytesAt w a n cap l) (hl2 : BytesAt w a2 n2 cap2 l2)
    (hv : v < 18446744073709551616) (hsz : s.size ≤ 9223372036854775807) :
    Calls Try.prog 7 #[.agg #[.slice a n cap, .slice a2 n2 cap2, .int .u64 v, .int .i64 wd, .string s]] w fun e w' => e = .returned (.bool true) ∧ Below w.heap.size w w' := by
  have HL := Lib.hid hl
  have HL2 := Lib.hid hl2
  clear hl hl2
  have HR := Lib.hid (heap_alloc_new w (.cells #[.slice a n cap, .slice a2 n2 cap2, .int .u64 v, .int .i64 wd, .string s] 59))
  go_enter Try.func7, Try.ntmps7
  go_wp2
  go_quiet (fail)
  have hb := below_drewN ((Below.refl w.heap.size w).alloc (Nat.le_refl _) (.cells #[.slice a n cap, .slice a2 n2 cap2, .int .u64 v, .int .i64 wd, .string s] 59)) nq
  generalize (w.alloc (.cells #[.slice a n cap, .slice a2 n2 cap2, .int .u64 v, .int .i64 wd, .string s] 59)).drewN nq = wb at hb ⊢
  have HB := Lib.hid hb
  have HLb := Lib.hid (HL.out.below hb)
  have HL2b := Lib.hid (HL2.out.below hb)
  clear hb HL HL2 HR
  go_upto_if 32 with (fail)
  go_cut [3] (fun s3 wx => wx = wb ∧ ∃ a' n' cap' l', s3 = .slice a' n' cap' ∧ n' ≤ 200 ∧ BytesAt wb a' n' cap' l')
  case first =>
    by_cases hn : n ≤ 200
    · go_wp2
      go_meet
      exact ⟨rfl, a, n, cap, l, rfl, hn, HLb.out⟩
    · have hc := HLb.out.head (m := 200) (by omega)
      have hcap : 200 < cap := by have := HLb.out.2.1; omega
      go_wp2
      go_meet
      exact ⟨rfl, a, 200, cap, _, rfl, by omega, hc⟩
  case rest =>
    obtain ⟨hwc, a', n', cap', l', rfl, hn, hl⟩ := hcut
    subst hwc
    clear HLb
    have HL := Lib.hid hl
    clear hl
    obtain ⟨wd0, hwd⟩ : ∃ x : World, x = wc := ⟨_, rfl⟩
    rw [← hwd] at HB HL2b HL ⊢
    clear hwd
    go_upto_if 37 with (fail)
    go_cut [4] (fun s4 wx => wx = wd0 ∧ ∃ a' n' cap' l', s4 = .slice a' n' cap' ∧ n' ≤ 200 ∧ BytesAt wd0 a' n' cap' l')
    case first =>
      by_cases hn : n2 ≤ 200
      · go_wp2
        go_meet
        exact ⟨rfl, a2, n2, cap2, l2, rfl, hn, HL2b.out⟩
      · have hc := HL2b.out.head (m := 200) (by omega)
        have hcap : 200 < cap2 := by have := HL2b.out.2.1; omega
        go_wp2
        go_meet
        exact ⟨rfl, a2, 200, cap2, _, rfl, by omega, hc⟩
    case rest =>
      obtain ⟨hwc, b', m', bcap', k', rfl, hm, hl⟩ := hcut
      subst hwc
      clear HL2b
      have HM := Lib.hid hl
      clear hl
      obtain ⟨we, hwe⟩ : ∃ x : World, x = wc := ⟨_, rfl⟩
      rw [← hwe] at HB HM HL ⊢
      clear hwe
      go_upto_if 42 with (fail)
      go_cut [7] (fun s7 wx => wx = we ∧ ∃ s' : ByteArray, s7 = .string s' ∧ s'.size ≤ 300)
      case first =>
        by_cases hn : s.size ≤ 300
        · go_wp2
          go_meet
          exact ⟨rfl, s, rfl, hn⟩
        · have hn' : 300 < s.size := by omega
          go_wp2
          go_meet
          exact ⟨rfl, _, rfl, by simp; omega⟩
      case rest =>
        obtain ⟨hwc, t, rfl, ht⟩ := hcut
        subst hwc
        clear hsz
        by_cases h1 : wd < 1 ∨ 8 < wd
        · have HP := Lib.hid (fun u => put_arg v wd u h1)
          clear h1
          go_wp2_with (first
            | (go_at_call 8; refine (HP.out _).mono ?_; rintro e w1 ⟨rfl, rfl⟩)
            | (go_at_call 11; refine (awake01 _).mono ?_; rintro e w5 ⟨rfl, hb5⟩))
          go_ret
          exact ⟨rfl, HB.out.trans (hb5.mono HB.out.size)⟩
        · obtain ⟨k, rfl⟩ := Int.eq_ofNat_of_zero_le (show 0 ≤ wd by omega)
          have hk1 : 1 ≤ k := by omega
          have hk8 : k ≤ 8 := by omega
          clear h1
          by_cases h2 : 256 ^ k ≤ v
          · have HP := Lib.hid (fun u => put_over v k u hk1 hk8 h2)
            clear h2
            go_wp2_with (first
              | (go_at_call 8; refine (HP.out _).mono ?_; rintro e w1 ⟨rfl, rfl⟩)
              | (go_at_call 11; refine (awake01 _).mono ?_; rintro e w5 ⟨rfl, hb5⟩))
            go_ret
            exact ⟨rfl, HB.out.trans (hb5.mono HB.out.size)⟩
          · have HP := Lib.hid (fun u => put_ok v k u hk1 hk8 (by omega))
            have HT := Lib.hid (fun u => puttext_ok t u (by omega))
            have HC := Lib.hid (chain l' (leB 2 t.size ++ t.data.toList) k' k v t.data.toList hk1 hk8 (by omega) (by show t.size ≤ _; omega) rfl)
            have HA := Lib.hid (HL.out.1)
            have HZ := Lib.hid (HM.out.1)
            have HKL := Lib.hid (leB_length k v)
            have HTL : Hid ((leB 2 t.size ++ t.data.toList).length = 2 + t.size) := Lib.hid (by rw [List.length_append, leB_length]; rfl)
            have HTS : Hid (t.data.toList.length = t.size) := Lib.hid rfl
            have HTE : Hid ((⟨t.data.toList.toArray⟩ : ByteArray) = t) := Lib.hid (by simp)
            clear h2
            generalize leB k v = P at HP HC HKL
            generalize leB 2 t.size ++ t.data.toList = T at HT HC HTL
            generalize t.data.toList = tl at HC HTS HTE
            go_wp2_with fail
            refine (HP.out _).mono ?_
            rintro e w1 ⟨a1, c1, rfl, ho1, hb1⟩
            have HO1 := Lib.hid (BytesAt.owned ho1)
            have HB1 := Lib.hid hb1
            clear ho1 hb1
            go_wp2_with fail
            refine (HT.out _).mono ?_
            rintro e w2 ⟨a2', c2', rfl, ho2, hb2⟩
            have HO2 := Lib.hid (BytesAt.owned ho2)
            have HO1b := Lib.hid (HO1.out.below hb2)
            have HBw2 := Lib.hid (HB1.out.trans (hb2.mono HB1.out.size))
            have HL2 := Lib.hid (HL.out.below HBw2.out)
            have HM2 := Lib.hid (HM.out.below HBw2.out)
            clear ho2 hb2 HO1 HB1 HP HT
            have HOW := Lib.hid (World.ownsRow_lit (base := w2.heap.size) (e := 5) (size := 1) w2 #[] 0 (Nat.le_refl _) (by unfold maxLen; omega) rfl)
            have HB0 := Lib.hid ((Below.refl w2.heap.size w2).alloc (Nat.le_refl _) (.cells #[] 5))
            go_wp2_with (first
              | (at_builtin; refine wpList_append_bytes rfl (.tmp 64) (.tmp 65) rfl w2.heap.size _ 0 [] rfl HOW.out a' n' cap' l' rfl (HL2.out.below HB0.out) n' (by omega) (by omega) (by simp) ?_; intro q1 e1 w3 ho3 hg3; have HB3 := Lib.hid (Below.grown HB0.out hg3 (by simp) (fun k hk => by cases hk; exact Nat.le_refl _)); have HO3 := Lib.hid ho3; clear ho3 hg3)
              | (at_builtin; refine wpList_append_bytes rfl (.tmp 67) (.tmp 68) rfl w2.heap.size _ n' _ rfl HO3.out a1 k c1 P rfl (HO1b.out.below HB3.out) (n' + k) rfl (by omega) HB3.out.size ?_; intro q2 e2 w4 ho4 hg4; have HB4 := Lib.hid (HB3.out.grown hg4 HB3.out.size (fun k hk => (HO3.out.lt k hk).1)); have HO4 := Lib.hid ho4; clear ho4 hg4)
              | (at_builtin; refine wpList_append_bytes rfl (.tmp 70) (.tmp 71) rfl w2.heap.size _ (n' + k) _ rfl HO4.out a2' (2 + t.size) c2' T rfl (HO2.out.below HB4.out) (n' + k + (2 + t.size)) rfl (by omega) HB4.out.size ?_; intro q3 e3 w5 ho5 hg5; have HB5 := Lib.hid (HB4.out.grown hg5 HB4.out.size (fun k hk => (HO4.out.lt k hk).1)); have HO5 := Lib.hid ho5; clear ho5 hg5)
              | (at_builtin; refine wpList_append_bytes rfl (.tmp 73) (.tmp 74) rfl w2.heap.size _ (n' + k + (2 + t.size)) _ rfl HO5.out b' m' bcap' k' rfl (HM2.out.below HB5.out) (n' + k + (2 + t.size) + m') rfl (by omega) HB5.out.size ?_; intro q4 e4 w6 ho6 hg6; have HB6 := Lib.hid (HB5.out.grown hg6 HB5.out.size (fun k hk => (HO5.out.lt k hk).1)); have HO6 := Lib.hid ho6; clear ho6 hg6))
            obtain ⟨k1, k2, k3, k4, k5⟩ := HC.out
            rw [HA.out] at k1 k2 k3 k4 k5
            rw [HTS.out] at k3 k4 k5
            rw [HZ.out] at k4 k5
            have hLn : (l' ++ (P ++ (T ++ k'))).length = n' + k + (2 + t.size) + m' := by simp [HA.out, HKL.out, HTL.out, HZ.out]; omega
            have hO : w6.ownsRow w2.heap.size 5 1 (.slice q4 (n' + k + (2 + t.size) + m') e4) (n' + k + (2 + t.size) + m') (vals (l' ++ (P ++ (T ++ k')))) := by
              have := HO6.out
              simpa [vals] using this
            have HBY := Lib.hid (BytesAt.owned hO)
            generalize l' ++ (P ++ (T ++ k')) = L at k1 k2 k3 k4 k5 hLn HBY
            obtain ⟨N, hN⟩ : ∃ N, N = n' + k + (2 + t.size) + m' := ⟨_, rfl⟩
            rw [← hN] at HBY hLn ⊢
            have hNb : N ≤ 1000 := by omega
            have e1' : n' ≤ N := by omega
            have e2' : n' + k ≤ N := by omega
            have e3' : n' + k + 2 + t.size ≤ N := by omega
            have e4' : n' + k + 2 + t.size + m' = N := by omega
            have X1 := Lib.hid (fun u g sl (hu : Rd u g sl N L 0 0) => rdraw_any u g sl N L 0 0 (n' : Nat) hu (by omega) (by omega))
            have X2 := Lib.hid (fun u g sl (hu : Rd u g sl N L n' 0) => rdnum_any u g sl N L n' 0 (k : Nat) hu (by omega))
            have X3 := Lib.hid (fun u g sl (hu : Rd u g sl N L (n' + k) 0) => rdtext_any u g sl N L (n' + k) 0 hu (by omega) (by omega))
            have X4 := Lib.hid (fun u g sl (hu : Rd u g sl N L (n' + k + 2 + t.size) 0) => rdraw_any u g sl N L (n' + k + 2 + t.size) 0 (m' : Nat) hu (by omega) (by omega))
            have X5 := Lib.hid (fun u g sl (hu : Rd u g sl N L (n' + k + 2 + t.size + m') 0) => rdend_any u g sl N L (n' + k + 2 + t.size + m') 0 hu)
            rw [k1] at X1
            rw [k2] at X2
            rw [k3] at X3
            rw [k4] at X4
            rw [k5] at X5
            rw [HTE.out] at X3
            clear k1 k2 k3 k4 k5 hLn hN hO HO6 HO5 HO4 HO3 HB5 HB4 HB3 HOW HB0 HC HKL HTL HTS HTE HO1b HO2 e1' e2' e3' e4'
            have HLE := Lib.hid (HL2.out.below HB6.out)
            have HME := Lib.hid (HM2.out.below HB6.out)
            have HBw6 := Lib.hid (HB.out.trans ((HBw2.out.trans (HB6.out.mono HBw2.out.size)).mono HB.out.size))
            clear HL2 HM2 HB6 HBw2 HL HM HB
            go_wp2_with fail
            refine (read_any _ _ _ _ _ HBY.out (by omega)).mono ?_
            rintro e w7 ⟨g, sl, rfl, hg7, hrd7, _, hb7⟩
            have HR7 := Lib.hid hrd7
            have HG := Lib.hid hg7
            have B7 := Lib.hid hb7
            clear hb7 hg7 hrd7 HBY
            go_wp2_with fail
            refine (X1.out _ _ _ HR7.out).mono ?_
            rintro e w8 ⟨ra8, rc8, rfl, hby8, hr8, hg8, _⟩
            have hcv8 := hby8.conv
            have HR8 := Lib.hid hr8
            have B8 := Lib.hid (B7.out.grown hg8 B7.out.size (fun k hk => by cases hk; exact HG.out))
            clear hby8 hr8 hg8 HR7 B7 X1
            go_wp2_with fail
            refine (X2.out _ _ _ HR8.out).mono ?_
            rintro e w9 ⟨rfl, hr9, hg9⟩
            have HR9 := Lib.hid hr9
            have B9 := Lib.hid (B8.out.grown hg9 B8.out.size (fun k hk => by cases hk; exact HG.out))
            clear hcv8 hr9 hg9 HR8 B8 X2
            go_wp2_with fail
            refine (X3.out _ _ _ HR9.out).mono ?_
            rintro e w10 ⟨rfl, hr10, hg10⟩
            have HR10 := Lib.hid hr10
            have B10 := Lib.hid (B9.out.grown hg10 B9.out.size (fun k hk => by cases hk; exact HG.out))
            clear hr10 hg10 HR9 B9 X3
            go_wp2_with fail
            refine (X4.out _ _ _ HR10.out).mono ?_
            rintro e w11 ⟨ra11, rc11, rfl, hby11, hr11, hg11, _⟩
            have hcv11 := hby11.conv
            have HR11 := Lib.hid hr11
            have B11 := Lib.hid (B10.out.grown hg11 B10.out.size (fun k hk => by cases hk; exact HG.out))
            clear hby11 hr11 hg11 HR10 B10 X4
            go_wp2_with fail
            refine (X5.out _ _ _ HR11.out).mono ?_
            rintro e w12 ⟨rfl, nk, rfl⟩
            have B12 := Lib.hid (below_drewN B11.out nk)
            have cv1 := (HLE.out.below B12.out).conv
            have cv2 := (HME.out.below B12.out).conv
            have HBF := Lib.hid (HBw6.out.trans (B12.out.mono HBw6.out.size))
            clear hcv11 HR11 B11 B12 X5 HLE HME HBw6 HG
            generalize w11.drewN nk = w13 at *
            go_wp2_with fail
            refine (awake01 _).mono ?_
            rintro e w14 ⟨rfl, hb14⟩
            go_wp2
            go_ret
            exact ⟨rfl, HBF.out.trans (hb14.mono HBF.out.size)⟩

theorem walk (v : Value) {H : Type} {enc : TypeId × Value → H} (d : DataW H) (p : List MemPlace) (w : World) {r : Reach} {b0 base : Nat} {sp : Nat → Bool} {held : Bool}
    (hv : Value.okWide Try.prog w r b0 59 v) (h : DataW.Trod enc Try.prog w base sp held 59 v d p) :
    Calls Try.prog 7 #[v] w fun e w' => e = .returned (.bool true) ∧ Below w.heap.size w w' := by
  obtain ⟨cs, n, rfl, hlen, hf⟩ := fields_of Try.underlying59 hv h
  have hc5 : Try.prog.cellsOf 59 = 5 := by kernel_rfl
  have kb : Try.prog.cellsOf 23 = 1 := by kernel_rfl
  have kv : Try.prog.cellsOf 22 = 1 := by kernel_rfl
  have ki : Try.prog.cellsOf 3 = 1 := by kernel_rfl
  have ks : Try.prog.cellsOf 9 = 1 := by kernel_rfl
  rw [hc5] at hlen
  match cs, hlen with
  | [c0, c1, c2, c3, c4], _ =>
    obtain ⟨y0, f0⟩ : ∃ y, DataW.trod enc Try.prog w base sp held n 23 (([c0, c1, c2, c3, c4].drop 0).take (Try.prog.cellsOf 23)) = some y := hf 0 _ rfl
    obtain ⟨y1, f1⟩ : ∃ y, DataW.trod enc Try.prog w base sp held n 23 (([c0, c1, c2, c3, c4].drop 1).take (Try.prog.cellsOf 23)) = some y := hf 1 _ rfl
    obtain ⟨y2, f2⟩ : ∃ y, DataW.trod enc Try.prog w base sp held n 22 (([c0, c1, c2, c3, c4].drop 2).take (Try.prog.cellsOf 22)) = some y := hf 2 _ rfl
    obtain ⟨y3, f3⟩ : ∃ y, DataW.trod enc Try.prog w base sp held n 3 (([c0, c1, c2, c3, c4].drop 3).take (Try.prog.cellsOf 3)) = some y := hf 3 _ rfl
    obtain ⟨y4, f4⟩ : ∃ y, DataW.trod enc Try.prog w base sp held n 9 (([c0, c1, c2, c3, c4].drop 4).take (Try.prog.cellsOf 9)) = some y := hf 4 _ rfl
    rw [kb] at f0 f1
    rw [kv] at f2
    rw [ki] at f3
    rw [ks] at f4
    obtain ⟨a, len, cap, l, e0, hl⟩ := trod_bytes f0
    obtain ⟨a2, len2, cap2, l2, e1, hl2⟩ := trod_bytes f1
    obtain ⟨v, e2, _, wv⟩ := DataW.trod_int Try.underlying22 f2
    obtain ⟨wd, e3, _, _⟩ := DataW.trod_int Try.underlying3 f3
    obtain ⟨s, e4, _, hs⟩ := DataW.trod_string Try.underlying9 f4
    simp at e0 e1 e2 e3 e4
    subst e0 e1 e2 e3 e4
    have hx : 0 ≤ v ∧ v < 18446744073709551616 := by
      have h := wv
      simp [Lit.wf, IntKind.min, IntKind.max, IntKind.signed, IntKind.bits] at h
      omega
    obtain ⟨v, rfl⟩ := Int.eq_ofNat_of_zero_le hx.1
    exact core a len cap l a2 len2 cap2 l2 v wd s w hl hl2 (by omega) (by unfold maxLen at hs; omega)

theorem own : ownKnob Try.prog.godebug = none := by kernel_rfl
theorem laidOut : laidOutB Try.prog = true := by kernel_rfl

set_option maxRecDepth 100000 in
theorem lifted (os : Os) (started : os.Started) (H : Type) (enc : TypeId × Value → H) :
    ReturnsInHanded {} Try.checked os 7 .any (Rows.octetBackSpec.pre6 enc Try.prog Try.f7 Rows.octetBackRow.domain false) (Rows.octetBackSpec.post enc Try.prog Try.f7 false true false false) := by
  refine returnsInHanded_of_change (C := Try.checked) own started (by kernel_rfl) Try.func7
    (ChangeSpec.witness6 (enc := enc) (C := Try.checked) false ⟨#[], #[.agg #[.slice none 0 0, .slice none 0 0, .int .u64 0, .int .i64 0, .string .empty]], []⟩ 8 (by kernel_rfl) (by kernel_rfl) (by kernel_rfl) (by kernel_rfl)) ?_
  intro W base args ds gs before hval0 hW hcnd _
  have hval : ∀ (j : Nat) t v, Try.f7.params[j]? = some t → args[j]? = some v → Value.okWide Try.prog W .any base t v := hval0
  have hW' := hW
  obtain ⟨p, q, hA0, hV, rfl, hfz, hnd⟩ := hW
  have hA : DataW.TrodAll enc Try.prog W 0 (fun _ => true) true Try.f7.params.toList args.toList ds p := hA0
  rw [Try.params7] at hA hval
  obtain ⟨v0, vs0, d0, ds0, p0, q0, hargs, rfl, rfl, h0, r0⟩ := trodAll_cons hA
  obtain ⟨rfl, rfl, rfl⟩ := trodAll_nil r0
  obtain rfl : args = #[v0] := by cases args; simp_all
  obtain ⟨rfl, rfl⟩ := trodVars_none hV
  have k0 := h0
  have lt0 : ∀ x ∈ p0, x.block < W.heap.size := by obtain ⟨m, hm⟩ := k0; exact DataW.trod_lt m _ _ _ hm
  clear hA0 hval0
  refine (walk v0 d0 p0 W (hval 0 59 v0 rfl rfl) k0).mono fun e W' ⟨he, bel⟩ => ?_
  subst he
  exact ⟨_, rfl, _, _, _, [], _, [], hW', trodAll_mk1 (shut_bool Try.underlying4 _), (trodAll_cons_mk (Below.trod laidOut (by kernel_rfl) (of_decide_eq_true (by kernel_rfl)) k0 bel lt0) trodAll_mk0), rfl, bel.frame _, fun h => by cases h⟩

theorem proved : Rows.OctetBackSaid :=
  OpenClaim.holds_of_wide 7 Try.f7 rfl rfl rfl rfl rfl rfl rfl ⟨rfl, rfl, rfl, rfl, rfl⟩ rfl rfl rfl rfl rfl (by kernel_rfl) Try.func7 (by kernel_rfl)
    (of_decide_eq_true (by kernel_rfl)) (by unfold Func.isWrapper; first | (rw [if_pos (by decide +kernel)]; kernel_rfl) | (rw [if_neg (by decide +kernel)]; exact ⟨rfl, rfl⟩))
    (fun os started H enc _ => lifted os started H enc)
end Go.Proofs.Ytkonkmgijgchlaa.octetBack
