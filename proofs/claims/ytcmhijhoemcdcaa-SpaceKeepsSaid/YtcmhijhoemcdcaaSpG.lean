/-
  The document's own answers for layer 5 (hamperref05): Flags.
-/
import Derived.Test.YtcmhijhoemcdcaaSpO
namespace Go.Proofs.Ytcmhijhoemcdcaa
open Go.RowKit
set_option linter.unusedVariables false
set_option linter.unusedSimpArgs false
set_option maxRecDepth 100000

theorem infoBool : (Try.prog.info? 4).map (fun i => (i.zero, i.size, i.bytes)) = some (some (.bool false), 1, 1) := by kernel_rfl

theorem flagsL_succ (N : Nat) (l : List UInt8) : flagsL (N + 1) l = flagsL N l ++ [bitU l N] := by unfold flagsL; rw [List.range_succ, List.map_append]; rfl

/-- the flags so far -/
def FlI (w : World) (N : Int) (a : Option Addr) (n cap M : Nat) (l : List UInt8) (q : Nat) (v : Value) (u : World) : Prop :=
  ∃ av cv, v = .slice av (min q M) cv ∧ u.heap[w.heap.size]? = some (.cells (spV N a n cap) 24 (0, 0)) ∧
    u.ownsRow w.heap.size 4 1 (.slice av (min q M) cv) (min q M) (bvals (flagsL (min q M) l)) ∧ (∀ p, M ≤ p → p < q → bitU l p = false) ∧ Below w.heap.size w u
theorem FlI.skip {w u : World} {N : Int} {a : Option Addr} {n cap M q : Nat} {l : List UInt8} {v : Value} (h : FlI w N a n cap M l q v u) (hq : M ≤ q) (hb : bitU l q = false) : FlI w N a n cap M l (q + 1) v u := by
  obtain ⟨av, cv, e, hx, ho, hc, hbw⟩ := h
  have e1 : min (q + 1) M = min q M := by omega
  refine ⟨av, cv, by rw [e1]; exact e, hx, by rw [e1]; exact ho, fun p h1 h2 => ?_, hbw⟩
  by_cases hp : p = q
  · subst hp; exact hb
  · exact hc p h1 (by omega)
theorem FlI.more {w u' : World} {N : Int} {a av' : Option Addr} {n cap M q cv' : Nat} {l : List UInt8} (hq : q < M) (hx : u'.heap[w.heap.size]? = some (.cells (spV N a n cap) 24 (0, 0)))
    (ho : u'.ownsRow w.heap.size 4 1 (.slice av' (min q M + 1) cv') (min q M + 1) (bvals (flagsL (min q M) l) ++ [.bool (bitU l q)])) (hb : Below w.heap.size w u') :
    FlI w N a n cap M l (q + 1) (.slice av' (min q M + 1) cv') u' := by
  have e1 : min q M = q := by omega
  have e2 : min (q + 1) M = q + 1 := by omega
  rw [e1] at ho ⊢
  refine ⟨av', cv', by rw [e2], hx, ?_, fun p h1 h2 => by omega, hb⟩
  rw [e2, flagsL_succ]
  simpa [bvals] using ho

def FlagsTo (N : Int) (l : List UInt8) (w : World) (e : Ending) (w' : World) : Prop :=
  ∃ av cv, e = .returned (.tuple #[.slice av (if mayS N l then N.toNat else 0) cv, .bool (mayS N l)]) ∧ w'.ownsRow w.heap.size 4 1 (.slice av (if mayS N l then N.toNat else 0) cv) (if mayS N l then N.toNat else 0) (bvals (if mayS N l then flagsL N.toNat l else [])) ∧ Below w.heap.size w w'
theorem FlagsTo.no {N : Int} {l : List UInt8} {w w' : World} (h : mayS N l = false) (hb : Below w.heap.size w w') : FlagsTo N l w (.returned (.tuple #[.slice none 0 0, .bool false])) w' := by
  unfold FlagsTo
  rw [h]
  exact ⟨none, 0, rfl, World.ownsRow_nil _ _ _ _, hb⟩

set_option maxHeartbeats 4000000 in
theorem rflags_any (N : Int) (a : Option Addr) (n cap : Nat) (l : List UInt8) (w : World) (h : BytesAt w a n cap l) (hn : n ≤ 258) :
    Calls Try.prog 11 #[.agg (spV N a n cap)] w (FlagsTo N l w) := by
  have hb0 : Below w.heap.size w (w.alloc (.cells (spV N a n cap) 24)) := (Below.refl _ w).alloc (Nat.le_refl _) _
  have hl := h.1
  by_cases hok : 0 ≤ N ∧ N ≤ 2048 ∧ N ≤ 8 * n ∧ 8 * n < N + 8
  · obtain ⟨M, rfl⟩ : ∃ M : Nat, N = M := ⟨N.toNat, by omega⟩
    have hM : M ≤ 2048 := by omega
    have h1 : M ≤ 8 * n := by omega
    have h2 : 8 * n < M + 8 := by omega
    have HA := Lib.hid h
    have HLN := Lib.hid hl
    have H0 := Lib.hid (show FlI w M a n cap M l 0 (.slice none 0 0) (w.alloc (.cells (spV M a n cap) 24)) from ⟨none, 0, by simp, heap_alloc_new _ _, World.ownsRow_nil _ _ _ _, fun p _ h => by omega, hb0⟩)
    obtain ⟨i0, hi, hz0, hz1, hz2⟩ := info_parts infoBool
    have d1 : decide ((M : Int) < 0) = false := by simp
    have d2 : decide ((2048 : Int) < (M : Int)) = false := by simp; omega
    have d3 : decide ((n : Int) * 8 < (M : Int)) = false := by simp; omega
    have d4 : decide ((M : Int) + 8 ≤ (n : Int) * 8) = false := by simp; omega
    clear h hok hl hb0
    unfold spV at *
    go_enter Try.func11, Try.ntmps11
    go_wp2
    have HW := Lib.hid (show M = M from rfl)
    go_loopw [4, 5] (fun s4 s5 wr => ∃ i : Nat, i ≤ n ∧ s5 = .int .i64 i ∧ FlI w M a n cap M l (8 * i) s4 wr) (fun _ s5 _ => n - (intOf s5).toNat)
    case atStart => exact ⟨0, Nat.zero_le _, rfl, H0.out⟩
    case round =>
      obtain ⟨i, hin, rfl, hI⟩ := hrel
      by_cases hlt : i < n
      · have hii : (i : Int) < n := by omega
        obtain ⟨av0, cv0, rfl, hx, ho, hc, hbw⟩ := hI
        obtain ⟨b, off, rfl, hcell⟩ := (HA.out.below hbw).at (by omega)
        have hx0 := hcell i hlt
        obtain ⟨c0, c1⟩ := sp_cells hx
        have HI := Lib.hid (show FlI w M (some ⟨b, off, none⟩) n cap M l (8 * i) (.slice av0 (min (8 * i) M) cv0) wr from ⟨av0, cv0, rfl, hx, ho, hc, hbw⟩)
        obtain ⟨x, hxe⟩ : ∃ x, x = (l.getD i 0).toNat := ⟨_, rfl⟩
        rw [← hxe] at hx0
        have hx256 : x < 256 := by rw [hxe]; exact UInt8.toNat_lt _
        have HXE := Lib.hid hxe
        clear hcell ho hc hbw hx hxe H0
        obtain ⟨mm, hmm⟩ : ∃ mm, mm = min (8 * i) M := ⟨_, rfl⟩
        rw [← hmm] at HI ⊢
        clear hmm
        go_wp2
        go_loopw [6, 7, 4] (fun s6 s7 s4 wr2 => ∃ k : Nat, k ≤ 8 ∧ s7 = .int .i64 k ∧ s6 = .int .u8 (x / 2 ^ k : Nat) ∧ FlI w M (some ⟨b, off, none⟩) n cap M l (8 * i + k) s4 wr2) (fun _ s7 _ _ => 8 - (intOf s7).toNat)
        case atStart => exact ⟨0, by omega, rfl, by simp, HI.out⟩
        case round =>
          obtain ⟨k, hk, rfl, rfl, hI2⟩ := hrel
          by_cases hk8 : k < 8
          · obtain ⟨y, hy⟩ : ∃ y, y = x / 2 ^ k := ⟨_, rfl⟩
            have hyl : y < 256 := by rw [hy]; exact Nat.lt_of_le_of_lt (Nat.div_le_self _ _) hx256
            have hyn : y / 2 = x / 2 ^ (k + 1) := by rw [hy, Nat.div_div_eq_div_mul, Nat.pow_succ]
            obtain ⟨bv, hbv⟩ : ∃ bv, bv = bitU l (8 * i + k) := ⟨_, rfl⟩
            have hd : ((y : Int) % 2 == 1) = bv := by
              rw [hbv]
              unfold bitU
              rw [show (8 * i + k) / 8 = i by omega, show (8 * i + k) % 8 = k by omega, ← HXE.out, Nat.testBit_eq_decide_div_mod_eq, ← hy, Bool.eq_iff_iff]
              simp
              omega
            rw [← hy]
            have HBV := Lib.hid hbv
            have HYN := Lib.hid hyn
            have HY := Lib.hid hy
            clear hy hyn hbv
            obtain ⟨av, cv, rfl, hx, ho, hc, hbw⟩ := hI2
            obtain ⟨e0, e1⟩ := sp_cells hx
            have HX := Lib.hid hx
            have HO := Lib.hid ho
            have HC := Lib.hid hc
            have HB := Lib.hid hbw
            have hbs := hbw.size
            clear hx ho hc hbw HI
            by_cases hq : 8 * i + k < M
            · obtain ⟨q, hqe⟩ : ∃ q, q = min (8 * i + k) M := ⟨_, rfl⟩
              have hqM : q < M := by omega
              have hq3 : q ≤ 2048 := by omega
              rw [← hqe] at HO ⊢
              have HQ := Lib.hid hqe
              clear hqe
              go_wp2_with (at_builtin; refine wpList_append_own _ rfl _ _ 31 rfl w.heap.size 4 i0 (.bool false) 1 1 Try.underlying31 hi hz0 hz1 hz2 rfl (by decide) _ q _ rfl (HO.out.alloc _) ⟨wr.heap.size, 0, none⟩ 1 1 [.bool bv] rfl rfl (cell_one_new _ _ _) (by simp [Value.oneCell']) (by unfold maxLen; omega) (by omega) (by simp; omega) ?_; intro v' w1 hown' hgrow _; obtain ⟨g', cap', rfl⟩ := ownsRow_succ hown'; have hx1 := grown_cells HO.out HX.out (by decide) hgrow; have hb1 := grown_below' HO.out HB.out hbs hgrow)
              go_roundw
              case rel =>
                have hfl := FlI.more (l := l) (q := 8 * i + k) (av' := some ⟨g', 0, none⟩) (cv' := cap') hq hx1 (by rw [← HQ.out, ← HBV.out]; exact hown') hb1
                exact ⟨k + 1, by omega, by go_num, by rw [← HYN.out]; simp, by rw [← HQ.out] at hfl; exact hfl⟩
              case measure => simp [intOf]; omega
            · obtain ⟨q, hqe⟩ : ∃ q, q = min (8 * i + k) M := ⟨_, rfl⟩
              have hqM : ¬ q < M := by omega
              rw [← hqe] at HO ⊢
              have HQ := Lib.hid hqe
              cases hbe : bv with
              | true =>
                rw [hbe] at hd HBV
                have hno : mayS M l = false := by
                  cases hm : mayS M l with
                  | false => rfl
                  | true =>
                    simp only [mayS, Bool.and_eq_true, decide_eq_true_eq, List.all_eq_true, List.mem_range, Bool.or_eq_true, Int.toNat_natCast, Bool.not_eq_true'] at hm
                    rcases hm.2 (8 * i + k) (by rw [HLN.out]; omega) with h | h
                    · omega
                    · rw [← HBV.out] at h; cases h
                have HNO := Lib.hid hno
                clear hqe hbe hno
                go_wp2
                go_ret2
                exact FlagsTo.no HNO.out HB.out
              | false =>
                rw [hbe] at hd HBV
                clear hqe hbe
                go_wp2
                go_roundw
                case rel =>
                  have hfl := FlI.skip (q := 8 * i + k) (show FlI w M (some ⟨b, off, none⟩) n cap M l (8 * i + k) (.slice av q cv) wr from ⟨av, cv, by rw [← HQ.out], HX.out, by rw [← HQ.out]; exact HO.out, HC.out, HB.out⟩) (by omega) HBV.out.symm
                  exact ⟨k + 1, by omega, by go_num, by rw [← HYN.out]; simp, hfl⟩
                case measure => simp [intOf]; omega
          · obtain rfl : k = 8 := by omega
            go_wp2
            go_roundw
            case rel => exact ⟨i + 1, by omega, by go_num, hI2⟩
            case measure => simp [intOf]; omega
      · obtain rfl : i = n := by omega
        obtain ⟨av, cv, rfl, hx, ho, hc, hbw⟩ := hI
        obtain ⟨e0, e1⟩ := sp_cells hx
        have hmin : min (8 * i) M = M := by omega
        rw [hmin] at ho ⊢
        have HO := Lib.hid ho
        have HC := Lib.hid hc
        have HB := Lib.hid hbw
        clear hx ho hc hbw hmin
        go_wp2
        go_ret2
        have hmay : mayS M l = true := by
          simp only [mayS, Bool.and_eq_true, decide_eq_true_eq, List.all_eq_true, List.mem_range, Bool.or_eq_true, Int.toNat_natCast, Bool.not_eq_true']
          refine ⟨⟨⟨by omega, by omega⟩, by rw [HLN.out]; omega⟩, fun p hp => ?_⟩
          by_cases hpM : p < M
          · exact .inl hpM
          · exact .inr (HC.out p (by omega) (by rw [HLN.out] at hp; exact hp))
        unfold FlagsTo
        rw [hmay]
        exact ⟨av, cv, rfl, HO.out, HB.out⟩
  · have hm : mayS N l = false := by
      cases hm : mayS N l with
      | false => rfl
      | true =>
        obtain ⟨F, hF, rfl, rfl⟩ := (mayS_iff N l).1 hm
        rw [packB_length] at hl
        omega
    have HM := Lib.hid hm
    have HB := Lib.hid hb0
    clear h hm hb0 hl
    unfold spV at *
    go_enter Try.func11, Try.ntmps11
    go_wp2
    all_goals
      go_ret2
      exact FlagsTo.no HM.out HB.out

end Go.Proofs.Ytcmhijhoemcdcaa
