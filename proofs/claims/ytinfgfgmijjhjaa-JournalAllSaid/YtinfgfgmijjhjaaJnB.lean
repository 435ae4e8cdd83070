/-
  valid: may a disk of so many sectors have a transaction?
-/
import Derived.Test.YtinfgfgmijjhjaaJnA
import Derived.Test.YtinfgfgmijjhjaaMade
namespace Go.Proofs.Ytinfgfgmijjhjaa
open Go.RowKit
set_option linter.unusedVariables false
set_option linter.unusedSimpArgs false

theorem enterV1 (args : Array Value) (u : World) : (callFunc 67 args).run Try.prog u = .ok (.enter 67 args) u := by
  simp [callFunc, Try.func67, Try.f67, go_sem]

theorem v1_any (i j : Int) (a : Option Addr) (n cap B : Nat) (w : World) (hB : w.cell? ⟨B, 0, none⟩ = some (.int .i64 j)) (hlt : B < w.heap.size) :
    Calls Try.prog 67 #[.agg #[.int .i64 i, .slice a n cap], .pointer (some ⟨B, 0, none⟩)] w fun e w' => e = .returned (.bool (i == j)) ∧ Below w.heap.size w w' := by
  go_enter Try.func67, Try.ntmps67
  go_wp2
  go_ret
  exact ⟨rfl, (Below.refl _ _).alloc (Nat.le_refl _) _⟩

theorem CameAt.head {α : Type} {f : α → List Value} {size : Nat} {w : World} {a : Option Addr} {n cap m : Nat} {L : List α} (h : CameAt f size w a n cap L) (hm : m ≤ n) : CameAt f size w a m cap (L.take m) := by
  obtain ⟨h1, h2, h3, h4, h5⟩ := h
  refine ⟨by rw [List.length_take]; omega, by omega, h3, fun x hx => h4 x (List.mem_of_mem_take hx), ?_⟩
  rcases h5 with ⟨rfl, h6, h7⟩ | ⟨p, rfl, hp⟩
  · exact .inl ⟨rfl, by omega, h7⟩
  · refine .inr ⟨p, rfl, fun i j x hi hj => hp i j x ?_ hj⟩
    have him : i < m := by
      have := (List.getElem?_eq_some_iff.1 hi).1
      rw [List.length_take] at this; omega
    rwa [List.getElem?_take_of_lt him] at hi

/-- is there one at x among these? -/
def hasAt (M : List PutM) (x : Int) : Bool := M.any fun q => q.at_ == x
theorem hasAt_take (M : List PutM) (x : Int) (k : Nat) (hk : k < M.length) : hasAt (M.take (k + 1)) x = (hasAt (M.take k) x || (M.getD k default).at_ == x) := by
  unfold hasAt
  rw [List.take_succ_eq_append_getElem hk, List.any_append, List.getD, List.getElem?_eq_getElem hk]
  simp
theorem hasAt_hit (M : List PutM) (x : Int) (k : Nat) (hk : k < M.length) (h : ((M.getD k default).at_ == x) = true) : hasAt M x = true := by
  unfold hasAt
  rw [List.any_eq_true]
  exact ⟨M.getD k default, by rw [List.getD, List.getElem?_eq_getElem hk]; exact List.getElem_mem hk, h⟩

def IdxTo (b : Bool) (w : World) (e : Ending) (w' : World) : Prop := ∃ r : Int, e = .returned (.int .i64 r) ∧ decide (0 ≤ r) = b ∧ Below w.heap.size w w'

set_option maxHeartbeats 1000000 in
set_option maxRecDepth 100000 in
theorem index_any (a : Option Addr) (n cap B : Nat) (j : Int) (M : List PutM) (w : World) (h : CameAt putC 2 w a n cap M) (hB : w.cell? ⟨B, 0, none⟩ = some (.int .i64 j)) :
    Calls Try.prog 79 #[.slice a n cap, .func (.func 67) #[] #[.pointer (some ⟨B, 0, none⟩)]] w (IdxTo (hasAt M j) w) := by
  have hn : n ≤ 9223372036854775807 := by have := h.2.1; have := h.2.2.1; unfold maxLen at *; omega
  have HM := Lib.hid h
  have HB := Lib.hid hB
  have HLB := Lib.hid (block_lt hB)
  have HL := Lib.hid h.1
  have en := enterV1
  clear h hB
  go_enter Try.func79, Try.ntmps79
  go_wp2
  go_loopw [8] (fun i wr => ∃ k : Nat, k ≤ n ∧ i = .int .i64 k ∧ Below w.heap.size w wr ∧ hasAt (M.take k) j = false) (fun i _ => n - (intOf i).toNat)
  case atStart => exact ⟨0, Nat.zero_le _, rfl, Below.refl _ _, rfl⟩
  case round =>
    obtain ⟨k, hk, rfl, hb, hno⟩ := hrel
    have HBL := Lib.hid hb
    have HNO := Lib.hid hno
    clear hb hno
    by_cases hlt : k < n
    · have hst := hasAt_take M j k (by rw [HL.out]; exact hlt)
      have hit := hasAt_hit M j k (by rw [HL.out]; exact hlt)
      rw [HNO.out, Bool.false_or] at hst
      obtain ⟨b, off, rfl, _, hc⟩ := (HM.out.below (by omega) HBL.out).at (by omega) (by omega)
      have hx : M[k]? = some (M.getD k default) := by rw [List.getD, List.getElem?_eq_getElem (by rw [HL.out]; exact hlt)]; rfl
      have hr : wr.rangeAt b (off + k * 2) (putC (M.getD k default)) := fun i u hu => by
        have hj : i < 2 := by rw [← putC_length (M.getD k default)]; exact (List.getElem?_eq_some_iff.1 hu).1
        rw [Nat.add_assoc, hc k i _ hx hj, hu]
      have HR := Lib.hid hr
      have hki : (k : Int) < (n : Int) := by omega
      clear hc hx hr
      generalize M.getD k default = x at *
      obtain ⟨xi, xa, xn, xc, xb⟩ := x
      dsimp only at hst hit
      have CV := Lib.hid (v1_any xi j xa xn xc B wr (by rw [HBL.out.cell (p := ⟨B, 0, none⟩) HLB.out]; exact HB.out) (Nat.lt_of_lt_of_le HLB.out HBL.out.size))
      generalize hbj : (xi == j) = bj at *
      have hbj := Lib.hid hbj
      cases bj with
      | false =>
        have HST := Lib.hid hst
        clear hst hit
        go_upto_region 4 with fail
        go_wp2_with (first
          | (refine wpList_load_mid rfl 69 _ rfl b (off + k * 2) rfl [.int .i64 xi, .slice xa xn xc] _ HR.out Try.underlying69 rfl sizePut ?_)
          | (refine (CV.out).mono ?_; rintro e w1 ⟨rfl, hb1⟩))
        go_roundw
        case rel => exact ⟨k + 1, by omega, by go_num, HBL.out.trans (hb1.mono HBL.out.size), HST.out⟩
        case measure => simp [intOf]; omega
      | true =>
        have HIT := Lib.hid (hit rfl)
        clear hst hit
        go_wp2_with (first
          | (refine wpList_load_mid rfl 69 _ rfl b (off + k * 2) rfl [.int .i64 xi, .slice xa xn xc] _ HR.out Try.underlying69 rfl sizePut ?_)
          | (refine (CV.out).mono ?_; rintro e w1 ⟨rfl, hb1⟩))
        go_ret
        exact ⟨k, rfl, by rw [HIT.out]; simp, HBL.out.trans (hb1.mono HBL.out.size)⟩
    · obtain rfl : k = n := by omega
      have hno := HNO.out
      rw [List.take_of_length_le (by rw [HL.out]; omega)] at hno
      have HN2 := Lib.hid hno
      clear hno
      go_wp2
      go_ret
      exact ⟨-1, rfl, by rw [HN2.out]; rfl, HBL.out⟩

theorem contains_any (a : Option Addr) (n cap B : Nat) (j : Int) (M : List PutM) (w : World) (h : CameAt putC 2 w a n cap M) (hB : w.cell? ⟨B, 0, none⟩ = some (.int .i64 j)) :
    Calls Try.prog 66 #[.slice a n cap, .func (.func 67) #[] #[.pointer (some ⟨B, 0, none⟩)]] w fun e w' => e = .returned (.bool (hasAt M j)) ∧ Below w.heap.size w w' := by
  have CI := Lib.hid (index_any a n cap B j M w h hB)
  clear h hB
  generalize hasAt M j = b at *
  go_enter Try.func66, Try.ntmps66
  go_wp2_with (go_at_call 79; refine (CI.out).mono ?_; rintro e w1 ⟨r, rfl, hr, hb⟩)
  go_ret
  exact ⟨rfl, hb⟩

theorem okAt_M (M : List PutM) (size : Int) (k : Nat) (hk : k < M.length) :
    okAt (M.map PutM.pt) size k = (!hasAt (M.take k) (M.getD k default).at_ && (decide (41 ≤ (M.getD k default).at_) && (decide ((M.getD k default).at_ < size) && decide ((M.getD k default).b.length = 128)))) := by
  unfold okAt hasAt
  rw [pts_getD M k hk, ← List.map_take, List.any_map]
  rfl
theorem may_of_all (L : List Pt) (size : Int) (h1 : 1 ≤ L.length) (h2 : L.length ≤ 40) (h : ∀ k, k < L.length → okAt L size k = true) : mayB L size = true := (may_iff L size).2 ⟨h1, h2, h⟩
theorem may_not (L : List Pt) (size : Int) (h : ¬ (1 ≤ L.length ∧ L.length ≤ 40 ∧ ∀ k, k < L.length → okAt L size k = true)) : mayB L size = false := by
  cases hm : mayB L size with
  | false => rfl
  | true =>
    have := (may_iff L size).1 hm
    exact absurd ⟨this.one, this.few, this.ok⟩ h

set_option maxHeartbeats 2000000 in
set_option maxRecDepth 100000 in
theorem valid_any (U : Nat → Prop) (a : Option Addr) (n cap : Nat) (M : List PutM) (size : Int) (w : World) (h : PutsIn w U a n cap M) :
    Calls Try.prog 34 #[.slice a n cap, .int .i64 size] w fun e w' => e = .returned (.bool (mayB (M.map PutM.pt) size)) ∧ Below w.heap.size w w' := by
  have hn := h.len
  have hlen : (M.map PutM.pt).length = n := by rw [List.length_map, h.mlen]
  by_cases hfew : n < 1 ∨ 40 < n
  · have hno := may_not (M.map PutM.pt) size (by rw [hlen]; omega)
    rw [hno]
    clear hno hlen h
    rcases hfew with hfew | hfew
    · have h0 : n = 0 := by omega
      subst h0
      go_enter Try.func34, Try.ntmps34
      go_wp2
      go_ret
      exact ⟨rfl, Below.refl _ _⟩
    · go_enter Try.func34, Try.ntmps34
      go_wp2
      go_ret
      exact ⟨rfl, Below.refl _ _⟩
  have h1 : 1 ≤ n := by omega
  have h2 : n ≤ 40 := by omega
  have HP := Lib.hid h
  have HL := Lib.hid hlen
  have HML := Lib.hid h.mlen
  clear hfew h hlen
  go_enter Try.func34, Try.ntmps34
  go_wp2
  go_loopw [18] (fun i wr => ∃ k : Nat, k ≤ n ∧ i = .int .i64 k ∧ Below w.heap.size w wr ∧ ∀ j, j < k → okAt (M.map PutM.pt) size j = true) (fun i _ => n - (intOf i).toNat)
  case atStart => exact ⟨0, Nat.zero_le _, rfl, Below.refl _ _, fun j hj => by omega⟩
  case round =>
    obtain ⟨k, hk, rfl, hb, hok⟩ := hrel
    have HB := Lib.hid hb
    have HOK := Lib.hid hok
    clear hb hok
    by_cases hlt : k < n
    · have hlk : k < M.length := by rw [HML.out]; exact hlt
      have hoM := okAt_M M size k hlk
      obtain ⟨b, off, rfl, hUb, hcell⟩ := (HP.out.below HB.out).at (by omega)
      obtain ⟨_, _, hr⟩ := hcell k hlt
      have HR := Lib.hid hr
      have HBY := Lib.hid (((HP.out.below HB.out).bytes _ (HP.out.mem k hlt)).1)
      have HC := Lib.hid ((HP.out.below HB.out).came.head (m := k) (by omega))
      have hki : (k : Int) < (n : Int) := by omega
      have hkn : (k : Int) ≤ (n : Int) := by omega
      have hcap : n ≤ cap := HP.out.came.2.1
      have hcapI : (k : Int) ≤ (cap : Int) := by omega
      clear hcell hr
      generalize M.getD k default = x at *
      obtain ⟨xi, xa, xn, xc, xb⟩ := x
      dsimp only at HBY hoM
      have hxn := HBY.out
      subst hxn
      have CC := Lib.hid (contains_any (some ⟨b, off, none⟩) k cap wr.heap.size xi (M.take k) (wr.alloc (.cells #[.int .i64 xi, .slice xa xb.length xc] 69)) (HC.out.below (by omega) ((Below.refl _ _).alloc (Nat.le_refl _) _)) (by rw [cell_of_row _ _ _ _ _ _ (heap_alloc_new wr _)]; rfl))
      generalize hasAt (M.take k) xi = tw at *
      have hall : ∀ bb : Bool, okAt (M.map PutM.pt) size k = bb → (bb = true → ∀ j, j < k + 1 → okAt (M.map PutM.pt) size j = true) ∧ (bb = false → mayB (M.map PutM.pt) size = false) := fun bb hbb => by
        refine ⟨fun hbt j hj => ?_, fun hbf => may_not _ _ fun hh => ?_⟩
        · by_cases hjk : j = k
          · subst hjk; rw [hbb, hbt]
          · exact HOK.out j (by omega)
        · have := hh.2.2 k (by rw [HL.out]; exact hlt)
          rw [hbb, hbf] at this; cases this
      rw [hoM] at hall
      have HA := Lib.hid (hall _ rfl)
      clear hall hoM HP HC HBY
      cases tw with
      | true =>
        have HF := Lib.hid (HA.out.2 rfl)
        clear HA
        go_wp2_with (first
          | (refine wpList_load_mid rfl 69 _ rfl b (off + k * 2) rfl [.int .i64 xi, .slice xa xb.length xc] _ HR.out Try.underlying69 rfl sizePut ?_)
          | (go_at_call 66; refine (CC.out).mono ?_; rintro e w1 ⟨rfl, hb1⟩))
        go_ret
        rw [HF.out]
        exact ⟨rfl, (HB.out.alloc HB.out.size _).trans (hb1.mono (by simp; have := HB.out.size; omega))⟩
      | false =>
        simp only [Bool.not_false, Bool.true_and] at HA
        go_wp2_with (refine wpList_load_mid rfl 69 _ rfl b (off + k * 2) rfl [.int .i64 xi, .slice xa xb.length xc] _ HR.out Try.underlying69 rfl sizePut ?_)
        refine (CC.out).mono ?_
        rintro e w1 ⟨rfl, hb1⟩
        have t1 := (hb1.block wr.heap.size (by simp)).trans (heap_alloc_new wr _)
        have c0 : w1.cell? ⟨wr.heap.size, 0, none⟩ = some (.int .i64 xi) := by rw [cell_of_row _ _ _ _ _ _ t1]; rfl
        have c1 : w1.cell? ⟨wr.heap.size, 1, none⟩ = some (.slice xa xb.length xc) := by rw [cell_of_row _ _ _ _ _ _ t1]; rfl
        have HB1 := Lib.hid ((HB.out.alloc HB.out.size _).trans (hb1.mono (by simp; have := HB.out.size; omega)) : Below w.heap.size w w1)
        clear t1 hb1 CC
        by_cases d1 : 41 ≤ xi
        · by_cases d2 : xi < size
          · by_cases d3 : xb.length = 128
            · have HT := Lib.hid (HA.out.1 (by simp [d1, d2, d3]))
              have d4 : ((xb.length : Int) == 128) = true := by simp; omega
              have d5 : ((xb.length : Int) != 128) = false := by simp; omega
              have d6 : decide (xi < 41) = false := by simp; omega
              have d7 : decide (size ≤ xi) = false := by simp; omega
              clear HA d3
              go_wp2
              go_roundw
              case rel => exact ⟨k + 1, by omega, by go_num, HB1.out, HT.out⟩
              case measure => simp [intOf]; omega
            · have HF := Lib.hid (HA.out.2 (by simp [d3]))
              have d4 : ((xb.length : Int) == 128) = false := by simp; omega
              have d5 : ((xb.length : Int) != 128) = true := by simp; omega
              have d6 : decide (xi < 41) = false := by simp; omega
              have d7 : decide (size ≤ xi) = false := by simp; omega
              clear HA d3
              go_wp2
              go_ret
              rw [HF.out]
              exact ⟨rfl, HB1.out⟩
          · have HF := Lib.hid (HA.out.2 (by simp [d2]))
            have d6 : decide (xi < 41) = false := by simp; omega
            have d7 : decide (size ≤ xi) = true := by simp; omega
            clear HA
            go_wp2
            go_ret
            rw [HF.out]
            exact ⟨rfl, HB1.out⟩
        · have HF := Lib.hid (HA.out.2 (by simp [d1]))
          have d6 : decide (xi < 41) = true := by simp; omega
          clear HA
          go_wp2
          go_ret
          rw [HF.out]
          exact ⟨rfl, HB1.out⟩
    · obtain rfl : k = n := by omega
      have HT := Lib.hid (may_of_all (M.map PutM.pt) size (by rw [HL.out]; exact h1) (by rw [HL.out]; exact h2) (by rw [HL.out]; exact HOK.out))
      go_wp2
      go_ret
      rw [HT.out]
      exact ⟨rfl, HB.out⟩

end Go.Proofs.Ytinfgfgmijjhjaa
