/-
  Contracts of package canon: New, Take.
-/
import Derived.Test.YtgfdonmkhmolpaaCnD
import Derived.Test.YtgfdonmkhmolpaaCnT
namespace Go.Proofs.Ytgfdonmkhmolpaa
open Go.RowKit Go.Deep
set_option linter.unusedVariables false
set_option linter.unusedSimpArgs false
set_option maxRecDepth 100000

/-! ### the maths of Take -/
/-- lengths that one can read by -/
def DecN (ls : List Nat) : Prop := (∀ x ∈ ls, x ≤ 15) ∧ ls.length ≤ 320 ∧ (kraft ls = 32768 ∨ (kraft ls < 32768 ∧ loneN ls = true))
theorem newE_dec (L : List Int) (h : newE L = 0) : DecN (natsL L) ∧ validL L = true := by
  have hc := checkE_cases L
  unfold newE at h
  have hlo : (decide ((orderN (natsL L)).length = 0 ∨ ((orderN (natsL L)).length = 1 ∧ (natsL L).getD ((orderN (natsL L)).getD 0 0) 0 = 1))) = loneN (natsL L) := rfl
  have hv : validL L = true := by
    rcases hc with ⟨h1, _⟩ | ⟨h1, _⟩
    · rw [h1] at h; simp at h
    · exact h1
  obtain ⟨h15, hlen, _⟩ := valid_nats L hv
  refine ⟨⟨h15, hlen, ?_⟩, hv⟩
  have hE : checkE L = if 32768 < kraft (natsL L) then 8 else if kraft (natsL L) < 32768 then 2 else 0 := by unfold checkE; rw [if_neg (by rw [hv]; simp)]
  by_cases h1 : 32768 < kraft (natsL L)
  · rw [if_pos h1] at hE
    rw [hE] at h; simp at h
  · rw [if_neg h1] at hE
    by_cases h2 : kraft (natsL L) < 32768
    · rw [if_pos h2] at hE
      right
      refine ⟨h2, ?_⟩
      rw [← hlo, decide_eq_true_iff]
      by_cases h3 : (orderN (natsL L)).length = 0 ∨ ((orderN (natsL L)).length = 1 ∧ (natsL L).getD ((orderN (natsL L)).getD 0 0) 0 = 1)
      · exact h3
      · rw [if_neg (fun hh => h3 hh.2), hE] at h; simp at h
    · left; omega
theorem orderN_sum1 (ls : List Nat) : (orderN ls).length = (ls.map fun x => if x = 0 ∨ 15 < x then 0 else 1).sum := by unfold orderN; exact orderTo_sum ls 15
theorem kraft_order (ls : List Nat) (h : ∀ x ∈ ls, x ≤ 15) : kraft ls ≤ 16384 * (orderN ls).length := by
  rw [orderN_sum1]
  unfold kraft
  induction ls with
  | nil => simp
  | cons x l ih =>
    have ih := ih fun y hy => h y (List.mem_cons_of_mem _ hy)
    have hx := h x List.mem_cons_self
    simp only [List.map_cons, List.sum_cons]
    by_cases h0 : x = 0
    · rw [if_pos h0, if_pos (.inl h0)]; omega
    · rw [if_neg h0, if_neg (by omega)]
      have : 2 ^ (15 - x) ≤ 2 ^ 14 := Nat.pow_le_pow_right (by omega) (by omega)
      have h14 : (2 : Nat) ^ 14 = 16384 := by decide
      omega
theorem orderTo_mono (ls : List Nat) (k : Nat) (hk : k ≤ 15) : (orderTo ls k).length ≤ (orderN ls).length := by
  obtain ⟨R, hR⟩ := orderTo_prefix ls k (15 - k)
  unfold orderN
  rw [show (15 : Nat) = k + (15 - k) by omega, hR, List.length_append]
  omega
theorem lone_one (ls : List Nat) (h : loneN ls = true) (h1 : (orderN ls).length = 1) : cntN ls 1 = 1 := by
  unfold loneN at h
  rw [decide_eq_true_iff] at h
  rcases h with h | ⟨_, h⟩
  · omega
  · have hm : (orderN ls)[0]? = some ((orderN ls).getD 0 0) := by rw [List.getD, List.getElem?_eq_getElem (by omega)]; rfl
    obtain ⟨_, hi, _, _⟩ := foldC_code ls 0 _ hm
    have hr := rankN_lt ls _ hi (by rw [h]; omega)
    rw [h] at hr
    have := orderN_sum ls
    omega
/-- all codes are of k bits at most: the codes fill everything -/
theorem kraftTo_full (ls : List Nat) (k : Nat) (hk : k ≤ 15) (h15 : ∀ x ∈ ls, x ≤ 15) (he : (orderTo ls k).length = (orderN ls).length) : kraftTo ls k * 2 ^ (15 - k) = kraft ls := by
  have key : ∀ d, k + d ≤ 15 → kraftTo ls (k + d) = kraftTo ls k * 2 ^ d := by
    intro d
    induction d with
    | zero => intro _; simp
    | succ d ih =>
      intro hd
      have h1 := ih (by omega)
      have h2 := orderTo_len ls (k + d)
      have h3 := orderTo_mono ls (k + d + 1) (by omega)
      have h4 : (orderTo ls k).length ≤ (orderTo ls (k + d)).length := by obtain ⟨R, hR⟩ := orderTo_prefix ls k d; rw [hR, List.length_append]; omega
      have h5 : cntN ls (k + d + 1) = 0 := by omega
      rw [show k + (d + 1) = (k + d) + 1 by omega, kraftTo_succ, h5, h1, Nat.pow_succ, Nat.add_zero]
      rw [Nat.mul_comm 2, Nat.mul_assoc]
  have := key (15 - k) (by omega)
  rw [show k + (15 - k) = 15 by omega, kraftTo_all ls h15] at this
  exact this.symm
theorem dec_more (ls : List Nat) (hd : DecN ls) (k : Nat) (hk : k ≤ mostN ls) (hs : (orderTo ls k).length < (orderN ls).length) : k < mostN ls := by
  obtain ⟨h15, _, hd⟩ := hd
  have hko := kraft_order ls h15
  unfold mostN at *
  by_cases h2 : (orderN ls).length < 2
  · rw [if_pos h2] at *
    rcases Nat.lt_or_ge k (orderN ls).length with h | h
    · exact h
    · have hk1 : k = 1 := by omega
      have hl1 : (orderN ls).length = 1 := by omega
      have hlo : loneN ls = true := by
        rcases hd with hd | hd
        · omega
        · exact hd.2
      have := lone_one ls hlo hl1
      have h3 := orderTo_len ls 0
      subst hk1
      simp only [Nat.zero_add] at h3
      omega
  · rw [if_neg h2] at *
    rcases Nat.lt_or_ge k 15 with h | h
    · exact h
    · have : k = 15 := by omega
      subst this
      exact absurd hs (Nat.lt_irrefl _)
theorem dec_end (ls : List Nat) (hd : DecN ls) (F : List Bool) (at_ k bh : Nat) (hk : k ≤ mostN ls) (hb : bh + kraftTo ls k = topN F at_ k) (hs : ¬ (orderTo ls k).length < (orderN ls).length) : k = mostN ls := by
  obtain ⟨h15, _, hd⟩ := hd
  have hko := kraft_order ls h15
  have hm : mostN ls = if (orderN ls).length < 2 then (orderN ls).length else 15 := rfl
  by_cases h2 : (orderN ls).length < 2
  · rw [if_pos h2] at hm
    rcases Nat.lt_or_ge k (mostN ls) with h | h
    · have : k = 0 := by omega
      subst this
      have h0 : (orderTo ls 0).length = 0 := by simp [orderTo]
      omega
    · omega
  · rw [if_neg h2] at hm
    exfalso
    have hk15 : k ≤ 15 := by omega
    have he : (orderTo ls k).length = (orderN ls).length := by have := orderTo_mono ls k hk15; omega
    have hf := kraftTo_full ls k hk15 h15 he
    have hlt := topN_lt F at_ k
    have hK : kraft ls = 32768 := by
      rcases hd with hd | ⟨_, hd⟩
      · exact hd
      · unfold loneN at hd; rw [decide_eq_true_iff] at hd; omega
    have h1 : kraftTo ls k < 2 ^ k := by omega
    have h3 : 2 ^ k * 2 ^ (15 - k) = 32768 := by rw [← Nat.pow_add, show k + (15 - k) = 15 by omega]
    have h4 : kraftTo ls k * 2 ^ (15 - k) < 2 ^ k * 2 ^ (15 - k) := Nat.mul_lt_mul_of_pos_right h1 (Nat.pow_pos (by omega))
    omega
/-- one bit more: a code, or none -/
theorem dec_hit (ls : List Nat) (k bh q : Nat) (hk : k < 15) (hb : bh + firstN ls (k + 1) = q) (hc : bh < cntN ls (k + 1)) : ∃ i, symOf ls (k + 1) q = some i ∧ (orderN ls)[(orderTo ls k).length + bh]? = some i := by
  have hl : bh < (symsN ls (k + 1)).length := by rw [symsN_cnt ls _ (by omega)]; exact hc
  obtain ⟨i, h1, _⟩ := symsN_at ls (k + 1) bh hl
  refine ⟨i, ?_, ?_⟩
  · unfold symOf
    rw [if_neg (by omega), show q - firstN ls (k + 1) = bh by omega]; exact h1
  · rw [order_row ls k bh (by omega) hl]; exact h1
theorem dec_miss (ls : List Nat) (k bh q : Nat) (hb : bh + firstN ls (k + 1) = q) (hc : ¬ bh < cntN ls (k + 1)) : symOf ls (k + 1) q = none := by
  cases hs : symOf ls (k + 1) q with
  | none => rfl
  | some i =>
    have := (symOf_some ls (k + 1) q (by omega)).1 (by rw [hs]; rfl)
    omega

/-! ### New -/
/-- a decoder -/
def DecS (n0 : Nat) (w : World) (D : Nat) (ls : List Nat) : Prop :=
  ∃ a n cap, w.heap[D]? = some (.cells ((row16 .i64 (cntN ls)).push (.slice a n cap)) 67 (0, 0)) ∧ Recs numI w 3 1 (.slice a n cap) (orderN ls) ∧ (orderN ls).length = n ∧ n0 ≤ D ∧ ∀ k, (Value.slice a n cap).ownBlock = some k → n0 ≤ k
theorem DecS.lt {n0 : Nat} {w : World} {D : Nat} {ls : List Nat} (h : DecS n0 w D ls) : D < w.heap.size := by obtain ⟨a, n, cap, h, _⟩ := h; exact (Array.getElem?_eq_some_iff.1 h).1
theorem DecS.le {n0 : Nat} {w : World} {D : Nat} {ls : List Nat} (h : DecS n0 w D ls) : n0 ≤ w.heap.size := by have := h.lt; obtain ⟨a, n, cap, _, _, _, h, _⟩ := h; omega
theorem DecS.below {n0 : Nat} {w w' : World} {D : Nat} {ls : List Nat} (h : DecS n0 w D ls) (hb : Below w.heap.size w w') : DecS n0 w' D ls := by
  have hlt := h.lt
  obtain ⟨a, n, cap, h1, h2, h3, h4, h5⟩ := h
  exact ⟨a, n, cap, (hb.block D hlt).trans h1, h2.below hb, h3, h4, h5⟩
theorem RdS.boxed {n0 : Nat} {w : World} {B : Nat} {l : List UInt8} {p : Nat} (h : RdS n0 w B l p) : ∃ c, w.heap[B]? = some (.cells c 70 (0, 0)) := by obtain ⟨a, c, h1, _⟩ := h; exact ⟨_, h1.1⟩
theorem DecS.only {n0 : Nat} {w w' : World} {D : Nat} {ls : List Nat} {B : Nat} (h : DecS n0 w D ls) (ho : Only (fun i => i = B) w w') (hB : ∃ c, w.heap[B]? = some (.cells c 70 (0, 0))) : DecS n0 w' D ls := by
  have hlt := h.lt
  obtain ⟨a, n, cap, h1, h2, h3, h4, h5⟩ := h
  obtain ⟨c, hB⟩ := hB
  refine ⟨a, n, cap, (ho.block D hlt ?_).trans h1, h2.only ho fun k hk e => h2.ne_of hB (by decide) k hk e, h3, h4, h5⟩
  intro e
  rw [← e, h1] at hB
  injection hB with hB
  injection hB with _ hB
  exact absurd hB (by decide)

theorem row16_lit (k : IntKind) (c : Nat → Nat) : row16 k c = #[.int k (c 0 : Int), .int k (c 1 : Int), .int k (c 2 : Int), .int k (c 3 : Int), .int k (c 4 : Int), .int k (c 5 : Int), .int k (c 6 : Int), .int k (c 7 : Int), .int k (c 8 : Int), .int k (c 9 : Int), .int k (c 10 : Int), .int k (c 11 : Int), .int k (c 12 : Int), .int k (c 13 : Int), .int k (c 14 : Int), .int k (c 15 : Int)] := rfl
theorem row16_push (k : IntKind) (c : Nat → Nat) (v : Value) : (row16 k c).push v = #[.int k (c 0 : Int), .int k (c 1 : Int), .int k (c 2 : Int), .int k (c 3 : Int), .int k (c 4 : Int), .int k (c 5 : Int), .int k (c 6 : Int), .int k (c 7 : Int), .int k (c 8 : Int), .int k (c 9 : Int), .int k (c 10 : Int), .int k (c 11 : Int), .int k (c 12 : Int), .int k (c 13 : Int), .int k (c 14 : Int), .int k (c 15 : Int), v] := rfl

set_option maxHeartbeats 4000000 in
theorem cnNewP_any (a : Option Addr) (n cap : Nat) (L : List Int) (w : World) (h : IntsAt w a n cap L) :
    Calls Try.prog 12 #[.slice a n cap] w fun e w' => Below w.heap.size w w' ∧ ((newE L ≠ 0 ∧ e = .returned (.tuple #[.pointer none, .int .i64 (newE L)])) ∨ (newE L = 0 ∧ ∃ D, e = .returned (.tuple #[.pointer (some ⟨D, 0, none⟩), .int .i64 0]) ∧ DecS w.heap.size w' D (natsL L))) := by
  have C1 := Lib.hid (cnChk_any a n cap L w h)
  have HCS := Lib.hid (checkE_cases L)
  have HNE := Lib.hid (show newE L = if checkE L = 2 ∧ loneN (natsL L) = true then 0 else checkE L by
    unfold newE loneN
    simp only [decide_eq_true_iff])
  have HDE := Lib.hid (newE_dec L)
  have HL := Lib.hid h
  have C3 := Lib.hid (fun u => cnLone_any (natsL L) u)
  have C2 := Lib.hid (fun (hv : validL L = true) u (hb : Below w.heap.size w u) => cnTally_any a n cap L u (CameAt.below h (Nat.le_refl _) hb) hv)
  have C4 := Lib.hid (fun (hn : n ≤ 1000000) u (hb : Below w.heap.size w u) => cnIn_any a n cap L u (CameAt.below h (Nat.le_refl _) hb) hn)
  have HN := Lib.hid (fun (hv : validL L = true) => show n ≤ 1000000 by
    have := (valid_nats L hv).2.1; unfold natsL at this; rw [List.length_map, h.1] at this; omega)
  generalize newE L = N at *
  generalize checkE L = E at *
  clear h
  go_enter Try.func12, Try.ntmps12
  go_wp2_with fail
  refine C1.out.mono ?_
  rintro e w1 ⟨rfl, hb1⟩
  have B1 := Lib.hid hb1
  clear C1 hb1
  go_upto_region 2 with (fail)
  go_cut [13] (fun s13 wx => Below w.heap.size w wx ∧ ∃ b, s13 = .bool b ∧ N = if b = true then 0 else E)
  case first =>
    by_cases hE : E = 2
    · subst hE
      have hv : validL L = true := by
        rcases HCS.out with ⟨h1, _⟩ | ⟨h1, _⟩
        · omega
        · exact h1
      have C2' := Lib.hid (C2.out hv w1 B1.out)
      clear hv HDE
      have C3' := Lib.hid C3.out
      generalize tallyV (natsL L) = TV at *
      clear C3
      cases hlo : loneN (natsL L) with
      | true =>
        rw [hlo] at C3'
        have HNN := Lib.hid (show N = 0 by rw [HNE.out, hlo]; rfl)
        clear hlo
        go_wp2_with fail
        refine C2'.out.mono ?_
        rintro e w2 ⟨rfl, hb2⟩
        have B2 := Lib.hid (B1.out.trans (hb2.mono B1.out.size))
        clear hb2 C2'
        go_wp2_with fail
        refine (C3'.out _).mono ?_
        rintro e w3 ⟨rfl, hb3⟩
        have B3 := Lib.hid (B2.out.trans (hb3.mono B2.out.size))
        clear hb3 C3'
        go_wp2
        go_meet
        exact ⟨B3.out, _, rfl, HNN.out⟩
      | false =>
        rw [hlo] at C3'
        have HNN := Lib.hid (show N = 2 by rw [HNE.out, hlo]; rfl)
        clear hlo
        go_wp2_with fail
        refine C2'.out.mono ?_
        rintro e w2 ⟨rfl, hb2⟩
        have B2 := Lib.hid (B1.out.trans (hb2.mono B1.out.size))
        clear hb2 C2'
        go_wp2_with fail
        refine (C3'.out _).mono ?_
        rintro e w3 ⟨rfl, hb3⟩
        have B3 := Lib.hid (B2.out.trans (hb3.mono B2.out.size))
        clear hb3 C3'
        go_wp2
        go_meet
        exact ⟨B3.out, _, rfl, HNN.out⟩
    · have hEb : (E == 2) = false := by simpa using hE
      have HNN := Lib.hid (show N = E by rw [HNE.out, if_neg (fun hh => hE hh.1)])
      clear hE
      go_wp2
      go_meet
      exact ⟨B1.out, _, rfl, HNN.out⟩
  case rest =>
  obtain ⟨hbc, b, rfl, hN⟩ := hcut
  have HNB := Lib.hid hN
  clear hN
  rename World => w7
  have B7 := Lib.hid hbc
  clear hbc
  go_upto_if 13 with (fail)
  go_cut [4] (fun s4 wx => wx = w7 ∧ s4 = .int .i64 N)
  case first =>
    cases b with
    | true =>
      have HX := Lib.hid (show N = 0 from HNB.out)
      go_wp2
      go_meet
      exact ⟨rfl, by rw [HX.out]⟩
    | false =>
      have HX := Lib.hid (show N = E from HNB.out)
      go_wp2
      go_meet
      exact ⟨rfl, by rw [HX.out]⟩
  case rest =>
  obtain ⟨hwc, rfl⟩ := hcut
  subst hwc
  have hbc := B7.out
  clear B7 HNB
  have BC := Lib.hid hbc
  clear hbc C3
  by_cases h0 : N = 0
  · subst h0
    have hv := (HDE.out rfl).2
    have C2' := Lib.hid (C2.out hv wc BC.out)
    have C4' := Lib.hid (C4.out (HN.out hv))
    clear hv HDE C2 C4 HN
    generalize hls : natsL L = ls at *
    have HLS := Lib.hid hls
    clear hls
    have HTV := Lib.hid (show tallyV ls = row16 .i64 (cntN ls) from rfl)
    generalize tallyV ls = TV at *
    go_wp2_with fail
    refine C2'.out.mono ?_
    rintro e w2 ⟨rfl, hb2⟩
    have B2 := Lib.hid (BC.out.trans (hb2.mono BC.out.size))
    clear hb2 C2'
    go_wp2_with fail
    refine (C4'.out _ B2.out).mono ?_
    rintro e w3 ⟨ra, rn, rc, rfl, hI⟩
    have HI := Lib.hid hI
    have B3 := Lib.hid (B2.out.trans (hI.2.2.2.mono B2.out.size))
    clear hI C4'
    rw [HTV.out, row16_lit]
    have HPU := Lib.hid (row16_push .i64 (cntN ls) (.slice ra rn rc))
    clear HTV
    go_wp2
    have HD := Lib.hid (show DecS w.heap.size (w3.alloc (.cells ((row16 .i64 (cntN ls)).push (.slice ra rn rc)) 67)) w3.heap.size (natsL L) by
      rw [HLS.out]
      exact ⟨ra, rn, rc, heap_alloc_new _ _, HI.out.1.below ((Below.refl _ _).alloc (Nat.le_refl _) _), HI.out.2.1, B3.out.size, fun k hk => Nat.le_trans B2.out.size (HI.out.2.2.1 k hk)⟩)
    have HB9 := Lib.hid (B3.out.alloc B3.out.size (.cells ((row16 .i64 (cntN ls)).push (.slice ra rn rc)) 67))
    rw [HPU.out] at HD HB9
    go_ret2
    exact ⟨HB9.out, _, rfl, HD.out⟩
  · have h0b : (N != 0) = true := by simpa using h0
    go_wp2
    go_ret2
    exact ⟨BC.out, .inl ⟨h0, rfl⟩⟩

/-! ### Take -/
/-- a symbol, and a reader that was read on -/
def TakeTo (n1 B : Nat) (l : List UInt8) (r : Nat × Nat × Int) (w : World) (e : Ending) (w' : World) : Prop :=
  e = .returned (.tuple #[.int .i64 (r.1 : Int), .int .i64 r.2.2]) ∧ RdK n1 B l r.2.1 w w'
theorem takeR_one (l : List UInt8) (p : Nat) : takeR l p 1 = if 8 * l.length ≤ p then (0, 2, p) else (((ofL l).getD p false).toNat, 0, p + 1) := by
  unfold takeR
  rw [if_neg (by decide)]
  by_cases h : 8 * l.length ≤ p
  · rw [if_pos h, if_pos (by simp; omega)]
  · rw [if_neg h, if_neg (by simp; omega)]
    have : takeN (ofL l) p 1 = ((ofL l).getD p false).toNat := by
      rw [show (1 : Nat) = 0 + 1 from rfl, takeN_succ]
      simp only [takeN, octF, Nat.add_zero]
      cases (ofL l).getD p false <;> rfl
    rw [show (1 : Int).toNat = 1 from rfl, this]
theorem RdK.trans {n0 B : Nat} {l : List UInt8} {i j : Nat} {w w1 w2 : World} (h : RdK n0 B l i w w1) (k : RdK n0 B l j w1 w2) : RdK n0 B l j w w2 :=
  ⟨k.1, h.2.1.trans k.2.1, h.2.2.trans k.2.2 fun _ _ e => e⟩
theorem RdK.refl {n0 B : Nat} {l : List UInt8} {i : Nat} {w : World} (h : RdS n0 w B l i) : RdK n0 B l i w w := ⟨h, Below.refl _ _, Only.refl _ _⟩
theorem dec_cells {w : World} {D : Nat} {ls : List Nat} {v : Value} (h : w.heap[D]? = some (.cells ((row16 .i64 (cntN ls)).push v) 67 (0, 0))) :
    (∀ i, i < 16 → w.cell? ⟨D, i, none⟩ = some (.int .i64 (cntN ls i : Nat))) ∧ w.cell? ⟨D, 16, none⟩ = some v := by
  refine ⟨fun i hi => ?_, ?_⟩
  · rw [cell_of_row _ _ _ _ _ _ h, Array.getElem?_push, row16_size, if_neg (by omega), row16_at _ _ _ hi]
  · rw [cell_of_row _ _ _ _ _ _ h, Array.getElem?_push, row16_size, if_pos rfl]
set_option maxHeartbeats 8000000 in
theorem cnTakeP_any {n0 n1 D B : Nat} {ls : List Nat} {l : List UInt8} {at_ : Nat} {w : World} (hd : DecS n0 w D ls) (hdec : DecN ls) (hr : RdS n1 w B l at_) (hl : l.length ≤ 1099511627776) (hat : at_ ≤ 8 * l.length) :
    Calls Try.prog 17 #[.pointer (some ⟨D, 0, none⟩), .pointer (some ⟨B, 0, none⟩)] w (TakeTo n1 B l (takesN ls (ofL l) at_) w) := by
  have HD := Lib.hid hd
  have HR := Lib.hid hr
  have HMORE := Lib.hid (dec_more ls hdec)
  have HEND := Lib.hid (dec_end ls hdec (ofL l) at_)
  have HM15 := Lib.hid (show mostN ls ≤ 15 by unfold mostN; split <;> omega)
  have HZ := Lib.hid (restC_zero ls (ofL l) at_)
  have HOL := Lib.hid (show (orderN ls).length ≤ 320 from Nat.le_trans (orderN_len ls) hdec.2.1)
  have HCN := Lib.hid (fun i => Nat.le_trans (cntN_le ls i) hdec.2.1)
  have HFL := Lib.hid (ofL_length l)
  have HK0 := Lib.hid (kraftTo_zero ls)
  generalize hM : mostN ls = M at *
  clear hd hr hM hdec
  go_enter Try.func17, Try.ntmps17
  go_wp2
  go_loopw [6, 7, 8] (fun b s i wr => ∃ k K bh sh p : Nat, k ≤ M ∧ K = k + 1 ∧ i = .int .i64 (K : Int) ∧ b = .int .i64 (bh : Int) ∧ s = .int .i64 (sh : Int) ∧ bh + kraftTo ls k = topN (ofL l) at_ k ∧ sh = (orderTo ls k).length ∧ p = at_ + k ∧ p ≤ 8 * l.length ∧ restC ls (ofL l) at_ M k = takesN ls (ofL l) at_ ∧ RdK n1 B l p w wr) (fun _ _ i _ => 17 - (intOf i).toNat)
  case atStart => exact ⟨0, 1, 0, 0, at_, Nat.zero_le _, rfl, rfl, rfl, rfl, by rw [HK0.out]; rfl, rfl, rfl, hat, HZ.out, RdK.refl HR.out⟩
  case round =>
    obtain ⟨k, K, bh, sh, p, hk, hK, rfl, rfl, rfl, hb, hs, hp, hpl, hrest, hrk⟩ := hrel
    have HRK := Lib.hid hrk
    have HREST := Lib.hid hrest
    have HDW := Lib.hid (HD.out.only hrk.2.2 HR.out.boxed)
    clear hrk hrest
    obtain ⟨da, dn, dc, hd1, hd2, hd3, hd4, hd5⟩ := HDW.out
    obtain ⟨hmany, hsl⟩ := dec_cells hd1
    have HN := Lib.hid hd3
    have HREC := Lib.hid hd2
    have hkb : k ≤ 15 := by have := HM15.out; omega
    have hdn : dn ≤ 320 := by rw [← hd3]; exact HOL.out
    have HMANY := Lib.hid hmany
    have hsh : sh ≤ 320 := by have h1 := orderTo_le ls k; have h2 := orderTo_mono ls k hkb; have h3 := HOL.out; omega
    clear hd1 hd2 hd3 hd4 hd5 hmany
    by_cases hlt : sh < dn
    · have hlti : (sh : Int) < dn := by omega
      have hkM : k < M := HMORE.out k hk (by rw [← hs, HN.out]; exact hlt)
      have HC := Lib.hid (takeS HRK.out.1 1 hl hpl)
      rw [takeR_one] at HC
      by_cases hend : 8 * l.length ≤ p
      · rw [if_pos hend] at HC
        have HA := Lib.hid (show (0, p, (2 : Int)) = takesN ls (ofL l) at_ by rw [← HREST.out, restC_end ls (ofL l) at_ M k hkM (by rw [HFL.out]; omega), hp])
        clear hb hs hp hK hend
        go_wp2_with fail
        refine HC.out.mono ?_
        rintro e w1 ⟨rfl, hk1⟩
        have HK1 := Lib.hid (HRK.out.trans hk1)
        clear HC hk1
        go_wp2
        go_ret2
        rw [← HA.out]
        exact ⟨rfl, HK1.out⟩
      · rw [if_neg hend] at HC
        have hq := top_next (ofL l) at_ k
        rw [← hp] at hq
        have hqlt := topN_lt (ofL l) at_ (k + 1)
        have hpw : 2 ^ (k + 1) ≤ 32768 := pow15 (k + 1) (by have := HM15.out; omega)
        obtain ⟨X, hX⟩ : ∃ X, X = firstN ls (k + 1) := ⟨_, rfl⟩
        have hX2 : X = 2 * kraftTo ls k := by rw [hX, ← first_kraft]; rfl
        have hkr := kraftTo_succ ls k
        obtain ⟨b, hbit⟩ : ∃ b, b = ((ofL l).getD p false).toNat := ⟨_, rfl⟩
        have hb1 : b ≤ 1 := by rw [hbit]; exact Bool.toNat_le _
        rw [← hbit] at hq HC
        obtain ⟨bh2, hbh⟩ : ∃ bh2, bh2 = 2 * bh + b := ⟨_, rfl⟩
        have hB2 : bh2 + X = topN (ofL l) at_ (k + 1) := by omega
        have HHIT := Lib.hid (dec_hit ls k bh2 (topN (ofL l) at_ (k + 1)) (by have := HM15.out; omega) (by rw [← hX]; exact hB2))
        have HMISS := Lib.hid (dec_miss ls k bh2 (topN (ofL l) at_ (k + 1)) (by rw [← hX]; exact hB2))
        have HSOME := Lib.hid (restC_some ls (ofL l) at_ M k)
        have HNONE := Lib.hid (restC_none ls (ofL l) at_ M k hkM (by rw [HFL.out]; omega))
        have hbh2 : bh2 ≤ 32768 := by omega
        have HORD := Lib.hid (orderTo_len ls k)
        have HBH := Lib.hid (show (bh2 : Int) = 2 * (bh : Int) + (b : Int) by omega)
        have hbhb : bh ≤ 32768 := by omega
        have hcb := HCN.out K
        rw [← hK] at HHIT HMISS HORD hkr
        have hB3 : ¬ bh2 < cntN ls K → (bh2 - cntN ls K) + kraftTo ls K = topN (ofL l) at_ (k + 1) := fun h => by omega
        have HB3 := Lib.hid hB3
        have HP := Lib.hid hp
        have HKK := Lib.hid hK
        have HS := Lib.hid hs
        have hKb : K ≤ 15 := by have := HM15.out; omega
        have hend2 : p + 1 ≤ 8 * l.length := by omega
        clear hb hs hp hK hq hX hX2 hkr hbit hqlt hpw hB2 hB3 hbh hend
        go_wp2_with fail
        refine HC.out.mono ?_
        rintro e w1 ⟨rfl, hk1⟩
        have HK1 := Lib.hid (HRK.out.trans hk1)
        obtain ⟨da2, dn2, dc2, hd1, hd2, hd3, hd4, hd5⟩ := HDW.out.only hk1.2.2 HRK.out.1.boxed
        clear HC hk1
        obtain ⟨hmany, hsl2⟩ := dec_cells hd1
        have x1 := hmany K (by omega)
        have HN2 := Lib.hid hd3
        have HREC2 := Lib.hid hd2
        clear hd1 hd2 hd3 hd4 hd5 hmany HREC HN HDW HMANY hsl
        go_upto_region 9 with (fail)
        rw [show (2 * (bh : Int) + (b : Int)) = (bh2 : Int) from HBH.out.symm]
        generalize cntN ls K = c at *
        by_cases hhit : bh2 < c
        · obtain ⟨i, hi1, hi2⟩ := HHIT.out hhit
          have hsb : sh + bh2 < dn2 := by
            have h1 := (List.getElem?_eq_some_iff.1 hi2).1
            rw [HN2.out] at h1
            have := HS.out
            omega
          obtain ⟨ob, off, rfl, _, hc⟩ := IntsAt.cell (recsInts8 HREC2.out) (by omega)
          have x2 := hc (sh + bh2) hsb
          have hgd : (orderN ls).getD (sh + bh2) 0 = i := by rw [List.getD, HS.out, hi2]; rfl
          rw [map_at0, hgd] at x2
          have HA := Lib.hid (show (i, p + 1, (0 : Int)) = takesN ls (ofL l) at_ by rw [← HREST.out, HSOME.out i hkM (by rw [HFL.out]; have := HP.out; omega) (by rw [← HKK.out]; exact hi1), HP.out])
          have hhiti : (bh2 : Int) < c := by omega
          clear hc hi1 hi2 hgd HHIT HMISS hhit
          go_wp2
          go_ret2
          rw [← HA.out]
          exact ⟨rfl, HK1.out⟩
        · have hhiti : ¬ (bh2 : Int) < c := by omega
          have HR2 := Lib.hid (show restC ls (ofL l) at_ M (k + 1) = takesN ls (ofL l) at_ by
            rw [← HREST.out, HNONE.out (by rw [← HKK.out]; exact HMISS.out hhit)])
          have HB4 := Lib.hid (HB3.out hhit)
          have hcb2 : c ≤ bh2 := by omega
          have HSU := Lib.hid (show ((bh2 - c : Nat) : Int) = (bh2 : Int) - c by omega)
          have hshn : sh + c ≤ 640 := by omega
          clear HHIT HMISS hhit
          go_wp2
          go_roundw
          case rel => exact ⟨k + 1, K + 1, bh2 - c, sh + c, p + 1, by omega, by have := HKK.out; omega, by go_num, by rw [HSU.out], by go_num, by rw [← HKK.out]; rw [← HKK.out] at HB4; exact HB4.out, by rw [← HKK.out, HORD.out, HS.out], by have := HP.out; omega, by omega, HR2.out, HK1.out⟩
          case measure => simp [intOf]; omega
    · have hlti : ¬ (sh : Int) < dn := by omega
      have hkM : k = M := HEND.out k bh hk hb (by rw [← hs, HN.out]; exact hlt)
      have HA := Lib.hid (show (0, p, (11 : Int)) = takesN ls (ofL l) at_ by rw [← HREST.out, hkM, restC_last, hp, hkM])
      clear hb hs hp hK hkM
      go_wp2
      go_ret2
      rw [← HA.out]
      exact ⟨rfl, HRK.out⟩
end Go.Proofs.Ytgfdonmkhmolpaa
