/-
  The document's own answers for layer 10 (hamperref10): Coins, the walk.
-/
import Derived.Test.YtklfoafbgniogaaLmV
namespace Go.Proofs.Ytklfoafbgniogaa
open Go.RowKit Go.Deep
set_option linter.unusedVariables false
set_option linter.unusedSimpArgs false
set_option maxRecDepth 100000

def natsK (L : List Int) : List Nat := L.map Int.toNat
theorem natsK_at (L : List Int) (i : Nat) : (natsK L).getD i 0 = (L.getD i 0).toNat := by
  unfold natsK
  simp only [List.getD, List.getElem?_map]
  cases L[i]? <;> rfl
theorem infoBoK : (Try.prog.info? 4).map (fun i => (i.zero, i.size, i.bytes)) = some (some (.bool false), 1, 1) := by kernel_rfl
theorem bos_mk (n : Nat) (hn : n ≤ 100000) (u : World) : (Instr.makeSlice 58 (.int .i64 n) (.int .i64 n)).run Try.prog u = .ok (.slice (some ⟨u.heap.size, 0, none⟩) n n) (u.alloc (.cells (madeCells #[.bool false] n) 4)) := by
  obtain ⟨i0, hi, hz0, hz1, hz2⟩ := info_parts infoBoK
  have := run_make u 58 4 i0 _ Try.underlying58 hi hz0 .i64 .i64 (n : Int) (n : Int) (by omega) (by omega) (by rw [hz2]; omega) (by omega)
  rw [hz1] at this
  simpa [Value.cells] using this
theorem boolK_one (b : Bool) : ∀ u ∈ boolC b, u.oneCell' = true := by
  intro u hu; simp only [boolC, List.mem_singleton] at hu; subst hu; rfl
theorem bos_made (w : World) (n : Nat) (hn : n ≤ 100000) : Recs boolC (w.alloc (.cells (madeCells #[.bool false] n) 4)) 4 1 (.slice (some ⟨w.heap.size, 0, none⟩) n n) (List.replicate n false) := by
  have hm : (madeCells #[.bool false] n).toList = (List.replicate n false).flatMap boolC := by
    apply List.ext_getElem?
    intro j
    have hl : ∀ x ∈ List.replicate n false, (boolC x).length = 1 := fun _ _ => rfl
    by_cases hj : j < n
    · have := flatMap_at (size := 1) _ hl j 0 false (by rw [List.getElem?_replicate, if_pos hj]) (by omega)
      rw [Nat.mul_one, Nat.add_zero] at this
      rw [this]
      simp [madeCells, boolC, hj, Nat.mod_one]
    · rw [List.getElem?_eq_none (by simp [size_madeCells]; omega), List.getElem?_eq_none (by rw [flatMap_len _ hl]; simp; omega)]
  have hs := size_madeCells #[.bool false] n
  refine ⟨fun _ _ => rfl, fun x _ => boolK_one x, ?_, .inr ⟨w.heap.size, n, _, ?_, Nat.zero_le _, heap_alloc_new w _, ?_, ?_, by omega, ?_⟩⟩
  · rw [← hm]; simp [hs]
  · simp
  · simp
  · unfold maxLen; omega
  · rw [← hm, List.take_of_length_le]; simp [hs]
theorem boR_at {w : World} {g n cap : Nat} {L : List Bool} (h : Recs boolC w 4 1 (.slice (some ⟨g, 0, none⟩) n cap) L) (i : Nat) (hi : i < L.length) : w.cell? ⟨g, i, none⟩ = some (.bool (L.getD i false)) := by
  have := h.cellAt i 0 _ (List.getElem?_eq_getElem hi) (by omega)
  rw [Nat.mul_one, Nat.add_zero] at this
  rw [this, List.getD, List.getElem?_eq_getElem hi]; rfl
theorem boR_set {w : World} {g n cap : Nat} {L : List Bool} (h : Recs boolC w 4 1 (.slice (some ⟨g, 0, none⟩) n cap) L) (i : Nat) (hi : i < L.length) (z : Bool) : Recs boolC (w.setCell ⟨g, i, none⟩ (.bool z)) 4 1 (.slice (some ⟨g, 0, none⟩) n cap) (L.set i z) := by
  have := h.stored i 0 hi (by omega) z (.bool z) rfl rfl
  rwa [Nat.mul_one, Nat.add_zero] at this
/-- the marks behind k coins -/
def doneL (cs : List Nat) (k : Nat) : List Bool := (List.range cs.length).map (doneB cs k)
theorem doneL_len (cs : List Nat) (k : Nat) : (doneL cs k).length = cs.length := by simp [doneL]
theorem doneL_at (cs : List Nat) (k i : Nat) (h : i < cs.length) : (doneL cs k).getD i false = doneB cs k i := by unfold doneL; rw [List.getD, List.getElem?_map, List.getElem?_range h]; rfl
theorem doneL_zero (cs : List Nat) : doneL cs 0 = List.replicate cs.length false := by
  apply List.ext_getElem (by simp [doneL])
  intro i h1 h2
  simp [doneL, doneB]
theorem doneL_succ (cs : List Nat) (k b : Nat) (h : (coinsL cs)[k]? = some (coinI cs b)) (hb : b < cs.length) : doneL cs (k + 1) = (doneL cs k).set b true := by
  apply List.ext_getElem (by simp [doneL])
  intro i h1 h2
  rw [List.getElem_set]
  simp only [doneL, List.getElem_map, List.getElem_range]
  rw [done_succ cs k b i h]
  by_cases hbi : b = i
  · subst hbi; rw [if_pos rfl]; simp
  · rw [if_neg hbi]; simp [hbi]
def optV (o : Option Nat) : Int := match o with | none => -1 | some b => b

/-- the scene of Coins: the marks in block g, the packs so far -/
structure CoinW (N g : Nat) (cs : List Nat) (w wr : World) (oa : Option Addr) (k oc : Nat) (Z : List PK) : Prop where
  flags : Recs boolC wr 4 1 (.slice (some ⟨g, 0, none⟩) N N) (doneL cs k)
  own : OwnI (packC N) 47 2 w wr oa k oc Z
  pk : ∀ p ∈ Z, PkAt N wr p
  far : ∀ p ∈ Z, ∀ q, p.a = some q → g < q.block
  typ : ∀ p ∈ Z, ∀ q, p.a = some q → ∃ c, wr.heap[q.block]? = some (.cells c 3 (0, 0))
  map : Z.map (·.x) = (coinsL cs).take k
  g0 : w.heap.size ≤ g
theorem CoinW.below {N g : Nat} {cs : List Nat} {w wr w' : World} {oa : Option Addr} {k oc : Nat} {Z : List PK} (h : CoinW N g cs w wr oa k oc Z) (hb : Below wr.heap.size wr w') : CoinW N g cs w w' oa k oc Z :=
  ⟨h.flags.below hb, h.own.below hb, fun p hp => (h.pk p hp).below hb, h.far, fun p hp q hq => by
    obtain ⟨c, hc⟩ := h.typ p hp q hq
    exact ⟨c, (hb.block _ (Array.getElem?_eq_some_iff.1 hc).1).trans hc⟩, h.map, h.g0⟩

def slLen (v : Value) : Nat := match v with | .slice _ n _ => n | _ => 0
/-- what the inner loop asks -/
def AskB (cs : List Nat) (k i : Nat) (bb : Bool) : Prop := bb = condB cs (doneB cs k) (bestTo cs (doneB cs k) i) i
set_option maxHeartbeats 8000000 in
theorem lmCoins_any (a : Option Addr) (n cap : Nat) (L : List Int) (w : World) (h : IntsAt w a n cap L) (hn : n ≤ 1000) (hv : ∀ x ∈ L, 0 ≤ x ∧ x ≤ 2147483647) :
    Calls Try.prog 19 #[.slice a n cap] w (FreshPk n (coinsL (natsK L)) w) := by
  obtain ⟨i0, hi0, hz0, hz1, hz2⟩ := info_parts infoPack
  have hl : L.length = n := h.1
  have HL := Lib.hid h
  obtain ⟨cs, hcs⟩ : ∃ cs, cs = natsK L := ⟨_, rfl⟩
  have HN := Lib.hid (show cs.length = n by rw [hcs]; unfold natsK; rw [List.length_map, hl])
  have HAT := Lib.hid (fun i (hi : i < n) => show L.getD i 0 = ((cs.getD i 0 : Nat) : Int) ∧ cs.getD i 0 ≤ 2147483647 by
    rw [hcs, natsK_at]
    have := hv (L.getD i 0) (by rw [List.getD, List.getElem?_eq_getElem (by omega)]; exact List.getElem_mem _)
    omega)
  rw [← hcs]
  have HBN := Lib.hid (best_next cs)
  have HSP := Lib.hid (fun k i => bestTo_spec cs (doneB cs k) i)
  have HDS := Lib.hid (doneL_succ cs)
  have HMKI := Lib.hid (ints_mk n (by omega))
  have hmk := bos_mk n (by omega) w
  have HF0 := Lib.hid (bos_made w n (by omega))
  have HDZ := Lib.hid (show List.replicate n false = doneL cs 0 by rw [doneL_zero, HN.out])
  have HCL := Lib.hid (show (coinsL cs).length ≤ n by
    rw [coinsL_count, ← HN.out]
    have : ∀ l : List Nat, (l.map fun i => if cs.getD i 0 = 0 then 0 else 1).sum ≤ l.length := fun l => by
      induction l with
      | nil => simp
      | cons x l ih => simp only [List.map_cons, List.sum_cons, List.length_cons]; split <;> omega
    have := this (List.range cs.length)
    rwa [List.length_range] at this)
  clear h hl hcs hv
  go_enter Try.func19, Try.ntmps19
  go_upto_region 3 with (fail)
  have HB1 := Lib.hid ((Below.refl w.heap.size w).alloc (Nat.le_refl _) (.cells (madeCells #[.bool false] n) 4))
  obtain ⟨g, hg⟩ : ∃ g, g = w.heap.size := ⟨_, rfl⟩
  have HS0 := Lib.hid (show CoinW n g cs w (w.alloc (.cells (madeCells #[.bool false] n) 4)) none 0 0 [] from
    ⟨by rw [hg, ← HDZ.out]; exact HF0.out, (OwnI.nil w).below HB1.out, fun p hp => by simp at hp, fun p hp => by simp at hp, fun p hp => by simp at hp, by simp, by rw [hg]; exact Nat.le_refl _⟩)
  rw [← hg]
  have HG := Lib.hid hg
  clear hmk HF0 hg
  generalize w.alloc (.cells (madeCells #[.bool false] n) 4) = w0 at *
  go_loopw [3] (fun so wr => ∃ (k : Nat) (oa : Option Addr) (oc : Nat) (Z : List PK), k ≤ (coinsL cs).length ∧ so = .slice oa k oc ∧ CoinW n g cs w wr oa k oc Z) (fun so _ => n + 1 - slLen so)
  case atStart => exact ⟨0, none, 0, [], Nat.zero_le _, rfl, HS0.out⟩
  case round =>
    obtain ⟨k, oa, oc, Z, hk, rfl, hs⟩ := hrel
    rename World => wr
    have HS := Lib.hid hs
    have HK := Lib.hid hk
    clear hs hk HS0
    have HBR := Lib.hid HS.out.own.2.2.2
    go_upto_region 4 with (fail)
    go_wp2
    go_loopw [5, 6] (fun sb si wx => ∃ i : Nat, i ≤ n ∧ si = .int .i64 (i : Int) ∧ sb = .int .i64 (optV (bestTo cs (doneB cs k) i)) ∧ Below wr.heap.size wr wx) (fun _ si _ => n - (intOf si).toNat)
    case atStart => exact ⟨0, Nat.zero_le _, rfl, rfl, Below.refl _ _⟩
    case round =>
      obtain ⟨i, hi, rfl, rfl, hbw⟩ := hrel
      rename World => wx
      have HBX := Lib.hid (HBR.out.trans (hbw.mono HBR.out.size))
      have HBW := Lib.hid hbw
      clear hbw
      by_cases hlt : i < n
      · obtain ⟨b, off, rfl, _, hc⟩ := IntsAt.cell (CameAt.below HL.out (by omega) HBX.out) (by omega)
        have x1 := hc i hlt
        have hat := HAT.out i hlt
        rw [hat.1] at x1
        have hci := hat.2
        have f1 := boR_at (HS.out.flags.below HBW.out) i (by rw [doneL_len, HN.out]; exact hlt)
        rw [doneL_at _ _ _ (by rw [HN.out]; exact hlt)] at f1
        have hsp := (HSP.out k i).2
        have hkn : k ≤ n := Nat.le_trans HK.out HCL.out
        have HBT := Lib.hid (show bestTo cs (doneB cs k) (i + 1) = if condB cs (doneB cs k) (bestTo cs (doneB cs k) i) i = true then some i else bestTo cs (doneB cs k) i from rfl)
        have hlti : (i : Int) < n := by omega
        obtain ⟨v, hv⟩ : ∃ v, v = optV (bestTo cs (doneB cs k) i) := ⟨_, rfl⟩
        rw [← hv]
        have HV := Lib.hid hv
        clear hv
        go_upto_region 7 with (fail)
        go_cut [43] (fun s43 wy => Below wr.heap.size wr wy ∧ ∃ bb, s43 = .bool bb ∧ AskB cs k i bb)
        case first =>
          by_cases h0 : cs.getD i 0 = 0
          · have HA := Lib.hid (show AskB cs k i false by unfold AskB condB; rw [h0]; rfl)
            rw [h0] at x1
            clear hat hci hsp HBT hc h0
            clear HV
            generalize bestTo cs (doneB cs k) i = bo at *
            go_quiet (fail)
            go_wp2
            go_meet
            exact ⟨below_drewN HBW.out nq, false, rfl, HA.out⟩
          have h0n : 0 < cs.getD i 0 := by omega
          cases hd : doneB cs k i with
          | true =>
            have HA := Lib.hid (show AskB cs k i false by unfold AskB condB; rw [hd]; simp)
            rw [hd] at f1
            clear hat hsp HBT hc h0 hd
            generalize cs.getD i 0 = z at *
            have hz : (0 : Int) < z := by omega
            clear HV
            generalize bestTo cs (doneB cs k) i = bo at *
            go_quiet (fail)
            go_wp2
            go_meet
            exact ⟨below_drewN HBW.out nq, false, rfl, HA.out⟩
          | false =>
            rw [hd] at f1
            cases hbo : bestTo cs (doneB cs k) i with
            | none =>
              have hvn : v < 0 := by rw [HV.out, hbo]; simp [optV]
              have HA := Lib.hid (show AskB cs k i true by unfold AskB condB; rw [hd, hbo, decide_eq_true h0n]; rfl)
              clear hat hsp HBT hc h0 hd hbo
              generalize cs.getD i 0 = z at *
              have hz : (0 : Int) < z := by omega
              go_quiet (fail)
              go_wp2
              go_meet
              exact ⟨below_drewN HBW.out nq, true, rfl, HA.out⟩
            | some bj =>
              obtain ⟨hbj, _, _⟩ := hsp bj hbo
              have hvb : v = (bj : Int) := by rw [HV.out, hbo]; rfl
              clear HV
              subst hvb
              have x2 := hc bj (by omega)
              have hatb := HAT.out bj (by omega)
              rw [hatb.1] at x2
              have hcb := hatb.2
              have HA := Lib.hid (show AskB cs k i (decide (cs.getD i 0 < cs.getD bj 0)) by unfold AskB condB; rw [hd, hbo, decide_eq_true h0n]; rfl)
              clear hat hatb hsp HBT hc h0 hd hbo
              generalize cs.getD i 0 = z at *
              generalize cs.getD bj 0 = zb at *
              have hz : (0 : Int) < z := by omega
              have hbji : (bj : Int) < n := by omega
              have hbj0 : ¬ (bj : Int) < 0 := by omega
              by_cases hzz : z < zb
              · have hzi : (z : Int) < zb := by omega
                have HA2 := Lib.hid (show AskB cs k i true by have := HA.out; rw [decide_eq_true hzz] at this; exact this)
                have hzd : decide (z < zb) = true := decide_eq_true hzz
                clear HA
                go_quiet (fail)
                go_wp2
                go_meet
                exact ⟨below_drewN HBW.out nq, true, rfl, HA2.out⟩
              · have hzi : ¬ (z : Int) < zb := by omega
                have HA2 := Lib.hid (show AskB cs k i false by have := HA.out; rw [decide_eq_false hzz] at this; exact this)
                have hzd : decide (z < zb) = false := decide_eq_false hzz
                clear HA hzz
                go_quiet (fail)
                go_wp2
                go_meet
                exact ⟨below_drewN HBW.out nq, false, rfl, HA2.out⟩
        case rest =>
        obtain ⟨hwy, bb, rfl, hask⟩ := hcut
        rename World => wy
        have HWY := Lib.hid hwy
        rw [hask.symm] at HBT
        clear hwy hask hat hsp hc x1 f1 hci
        cases bb with
        | true =>
          have HN2 := Lib.hid (show bestTo cs (doneB cs k) (i + 1) = some i from HBT.out)
          go_wp2
          go_roundw
          case rel => exact ⟨i + 1, by omega, by go_num, by rw [HN2.out]; rfl, HWY.out⟩
          case measure => simp [intOf]; omega
        | false =>
          have HN2 := Lib.hid (show bestTo cs (doneB cs k) (i + 1) = bestTo cs (doneB cs k) i from HBT.out)
          go_wp2
          go_roundw
          case rel => exact ⟨i + 1, by omega, by go_num, by rw [HN2.out, ← HV.out], HWY.out⟩
          case measure => simp [intOf]; omega
      · obtain rfl : i = n := by omega
        have hlti : ¬ (i : Int) < i := by omega
        have hbn := HBN.out k
        rw [HN.out] at hbn
        cases hbo : bestTo cs (doneB cs k) i with
        | none =>
          have HKK := Lib.hid (show k = (coinsL cs).length from Nat.le_antisymm HK.out (hbn.1 hbo))
          obtain ⟨v, hv⟩ : ∃ v, v = optV none := ⟨_, rfl⟩
          rw [← hv]
          have hvn : v < 0 := by rw [hv]; simp [optV]
          have HSX := Lib.hid (HS.out.below HBW.out)
          clear hbn hbo hv
          go_wp2
          go_ret
          exact ⟨oa, k, oc, Z, rfl, HSX.out.own, HSX.out.pk, by rw [HSX.out.map, HKK.out, List.take_length]⟩
        | some bj =>
          obtain ⟨hnext, hbj⟩ := hbn.2 bj hbo
          have hbj' : bj < i := hbj
          have HNX := Lib.hid hnext
          have hkl : k < (coinsL cs).length := (List.getElem?_eq_some_iff.1 hnext).1
          have HSX := Lib.hid (HS.out.below HBW.out)
          have hvv : optV (some bj) = (bj : Int) := rfl
          rw [hvv]
          have hbj0 : ¬ (bj : Int) < 0 := by omega
          have hbji : (bj : Int) < i := by omega
          have hkn : k ≤ i := Nat.le_trans HK.out HCL.out
          clear hbn hbo hnext hvv
          have hfl : bj < (doneL cs k).length := by rw [doneL_len, HN.out]; exact hbj
          have f1 := boR_at HSX.out.flags bj hfl
          have ff := HSX.out.flags.frozenAt bj
          have hF1 := boR_set HSX.out.flags bj hfl true
          rw [← HDS.out k bj HNX.out (by rw [HN.out]; exact hbj)] at hF1
          have hO1 : Only (fun q => q = g) wx (wx.setCell ⟨g, bj, none⟩ (.bool true)) := Only.setCell _ _ _ rfl
          obtain ⟨fc, hfc⟩ := HSX.out.flags.blk g rfl
          have hglt : g < wx.heap.size := (Array.getElem?_eq_some_iff.1 hfc).1
          have hbelow1 : Below w.heap.size w (wx.setCell ⟨g, bj, none⟩ (.bool true)) := HSX.out.own.2.2.2.setCell (by have := HSX.out.g0; simpa using this) _
          have HF1 := Lib.hid hF1
          have HI1 := Lib.hid (show OwnI (packC i) 47 2 w (wx.setCell ⟨g, bj, none⟩ (.bool true)) oa k oc Z from
            ⟨HSX.out.own.1.only hO1 fun q hq e => HSX.out.own.1.ne_of hfc (by decide) q hq e, HSX.out.own.2.1, HSX.out.own.2.2.1, hbelow1⟩)
          have HP1 := Lib.hid (show ∀ p ∈ Z, PkAt i (wx.setCell ⟨g, bj, none⟩ (.bool true)) p from fun p hp => CameAt.only (HSX.out.pk p hp) (by omega) hO1 fun q hq _ e => by have := HSX.out.far p hp q hq; omega)
          have HLT := Lib.hid (show (wx.setCell ⟨g, bj, none⟩ (.bool true)).heap.size = wx.heap.size by simp)
          have HGLT := Lib.hid hglt
          have HTYP1 := Lib.hid (show ∀ p ∈ Z, ∀ q, p.a = some q → ∃ c, (wx.setCell ⟨g, bj, none⟩ (.bool true)).heap[q.block]? = some (.cells c 3 (0, 0)) from fun p hp q hq => by
            obtain ⟨c, hc⟩ := HSX.out.typ p hp q hq
            exact ⟨c, (hO1.block _ (Array.getElem?_eq_some_iff.1 hc).1 (by have := HSX.out.far p hp q hq; omega)).trans hc⟩)
          have HFAR := Lib.hid HSX.out.far
          have HMAP := Lib.hid HSX.out.map
          have HG0 := Lib.hid HSX.out.g0
          clear hF1 hO1 hfc hbelow1 hfl HSX
          go_upto_region 12 with (fail)
          clear f1 ff
          generalize wx.setCell ⟨g, bj, none⟩ (.bool true) = w1 at *
          have hmki := HMKI.out w1
          have hrow2 := ints_made w1 i (by omega)
          have hb2 := (Below.refl w1.heap.size w1).alloc (Nat.le_refl _) (.cells (madeCells #[.int .i64 0] i) 3)
          have HB2 := Lib.hid hb2
          obtain ⟨gt, hgt⟩ : ∃ gt, gt = w1.heap.size := ⟨_, rfl⟩
          rw [← hgt] at hmki hrow2
          have HGT := Lib.hid hgt
          have HROW2 := Lib.hid hrow2
          clear hb2 hgt hrow2
          go_upto_region 13 with (fail)
          clear hmki
          generalize w1.alloc (.cells (madeCells #[.int .i64 0] i) 3) = w2 at *
          have hrl : bj < (List.replicate i (0 : Int)).length := by rw [List.length_replicate]; omega
          have t1 := intR_at HROW2.out bj hrl
          have tf := HROW2.out.frozenAt bj
          have hset := intR_set HROW2.out bj hrl 1
          rw [times_coin i cs bj (by omega)] at hset
          have HSET := Lib.hid hset
          have hb3 : Below w1.heap.size w1 (w2.setCell ⟨gt, bj, none⟩ (.int .i64 1)) := HB2.out.setCell (by rw [HGT.out]; simp) _
          have HB3 := Lib.hid hb3
          clear hset hb3 hrl
          generalize (List.replicate i (0 : Int)).getD bj 0 = tz at *
          go_upto_region 14 with (fail)
          clear t1 tf
          generalize w2.setCell ⟨gt, bj, none⟩ (.int .i64 1) = w3 at *
          have HI3 := Lib.hid (HI1.out.below HB3.out)
          have HP3 := Lib.hid (show ∀ p ∈ Z, PkAt i w3 p from fun p hp => (HP1.out p hp).below HB3.out)
          have HF3 := Lib.hid (HF1.out.below HB3.out)
          have HTYP3 := Lib.hid (show ∀ p ∈ Z, ∀ q, p.a = some q → ∃ c, w3.heap[q.block]? = some (.cells c 3 (0, 0)) from fun p hp q hq => by
            obtain ⟨c, hc⟩ := HTYP1.out p hp q hq
            exact ⟨c, (HB3.out.block _ (Array.getElem?_eq_some_iff.1 hc).1).trans hc⟩)
          obtain ⟨p, hp⟩ : ∃ p : PK, p = ⟨coinI cs bj, some ⟨gt, 0, none⟩, i⟩ := ⟨_, rfl⟩
          have HPK := Lib.hid (show PkAt i w3 p by rw [hp]; exact HSET.out.came8 fun _ => rfl)
          have HPF := Lib.hid (show ∀ q, p.a = some q → g < q.block by rw [hp]; intro q hq; injection hq with hq; rw [← hq]; show g < gt; rw [HGT.out, HLT.out]; exact HGLT.out)
          have HPX := Lib.hid (show p.x = coinI cs bj by rw [hp])
          have HPT := Lib.hid (show ∀ q, p.a = some q → ∃ c, w3.heap[q.block]? = some (.cells c 3 (0, 0)) by rw [hp]; intro q hq; injection hq with hq; rw [← hq]; exact HSET.out.blk gt rfl)
          have HBX3 := Lib.hid HI3.out.2.2.2
          obtain ⟨b, off, rfl, _, hc⟩ := IntsAt.cell (CameAt.below HL.out (by omega) HBX3.out) (by omega)
          have x1 := hc bj hbj'
          have hatb := (HAT.out bj hbj').1
          rw [hatb] at x1
          clear hatb hc
          have hpc : packC i p = [.int .i64 ((cs.getD bj 0 : Nat) : Int), .slice (some ⟨gt, 0, none⟩) i i] := by rw [hp]; rfl
          have HONE := Lib.hid (one_rec (f := packC i) (x := p) (w := w3.alloc (.cells #[.int .i64 ((cs.getD bj 0 : Nat) : Int), .slice (some ⟨gt, 0, none⟩) i i] 47)) (B := w3.heap.size) (t := 47) (fr := (0, 0)) (by rw [hpc]; exact heap_alloc_new w3 _))
          have HRA := Lib.hid (HI3.out.1.below ((Below.refl w3.heap.size w3).alloc (Nat.le_refl _) (.cells #[.int .i64 ((cs.getD bj 0 : Nat) : Int), .slice (some ⟨gt, 0, none⟩) i i] 47)))
          have HLZ := Lib.hid HI3.out.2.1
          clear hp hpc
          go_wp2_with (at_builtin; refine wpList_append_recs (f := packC i) rfl _ _ 44 rfl 47 i0 _ 2 32 Try.underlying44 hi0 hz0 hz1 hz2 rfl (by omega) _ Z rfl HRA.out ⟨w3.heap.size, 0, none⟩ 1 1 [p] rfl rfl (fun _ _ => rfl) (fun y _ => packC_one i y) HONE.out (by have := HLZ.out; unfold maxLen; omega) (by have := HLZ.out; omega) ?_; intro v' wd hr hg hbk; obtain ⟨a3, c3, hv, hI4⟩ := OwnI.more HI3.out hr hg hbk; rw [show ([p] : List PK).length = 1 from rfl] at hv hI4; subst hv; have HI4 := Lib.hid hI4; have HBW4 := Lib.hid (show Only (fun q => some q = (Value.slice oa k oc).ownBlock) w3 wd from (Only.alloc w3 _).trans (Only.of_grown hg fun q e => e.symm) fun _ _ e => e); clear hr hg hbk hI4)
          go_roundw
          case rel =>
            have HT9 : ∀ y ∈ Z ++ [p], ∀ q, y.a = some q → ∃ c, w3.heap[q.block]? = some (.cells c 3 (0, 0)) := fun y hy q hq => by
              rcases List.mem_append.1 hy with hy | hy
              · exact HTYP3.out y hy q hq
              · have : y = p := by simpa using hy
                rw [this] at hq; exact HPT.out q hq
            have HNE : ∀ y ∈ Z ++ [p], ∀ q, y.a = some q → ¬ some q.block = (Value.slice oa k oc).ownBlock := fun y hy q hq e => by
              obtain ⟨c, hc⟩ := HT9 y hy q hq
              exact HI3.out.1.ne_of hc (by decide) q.block e.symm rfl
            refine ⟨k + 1, a3, c3, Z ++ [p], hkl, rfl, ?_, HI4.out, fun y hy => ?_, fun y hy q hq => ?_, fun y hy q hq => ?_, ?_, HG0.out⟩
            · refine HF3.out.only HBW4.out fun q hq e => ?_
              obtain ⟨fc, hfc⟩ := HF3.out.blk q hq
              exact HI3.out.1.ne_of hfc (by decide) q e.symm rfl
            · have hy2 : PkAt i w3 y := by
                rcases List.mem_append.1 hy with hy | hy
                · exact HP3.out y hy
                · have : y = p := by simpa using hy
                  rw [this]; exact HPK.out
              exact CameAt.only hy2 (by omega) HBW4.out fun q hq _ => HNE y hy q hq
            · rcases List.mem_append.1 hy with hy | hy
              · exact HFAR.out y hy q hq
              · have : y = p := by simpa using hy
                rw [this] at hq; exact HPF.out q hq
            · obtain ⟨c, hc⟩ := HT9 y hy q hq
              exact ⟨c, (HBW4.out.block _ (Array.getElem?_eq_some_iff.1 hc).1 (HNE y hy q hq)).trans hc⟩
            · rw [List.map_append, HMAP.out, List.take_add_one, HNX.out]
              simp [HPX.out]
          case measure => simp [slLen]; omega
end Go.Proofs.Ytklfoafbgniogaa
