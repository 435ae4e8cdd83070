/-
  Package limit: coinsOf.
-/
import Derived.Test.YtklfoafbgniogaaLkJ
namespace Go.Proofs.Ytklfoafbgniogaa
open Go.RowKit Go.Deep
set_option linter.unusedVariables false
set_option linter.unusedSimpArgs false
set_option maxRecDepth 100000

theorem rawTo_len (cs : List Nat) : ∀ k, (rawTo cs k).length ≤ k
  | 0 => Nat.le_refl _
  | k + 1 => by
    unfold rawTo
    have := rawTo_len cs k
    split
    · omega
    · simp; omega
theorem build_pur (u : World) : (Instr.buildSlice 50 0 #[]).run Try.prog u = .ok (.slice (some ⟨u.heap.size, 0, none⟩) 0 0) (u.alloc (.cells #[] 40)) := by
  obtain ⟨i0, hi, hz0, hz1, hz2⟩ := info_parts infoCn
  simp [Instr.buildSlice, run_underlying Try.underlying50, sizeOf, typeInfo, hi, Instr.fill, newRow, Array.range_zero']
theorem built_cns (X : Array Value) (hX : X.size = 2) : ∀ w : World, (Instr.buildSlice 37 1 #[(0, .agg X)]).run Try.prog w = .ok (.slice (some ⟨w.heap.size, 0, none⟩) 1 1) (w.alloc (.cells X 40)) := fun w => by
  obtain ⟨i0, hi, hz0, hz1, hz2⟩ := info_parts infoCn
  exact run_buildSlice_one w _ _ X i0 _ 2 Try.underlying37 hi hz0 hz1 hX (by omega) (by omega)
theorem assert_cn (v : Value) (w : World) : (Instr.typeAssert (.iface 40 v) 20 40 false).run Try.prog w = .ok v w := by kernel_rfl
theorem build_cn (x y : Int) (w : World) : (Instr.build 40 #[(0, .int .i64 x), (1, .int .i64 y)]).run Try.prog w = .ok (.agg #[.int .i64 x, .int .i64 y]) w := by
  refine run_build w _ _ _ ?_
  kernel_rfl
theorem cns_new (w : World) : CnI w (w.alloc (.cells #[] 40)) (some ⟨w.heap.size, 0, none⟩) 0 0 [] :=
  ⟨⟨fun _ h => by simp at h, fun _ h => by simp at h, rfl, .inr ⟨w.heap.size, 0, #[], rfl, Nat.zero_le _, heap_alloc_new w _, by simp, by unfold maxLen; omega, rfl, rfl⟩⟩, rfl, fun k hk => by simp [Value.ownBlock] at hk; omega, (Below.refl _ _).alloc (Nat.le_refl _) _⟩

set_option maxHeartbeats 8000000 in
theorem lkCoins_any (a : Option Addr) (n cap : Nat) (L : List Int) (w : World) (h : IntsAt w a n cap L) (hn : n ≤ 320) (hv : ∀ x ∈ L, 0 ≤ x ∧ x ≤ 2147483647) :
    Calls Try.prog 16 #[.slice a n cap] w (FreshCn (coinsL (natsK L)) w) := by
  obtain ⟨i0, hi0, hz0, hz1, hz2⟩ := info_parts infoCn
  have hl : L.length = n := h.1
  have HL := Lib.hid h
  obtain ⟨cs, hcs⟩ : ∃ cs, cs = natsK L := ⟨_, rfl⟩
  rw [← hcs]
  have HN := Lib.hid (show cs.length = n by rw [hcs]; unfold natsK; rw [List.length_map, hl])
  have HV := Lib.hid (fun k (hk : k < n) => show L.getD k 0 = ((cs.getD k 0 : Nat) : Int) ∧ cs.getD k 0 ≤ 2147483647 from by
    have hx := hv (L.getD k 0) (by rw [List.getD, List.getElem?_eq_getElem (by rw [hl]; exact hk)]; exact List.getElem_mem _)
    rw [hcs, natsK_at]
    omega)
  clear h hv hl hcs
  go_enter Try.func16, Try.ntmps16
  have hbp := build_pur w
  go_wp2
  have HP0 := Lib.hid (show PurW w ((w.alloc (.cells #[] 40)).alloc (.cells #[.slice (some ⟨w.heap.size, 0, none⟩) 0 0] 50)) (w.heap.size + 1) (some ⟨w.heap.size, 0, none⟩) 0 0 [] from
    ⟨by have := heap_alloc_new (w.alloc (.cells #[] 40)) (.cells #[.slice (some ⟨w.heap.size, 0, none⟩) 0 0] 50); rwa [show (w.alloc (.cells #[] 40)).heap.size = w.heap.size + 1 by simp] at this, (cns_new w).below ((Below.refl _ _).alloc (Nat.le_refl _) _), by omega⟩)
  generalize (w.alloc (.cells #[] 40)).alloc (.cells #[.slice (some ⟨w.heap.size, 0, none⟩) 0 0] 50) = w1 at *
  obtain ⟨g, hg⟩ : ∃ g, g = w.heap.size + 1 := ⟨_, rfl⟩
  rw [← hg] at HP0 ⊢
  have HG := Lib.hid hg
  have HEM := Lib.hid (show HpS lexLe ([] : List Itm) ([] : List Itm).length 0 from fun j h1 h2 => by simp at h2)
  clear hbp hg
  go_loopw [12] (fun si wr => ∃ (k m : Nat) (pa : Option Addr) (pc : Nat) (M : List Itm), k ≤ n ∧ m ≤ k ∧ si = .int .i64 (k : Int) ∧ PurW w wr g pa m pc M ∧ HpS lexLe M M.length 0 ∧ M.Perm (rawTo cs k)) (fun si _ => n - (intOf si).toNat)
  case atStart => exact ⟨0, 0, _, 0, [], Nat.zero_le _, Nat.le_refl _, rfl, HP0.out, HEM.out, List.Perm.refl _⟩
  case round =>
    obtain ⟨k, m, pa, pc, M, hk, hm, rfl, hp, hh, hr⟩ := hrel
    rename World => wr
    have HP := Lib.hid hp
    have HH := Lib.hid hh
    have HR := Lib.hid hr
    clear hp hh hr HP0 HEM
    by_cases hlt : k < n
    · have hki : (k : Int) < n := by omega
      obtain ⟨b, off, rfl, _, hc⟩ := IntsAt.cell (CameAt.below HL.out (by omega) HP.out.2.1.2.2.2) (by omega)
      have x1 := hc k hlt
      obtain ⟨hx, hxb⟩ := HV.out k hlt
      rw [hx] at x1
      clear hc hx
      by_cases h0 : cs.getD k 0 = 0
      · have HRN := Lib.hid (show M.Perm (rawTo cs (k + 1)) by unfold rawTo; rw [if_pos h0]; exact HR.out)
        rw [h0] at x1
        clear h0 hxb
        go_wp2
        go_roundw
        case rel => exact ⟨k + 1, m, _, _, M, by omega, by omega, by go_num, HP.out, HH.out, HRN.out⟩
        case measure => simp [intOf]; omega
      · have CP := Lib.hid (heapPush_any w wr g pa m pc M HP.out (coinI cs k) (by omega))
        have hcn : (cnC (coinI cs k)).toArray = #[.int .i64 (k : Int), .int .i64 ((cs.getD k 0 : Nat) : Int)] := rfl
        rw [hcn] at CP
        have HPK := Lib.hid (pushed_ok (coinI cs k) HH.out HR.out)
        have HRA := Lib.hid (show rawTo cs k ++ [coinI cs k] = rawTo cs (k + 1) by conv => rhs; unfold rawTo; rw [if_neg h0])
        generalize cs.getD k 0 = c at *
        have hc0 : (0 : Int) < (c : Int) := by omega
        have hb := build_cn (k : Int) (c : Int) wr
        clear hcn h0
        go_wp2_with fail
        refine CP.out.mono ?_
        rintro e w2 ⟨rfl, a2, c2, h2⟩
        have H2 := Lib.hid h2
        clear h2 CP hb
        go_wp2
        go_roundw
        case rel => exact ⟨k + 1, m + 1, a2, c2, _, by omega, by omega, by go_num, H2.out, HPK.out.1, by rw [← HRA.out]; exact HPK.out.2⟩
        case measure => simp [intOf]; omega
    · obtain rfl : k = n := by omega
      have hki : ¬ (k : Int) < k := by omega
      go_wp2
      have HOK := Lib.hid (show OutOk (rawTo cs cs.length) [] M from ⟨by rw [HN.out]; exact HR.out, HH.out, List.Pairwise.nil, fun x hx => by simp at hx⟩)
      have HML := Lib.hid HP.out.2.1.2.1
      have hmk : m ≤ 320 := by omega
      clear HH HR
      go_loopw [6] (fun so wx => ∃ (m2 on : Nat) (oa : Option Addr) (oc : Nat) (O M : List Itm), on + m2 = m ∧ so = .slice oa on oc ∧ CnI w wx oa on oc O ∧ PurW w wx g pa m2 pc M ∧ (∀ q, (Value.slice oa on oc).ownBlock = some q → ∀ p, pa = some p → q ≠ p.block) ∧ OutOk (rawTo cs cs.length) O M) (fun so _ => m - slLen so)
      case atStart => exact ⟨m, 0, none, 0, [], M, by omega, rfl, (OwnI.nil w).since (Below.refl _ _) |>.below HP.out.2.1.2.2.2, HP.out, fun q hq => by simp [Value.ownBlock] at hq, HOK.out⟩
      case round =>
        clear HP HOK HML M
        obtain ⟨m2, on, oa, oc, O, M, hom, rfl, hI, hP, hD, hok⟩ := hrel
        rename World => wx
        have HI := Lib.hid hI
        have HP := Lib.hid hP
        have HD := Lib.hid hD
        have HOK := Lib.hid hok
        have HON := Lib.hid hI.2.1
        have CL := Lib.hid (purLen_any w wx g pa m2 pc M hP)
        have HOM := Lib.hid hom
        have hm2 : m2 ≤ 320 := by omega
        have hon : on ≤ 320 := by omega
        clear hI hP hD hok hom
        go_wp2_with fail
        refine CL.out.mono ?_
        rintro e w2 ⟨rfl, rfl⟩
        clear CL
        by_cases h0 : 0 < m2
        · have h0i : (0 : Int) < (m2 : Int) := by omega
          obtain ⟨rb, rfl⟩ := HP.out.row h0
          have CP := Lib.hid (heapPop_any w wx g rb m2 pc M HP.out h0 (by omega))
          have hml : M.length = m2 := HP.out.2.1.2.1
          have HNX := Lib.hid (outOk_next HOK.out (by rw [hml]; exact h0))
          rw [hml] at HNX
          generalize (popL lexLe M).getD (m2 - 1) default = y at *
          generalize (popL lexLe M).take (m2 - 1) = M3 at *
          clear hml
          go_wp2_with fail
          refine CP.out.mono ?_
          rintro e w3 ⟨rfl, h3, ho3⟩
          have hdis := HD.out
          have HDB := Lib.hid (fun q hq => hdis q hq _ rfl)
          have hbo := HI.out.1.ne_of HP.out.1 (by decide)
          have HR3 := Lib.hid (HI.out.1.only ho3 fun q hq e => by
            rcases e with e | e
            · exact hbo q hq e
            · exact HDB.out q hq e)
          have HB3 := Lib.hid h3.2.1.2.2.2
          have HI3 := Lib.hid (show CnI w w3 oa on oc O from ⟨HR3.out, HON.out, HI.out.2.2.1, HB3.out⟩)
          have H3 := Lib.hid h3
          have hb1 := built_cns (cnC y).toArray rfl w3
          have hta := assert_cn (.agg (cnC y).toArray) w3
          have hel : (cnC y).length = 2 := rfl
          have HONE := Lib.hid (one_rec (f := cnC) (x := y) (w := w3.alloc (.cells (cnC y).toArray 40)) (B := w3.heap.size) (t := 40) (fr := (0, 0)) (heap_alloc_new w3 _))
          have HBA := Lib.hid ((Below.refl w3.heap.size w3).alloc (Nat.le_refl _) (.cells (cnC y).toArray 40))
          have HRA := Lib.hid (HR3.out.below HBA.out)
          clear hdis hbo h3 ho3 CP
          go_wp2_with (at_builtin; refine wpList_append_recs (f := cnC) rfl _ _ 37 rfl 40 i0 _ 2 16 Try.underlying37 hi0 hz0 hz1 hz2 rfl (by omega) _ O rfl HRA.out ⟨w3.heap.size, 0, none⟩ 1 1 [y] rfl rfl (fun _ _ => rfl) (fun z _ => cnC_one z) HONE.out (by rw [HON.out]; unfold maxLen; omega) (by rw [HON.out]; omega) ?_; intro v' w4 hr hg2 hbk; have hg3 : (w3.alloc (.cells (cnC y).toArray 40)).grownBy w4 (Value.slice oa on oc).ownBlock := hg2; have hown : v'.ownBlock = (Value.slice oa on oc).ownBlock ∨ v'.ownBlock = some (w3.alloc (.cells (cnC y).toArray 40)).heap.size := hbk; obtain ⟨a4, c4, hv, hI4⟩ := OwnI.more HI3.out hr hg2 hbk; rw [show ([y] : List Itm).length = 1 from rfl] at hv hI4; subst hv; have hp4 := And.intro HRA.out (And.intro hg3 (And.intro (H3.out.below HBA.out) hown)); have HI4 := Lib.hid hI4; have HP4 := Lib.hid hp4; clear hr hg2 hg3 hbk hI4 hown hp4)
          obtain ⟨_, hg4, hpa, hbk4⟩ := HP4.out
          have hne4 := HRA.out.ne_of hpa.1 (by decide)
          have hgl : g < (w3.alloc (.cells (cnC y).toArray 40)).heap.size := (Array.getElem?_eq_some_iff.1 hpa.1).1
          have hrl : rb < (w3.alloc (.cells (cnC y).toArray 40)).heap.size := hpa.2.1.1.lt rb rfl
          have HPF := Lib.hid (show PurW w w4 g (some ⟨rb, 0, none⟩) (m2 - 1) pc M3 from
            ⟨(hg4.block g hgl (fun e => hne4 g e.symm rfl)).trans hpa.1, ⟨hpa.2.1.1.keep (fun k hk => by
              injection hk with hk
              rw [← hk]
              exact hg4.block rb hrl (fun e => HDB.out rb e.symm rfl)), hpa.2.1.2.1, hpa.2.1.2.2.1, HI4.out.2.2.2⟩, hpa.2.2⟩)
          have HDF := Lib.hid (show ∀ q, (Value.slice a4 (on + 1) c4).ownBlock = some q → ∀ p, (some ⟨rb, 0, none⟩ : Option Addr) = some p → q ≠ p.block from fun q hq p hp => by
            injection hp with hp
            rw [← hp]
            rcases hbk4 with h | h
            · rw [h] at hq; exact HDB.out q hq
            · rw [h] at hq; injection hq with hq; show q ≠ rb; omega)
          clear hg4 hpa hbk4 hne4 hgl hrl hb1 hel hta
          go_roundw
          case rel => exact ⟨m2 - 1, on + 1, a4, c4, O ++ [y], M3, by have := HOM.out; omega, rfl, HI4.out, HPF.out, HDF.out, HNX.out⟩
          case measure => have := HOM.out; simp [slLen]; omega
        · have h0i : ¬ (0 : Int) < (m2 : Int) := by omega
          have hml : M.length = m2 := HP.out.2.1.2.1
          have hM : M = [] := List.eq_nil_of_length_eq_zero (by omega)
          have HE := Lib.hid (show O = coinsL cs by have := HOK.out; rw [hM] at this; exact outOk_end this)
          clear hml hM h0
          go_wp2
          go_ret
          exact ⟨oa, on, oc, rfl, by rw [← HE.out]; exact HI.out⟩
end Go.Proofs.Ytklfoafbgniogaa
