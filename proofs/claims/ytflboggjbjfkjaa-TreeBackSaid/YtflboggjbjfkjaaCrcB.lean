/-
  Contracts of package crc: More, Sum, markOf, Seal, Open.
-/
import Derived.Test.YtflboggjbjfkjaaCrcA
import Derived.Deep.QuietTactic
import Derived.BigQuiet
import Derived.StillTailTactics
namespace Go.Proofs.Ytflboggjbjfkjaa
open Go.RowKit
set_option linter.unusedVariables false
set_option linter.unusedSimpArgs false

theorem ret_int {k : IntKind} {a b : Int} (h : a = b) : Ending.returned (.int k a) = .returned (.int k b) := by rw [h]

theorem not_int (s : Nat) (hs : s < 4294967296) : bits .xor .u32 IntKind.u32.max (s : Int) = ((ones - s : Nat) : Int) := by
  have e : IntKind.u32.max = ((4294967295 : Nat) : Int) := by rfl
  rw [e, u32_xor_nat _ _ (by omega) hs, not_eq_xor s hs, Nat.xor_comm]
  rfl

theorem low_xor (u o : Nat) (hu : u < 4294967296) (ho : o < 256) : bits .xor .u8 ((u : Int) % 256) (o : Int) = ((u % 256 ^^^ o : Nat) : Int) := by
  have e : (u : Int) % 256 = ((u % 256 : Nat) : Int) := by simp
  rw [e, u8_xor_nat _ _ (by omega) ho]

theorem more_step (u o : Nat) (hu : u < 4294967296) (ho : o < 256) : bits .xor .u32 ((u : Int) / 256) (steps 8 (u % 256 ^^^ o) : Nat) = ((steps 8 (u ^^^ o) : Nat) : Int) := by
  have e : (u : Int) / 256 = ((u / 256 : Nat) : Int) := by simp
  have hx : u % 256 ^^^ o < 2 ^ 8 := Nat.xor_lt_two_pow (by omega) (by omega)
  rw [e, u32_xor_nat _ _ (by omega) (steps_lt _ _ (by omega)), by_table u o ho]

theorem goL_take (l : List UInt8) (k u : Nat) (h : k < l.length) : goL u (l.take (k + 1)) = steps 8 (goL u (l.take k) ^^^ (l.getD k 0).toNat) := by
  rw [List.take_succ_eq_append_getElem h, goL_snoc]
  simp [List.getD, List.getElem?_eq_getElem h]

set_option maxHeartbeats 1000000 in
set_option maxRecDepth 100000 in
theorem more_any (s : Nat) (a : Option Addr) (n cap : Nat) (l : List UInt8) (w : World) (hs : s < 4294967296) (hl : BytesAt w a n cap l) :
    Calls Try.prog 64 #[.int .u32 s, .slice a n cap] w fun e w' => e = .returned (.int .u32 (moreL s l : Nat)) ∧ Below w.heap.size w w' := by
  have hz := (zero_of_info infoTab).1
  rw [← tabC_zero] at hz
  have HL := Lib.hid hl
  clear hl
  have HZ := Lib.hid (zero_of_info infoTab)
  have hn : n ≤ 9223372036854775807 := by have h1 := HL.out.2.1; have h2 := HL.out.2.2.1; unfold maxLen at h2; omega
  go_enter Try.func64, Try.ntmps64
  go_wp2_with (first
    | (go_at_call 65; refine (table_any _).mono ?_; rintro e w1 ⟨rfl, hb1⟩)
    | (refine wpList_store_row rfl _ _ _ rfl w1.heap.size (tabC 256) rfl rfl 111 (tabC 0) (heap_alloc_new w1 _) (by rw [tabC_size]; exact sizeTab) (by simp only [tabC_size]) (tabC_one _) ?_))
  have h0 : ones - s < 4294967296 := by unfold ones; omega
  have hall : Below w.heap.size w ((w1.alloc (.cells (tabC 0) 111)).setRow w1.heap.size (tabC 256)) :=
    below_setRow (hb1.alloc hb1.size _) hb1.size _
  have htab := heap_setRow_same (w1.alloc (.cells (tabC 0) 111)) w1.heap.size (tabC 256) _ _ (heap_alloc_new w1 _)
  have HL2 := Lib.hid (HL.out.below hall)
  have HA := Lib.hid hall
  have HT := Lib.hid htab
  have HNOT := Lib.hid (not_int s hs)
  clear hall htab hb1
  generalize (w1.alloc (.cells (tabC 0) 111)).setRow w1.heap.size (tabC 256) = w2 at *
  go_loop [6, 14] (fun x i => ∃ k u : Nat, k ≤ n ∧ i = .int .i64 k ∧ x = .int .u32 u ∧ u < 4294967296 ∧ u = goL (ones - s) (l.take k)) (fun _ i => n - (intOf i).toNat)
  case atStart => exact ⟨0, ones - s, by omega, rfl, by rw [HNOT.out], h0, by simp [goL_nil]⟩
  case round =>
    obtain ⟨k, u, hk, rfl, rfl, hu, hs⟩ := hrel
    have HS := Lib.hid hs
    clear hs
    by_cases hlt : k < n
    · obtain ⟨b, off, rfl, hc⟩ := HL2.out.at (by omega)
      have hck := hc k hlt
      clear hc
      have ho : (l.getD k 0).toNat < 256 := (l.getD k 0).toNat_lt
      have hgo := goL_take l k (ones - s) (by rw [HL.out.1]; exact hlt)
      have HGO := Lib.hid hgo
      clear hgo
      generalize (l.getD k 0).toNat = o at *
      have hx : u % 256 ^^^ o < 2 ^ 8 := Nat.xor_lt_two_pow (by omega) (by omega)
      have hcell : w2.cell? ⟨w1.heap.size, u % 256 ^^^ o, none⟩ = some (.int .u32 (steps 8 (u % 256 ^^^ o) : Nat)) := by
        rw [cell_of_row _ _ _ _ _ _ HT.out, tabC_at _ _ (by omega), if_pos (by omega)]
      have hlow := low_xor u o hu ho
      have HM := Lib.hid (more_step u o hu ho)
      have hx2 : ((u % 256 ^^^ o : Nat) : Int) < 256 := by omega
      go_wp2
      refine ⟨⟨k + 1, steps 8 (u ^^^ o), by omega, by go_num, by rw [HM.out], steps_lt _ _ (Nat.xor_lt_two_pow (n := 32) (by omega) (by omega)), by rw [HGO.out, HS.out]⟩, by simp [intOf]; omega⟩
    · obtain rfl : k = n := by omega
      have hfin : ones - u = moreL s l := by
        unfold moreL
        rw [HS.out, List.take_of_length_le (Nat.le_of_eq HL.out.1)]
      have HN2 := Lib.hid (not_int u hu)
      have HFIN := Lib.hid hfin
      clear hfin
      go_wp2
      go_ret
      exact ⟨ret_int (HN2.out.trans (congrArg (fun x : Nat => (x : Int)) HFIN.out)), HA.out⟩

theorem sum_any (a : Option Addr) (n cap : Nat) (l : List UInt8) (w : World) (hl : BytesAt w a n cap l) :
    Calls Try.prog 63 #[.slice a n cap] w fun e w' => e = .returned (.int .u32 (sumL l : Nat)) ∧ Below w.heap.size w w' := by
  have HM := Lib.hid (more_any 0 a n cap l w (by omega) hl)
  rw [moreL_zero] at HM
  go_enter Try.func63, Try.ntmps63
  go_wp2_with (go_at_call 64; refine (HM.out).mono ?_; rintro e w1 ⟨rfl, hb1⟩)
  go_ret
  exact ⟨rfl, hb1⟩

/-- a mark: the four octets of a sum -/
def markV (s : Nat) : Array Value := #[.int .u8 ((s : Int) % 256), .int .u8 ((s : Int) / 256 % 256), .int .u8 ((s : Int) / 65536 % 256), .int .u8 ((s : Int) / 16777216)]

theorem sizeMark : (Try.prog.info? 106).map (·.size) = some 4 := by kernel_rfl

theorem mark_held {w w1 : World} {cs : Array Value} {t : TypeId} (h : Below (w.alloc (.cells cs t)).heap.size (w.alloc (.cells cs t)) w1) : w1.heap[w.heap.size]? = some (.cells cs t (0, 0)) := by
  rw [h.block w.heap.size (by simp)]
  exact heap_alloc_new w _

theorem mark_one (s : Nat) : (markV s).all (·.oneCell') = true := by simp [markV, Value.oneCell']

theorem mark_any (a : Option Addr) (n cap : Nat) (l : List UInt8) (w : World) (hl : BytesAt w a n cap l) :
    Calls Try.prog 60 #[.slice a n cap] w fun e w' => e = .returned (.agg (markV (sumL l))) ∧ Below w.heap.size w w' := by
  have HS := Lib.hid (fun u (h : Below w.heap.size w u) => sum_any a n cap l u (hl.below h))
  have hlt := sumL_lt l
  go_enter Try.func60, Try.ntmps60
  go_wp2_with (first | (go_at_call 63; refine (HS.out _ ((Below.refl _ _).alloc (Nat.le_refl _) _)).mono ?_; rintro e w1 ⟨rfl, hb1⟩; have t1 := mark_held hb1) | (refine wpList_store_row rfl _ _ _ rfl w.heap.size (markV (sumL l)) rfl rfl 106 _ t1 sizeMark rfl (mark_one _) ?_))
  refine bodyPost_ret (v := .agg (markV (sumL l))) (results_cell_row rfl _ _ w.heap.size 106 (markV (sumL l)) (0, 0) _ rfl (heap_setRow_same _ _ _ _ _ t1) Try.underlying106 rfl sizeMark) rfl ⟨rfl, ?_⟩
  exact below_setRow (((Below.refl _ _).alloc (Nat.le_refl _) _).trans (hb1.mono (by simp))) (Nat.le_refl _) _

theorem mark_vals (l : List UInt8) : (markV (sumL l)).toList = vals (leB 4 (sumL l)) := by
  have h := sumL_lt l
  generalize sumL l = s at *
  have e : leB 4 s = [UInt8.ofNat (s % 256), UInt8.ofNat (s / 256 % 256), UInt8.ofNat (s / 256 / 256 % 256), UInt8.ofNat (s / 256 / 256 / 256 % 256)] := rfl
  rw [e]
  simp only [markV, vals, List.map]
  congr 1
  · simp
  congr 1
  · simp
  congr 1
  · congr 1
    have : (UInt8.ofNat (s / 256 / 256 % 256)).toNat = s / 256 / 256 % 256 := by simp
    omega
  · congr 2
    have : (UInt8.ofNat (s / 256 / 256 / 256 % 256)).toNat = s / 256 / 256 / 256 % 256 := by simp
    omega

set_option maxHeartbeats 1000000 in
set_option maxRecDepth 100000 in
theorem seal_any (a : Option Addr) (n cap : Nat) (l : List UInt8) (w : World) (hl : BytesAt w a n cap l) (hn : n ≤ 140737488355320) :
    Calls Try.prog 52 #[.slice a n cap] w (FreshB id (n + 4) (sealL l) w) := by
  have HL := Lib.hid hl
  clear hl
  have HM := Lib.hid (mark_any a n cap l w HL.out)
  obtain ⟨i0, hi, hz0, hz1, hz2⟩ := info_parts infoU8
  have HI := Lib.hid (And.intro hi (And.intro hz0 (And.intro hz1 hz2)))
  clear hi hz0 hz1 hz2
  have hbm : i0.bytes * (n + 4) ≤ 281474976710656 := by rw [HI.out.2.2.2]; omega
  have HB := Lib.hid hbm
  clear hbm
  go_enter Try.func52, Try.ntmps52
  go_wp2_with (first
    | (go_at_call 60; refine (HM.out).mono ?_; rintro e w1 ⟨rfl, hb1⟩)
    | (refine wpList_store_row rfl _ _ _ rfl w1.heap.size (markV (sumL l)) rfl rfl 106 _ (heap_alloc_new w1 _) sizeMark rfl (mark_one _) ?_)
    | (at_make; refine wpList_make_own _ rfl _ _ 34 rfl w.heap.size 5 i0 (.int .u8 0) 1 Try.underlying34 HI.out.1 HI.out.2.1 HI.out.2.2.1 .i64 .i64 _ (n + 4) rfl rfl (by first | exact (Int.natCast_add n 4).symm | (simp; done)) HB.out (by unfold maxLen; omega) (by simp; have := hb1.size; omega) ?_; intro w2 hown hgrow))
  have hrow := heap_setRow_same (w1.alloc (.cells #[.int .u8 0, .int .u8 0, .int .u8 0, .int .u8 0] 106)) w1.heap.size (markV (sumL l)) _ _ (heap_alloc_new w1 _)
  have hbw : Below w.heap.size w ((w1.alloc (.cells #[.int .u8 0, .int .u8 0, .int .u8 0, .int .u8 0] 106)).setRow w1.heap.size (markV (sumL l))) :=
    below_setRow (hb1.alloc hb1.size _) hb1.size _
  have hsz : ((w1.alloc (.cells #[.int .u8 0, .int .u8 0, .int .u8 0, .int .u8 0] 106)).setRow w1.heap.size (markV (sumL l))).heap.size = w1.heap.size + 1 := by simp
  have hbw2 : Below w.heap.size w w2 := hbw.grown hgrow hbw.size (fun k hk => by cases hk)
  have hrow2 := hgrow.block w1.heap.size (by rw [hsz]; omega) (by simp)
  rw [hrow] at hrow2
  have hmk : BytesAt w2 (some ⟨w1.heap.size, 0, none⟩) 4 4 (leB 4 (sumL l)) := BytesAt.of_cells (leB_length _ _) (Nat.le_refl _) (by unfold maxLen; omega) fun i hi => by
    rw [Nat.zero_add, cell_of_row _ _ i _ _ _ hrow2, ← Array.getElem?_toList, mark_vals, vals_at _ _ (by rw [leB_length]; exact hi)]
  have HMK := Lib.hid hmk
  have HL2 := Lib.hid (HL.out.below hbw2)
  have HBW := Lib.hid hbw2
  rw [hsz] at hown
  have HOWN := Lib.hid hown
  have hlt2 := hown.lt _ rfl
  have HSZ := Lib.hid hsz
  clear hrow hbw hrow2 hmk hbw2 hown hgrow hsz
  go_region_law (first
    | (refine step_append_bytes rfl (.tmp 11) (.tmp 12) rfl w.heap.size (.slice (some ⟨w1.heap.size + 1, 0, none⟩) 0 (n + 4)) 0 [] (by simp [Act.eval, Act.put]) HOWN.out a n cap l (by simp [Act.eval, Act.put]) HL2.out n (by omega) (by omega) HBW.out.size ?_; intro a3 cap3 w3 ho3 hg3; have HM3 := Lib.hid (BytesAt.grown (w := w2.drew) HMK.out hg3 (by rintro x ⟨⟩; simp [Value.ownBlock])); have HG3 := Lib.hid hg3; rw [List.nil_append] at ho3; have HO3 := Lib.hid ho3; clear ho3 hg3)
    | (refine step_append_bytes rfl (.tmp 13) (.tmp 14) rfl w.heap.size (.slice a3 n cap3) n (vals l) (by simp [Act.eval, Act.put]) HO3.out (some ⟨w1.heap.size, 0, none⟩) 4 4 (leB 4 (sumL l)) (by simp [Act.eval, Act.put]) HM3.out (n + 4) rfl (by omega) (Nat.le_trans HBW.out.size HG3.out.size) ?_; intro a4 cap4 w4 ho4 hg4))
  go_wp2
  go_ret
  have hb3 : Below w.heap.size w w3 := (below_drewN HBW.out 1).grown HG3.out HBW.out.size (fun k hk => by cases hk; have := hb1.size; show w.heap.size ≤ w1.heap.size + 1; omega)
  refine ⟨a4, cap4, rfl, ?_, hb3.grown hg4 hb3.size (fun k hk => (HO3.out.lt k hk).1)⟩
  simpa [sealL, vals] using ho4


end Go.Proofs.Ytflboggjbjfkjaa
