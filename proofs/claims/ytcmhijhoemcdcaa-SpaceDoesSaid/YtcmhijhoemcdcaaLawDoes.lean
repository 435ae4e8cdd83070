/-
  Whatever is taken, given back and marked, of any space, the space is the document's, or it is refused with its error; what was handed in stays (P5.2, P5.3).
  No condition: every space, every number, every list.
-/
import Derived.Test.YtcmhijhoemcdcaaSpM
import Derived.Deep.DeepCutAuto
namespace Go.Proofs.Ytcmhijhoemcdcaa.spaceDoes
open Go.ChangeShapes Go.WideShapes Go.ChangeAt Go.RowKit
set_option linter.unusedVariables false
set_option linter.unusedSimpArgs false

theorem ints_head {w : World} {a : Option Addr} {n cap : Nat} {L : List Int} (h : IntsAt w a n cap L) (m : Nat) (hm : m ≤ n) : IntsAt w a m cap (L.take m) := by
  obtain ⟨h1, h2, h3, h4, h5⟩ := h
  refine ⟨by simp; omega, by omega, h3, fun x hx => h4 x (List.mem_of_mem_take hx), ?_⟩
  rcases h5 with ⟨rfl, rfl, rfl⟩ | ⟨ad, rfl, hc⟩
  · exact .inl ⟨rfl, by omega, rfl⟩
  · refine .inr ⟨ad, rfl, fun i j x hx hj => ?_⟩
    have hi : i < m := by have := (List.getElem?_eq_some_iff.1 hx).1; simp at this; omega
    rw [List.getElem?_take_of_lt hi] at hx
    exact hc i j x hx hj
theorem u_no {N : Int} {l : List UInt8} (h : mayS N l = false) (k : Int) (L : List Int) : takeU N l k = ([], [], 1) ∧ giveU N l L = (none, 1) ∧ markU N l L = (none, 1) := by simp [takeU, giveU, markU, h]
theorem u_ok {N : Int} {l : List UInt8} (h : mayS N l = true) (k : Int) (L : List Int) : takeU N l k = takeR (FU N l) k ∧ giveU N l L = turnF true 6 (FU N l) L ∧ markU N l L = turnF false 15 (FU N l) L := by simp [takeU, giveU, markU, FU, h]

/-- an empty space beside the zero one -/
theorem same_none {u : World} {a : Option Addr} {n cap : Nat} (h : BytesAt u a n cap (packB [])) : Calls Try.prog 9 #[.agg #[.int .i64 0, .slice a n cap], .agg #[.int .i64 0, .slice none 0 0]] u fun e w' => e = .returned (.bool true) ∧ Below u.heap.size u w' :=
  rsame_any 0 0 a none n cap 0 0 [] [] u h (BytesAt.nil u)
theorem same_sp {u : World} {F : List Bool} {a a' : Option Addr} {n cap n' cap' : Nat} (h : SpAt u F.length a n cap F) (h' : SpAt u F.length a' n' cap' F) :
    Calls Try.prog 9 #[.agg #[.int .i64 F.length, .slice a n cap], .agg #[.int .i64 F.length, .slice a' n' cap']] u fun e w' => e = .returned (.bool true) ∧ Below u.heap.size u w' := by
  have := rsame_any F.length F.length a a' n cap n' cap' _ _ u h.oct h'.oct
  rw [decide_eq_true rfl, beq_self_eq_true] at this
  exact this
theorem turn_rd {w6 : World} {F FG : List Bool} {G1 : Option (List Bool)} {eg er : Int} {st : Bool} {LL : List Int} {av la : Option Addr} {cv ln lc : Nat} (h2 : (G1, eg) = turnF st er F LL) (hg : FG = G1.getD []) (BA : BoolsAt w6 av F.length cv F) (hF : F.length ≤ 2048) (HI : IntsAt w6 la ln lc LL) :
    ∀ u, Below w6.heap.size w6 u → Calls Try.prog 22 #[.slice av F.length cv, .slice la ln lc, .bool st, .int .i64 er] u (fun e w' => ∃ x c, e = .returned (.tuple #[.slice x FG.length c, .int .i64 eg]) ∧ BoolsAt w' x FG.length c FG ∧ Below u.heap.size u w') := by
  intro u h
  have := rturn_any av F.length cv F la ln lc LL st er u (CameAt.below BA (by omega) h) hF (CameAt.below HI (by omega) h)
  rw [← h2] at this
  subst hg
  refine this.mono ?_
  rintro e w' ⟨x, c, rfl, ho, hb⟩
  exact ⟨x, c, rfl, bools_owned ho, hb⟩
theorem take_rd2 {w6 : World} {F F1 : List Bool} {P1 : List Nat} {K : Nat} {av : Option Addr} {cv : Nat} (h1 : F1 = markF F ((frees F).take K)) (h2 : P1 = (frees F).take K) (hf : K ≤ (frees F).length) (BA : BoolsAt w6 av F.length cv F) (hF : F.length ≤ 2048) (hK : K ≤ 9223372036854775807) :
    ∀ u, Below w6.heap.size w6 u → Calls Try.prog 21 #[.slice av F.length cv, .int .i64 K] u (fun e w' => ∃ x c y d, e = .returned (.tuple #[.slice x F.length c, .slice y P1.length d, .bool true]) ∧ BoolsAt w' x F.length c F1 ∧ IntsAt w' y P1.length d (P1.map Int.ofNat) ∧ Below u.heap.size u w') := by
  intro u h
  subst h1 h2
  refine (rtake_any av F.length cv F K u (CameAt.below BA (by omega) h) hF hK).mono ?_
  rintro e w' ⟨x, c, y, d, rfl, ho, hp, hb⟩
  have hl : (((frees F).take K).length == K) = true := by rw [beq_iff_eq, List.length_take]; omega
  rw [hl]
  exact ⟨x, c, y, d, rfl, bools_owned ho, ints_owned hp, hb⟩
theorem take_rd3 {w6 : World} {F : List Bool} {K : Nat} {av : Option Addr} {cv : Nat} (hf : ¬ K ≤ (frees F).length) (BA : BoolsAt w6 av F.length cv F) (hF : F.length ≤ 2048) (hK : K ≤ 9223372036854775807) :
    ∀ u, Below w6.heap.size w6 u → Calls Try.prog 21 #[.slice av F.length cv, .int .i64 K] u (fun e w' => ∃ x c y d m, e = .returned (.tuple #[.slice x F.length c, .slice y m d, .bool false]) ∧ Below u.heap.size u w') := by
  intro u h
  refine (rtake_any av F.length cv F K u (CameAt.below BA (by omega) h) hF hK).mono ?_
  rintro e w' ⟨x, c, y, d, rfl, ho, hp, hb⟩
  have hl : (((frees F).take K).length == K) = false := by rw [beq_eq_false_iff_ne, List.length_take]; omega
  rw [hl]
  exact ⟨x, c, y, d, _, rfl, hb⟩

set_option maxRecDepth 100000 in
set_option maxHeartbeats 8000000 in
theorem core (N : Int) (a : Option Addr) (n cap : Nat) (l : List UInt8) (k : Int) (la0 : Option Addr) (ln0 lc0 : Nat) (LL0 : List Int) (w : World) (hl : BytesAt w a n cap l) (hi : IntsAt w la0 ln0 lc0 LL0) (hk : k ≤ 9223372036854775807) :
    Calls Try.prog 4 #[.agg #[.int .i64 N, .slice a n cap], .int .i64 k, .slice la0 ln0 lc0] w fun e w' => e = .returned (.bool true) ∧ Below w.heap.size w w' := by
  have hb0 : Below w.heap.size w (w.alloc (.cells #[.int .i64 N, .slice a n cap] 24)) := (Below.refl _ _).alloc (Nat.le_refl _) _
  have CF := Lib.hid (few_gen (N := N) (hl.below hb0))
  have HL := Lib.hid (hl.head (m := min n 258) (by omega))
  have HI := Lib.hid hi
  have hn2 : min n 258 ≤ 258 := by omega
  generalize l.take (min n 258) = L at *
  generalize min n 258 = m at *
  clear hl hi
  go_enter Try.func4, Try.ntmps4
  go_wp2_with fail
  refine (CF.out).mono ?_
  rintro e w1 ⟨rfl, hb1⟩
  have xs1 : w1.heap[w.heap.size]? = some (.cells (spV N a n cap) 24 (0, 0)) := box_keep hb1
  have b01 : Below w.heap.size w w1 := box_low hb1
  go_upto_region 2 with (refine wpList_store_row rfl _ _ _ rfl w.heap.size (spV N a m cap) rfl rfl 24 _ xs1 sizeSp rfl (spV_one _ _ _ _) ?_)
  have xs2 := heap_setRow_same w1 w.heap.size (spV N a m cap) _ _ xs1
  have b02 : Below w.heap.size w (w1.setRow w.heap.size (spV N a m cap)) := below_setRow b01 (Nat.le_refl _) _
  clear CF hb1 xs1 b01 hb0
  generalize w1.setRow w.heap.size (spV N a m cap) = w2 at *
  have HI1 := Lib.hid (CameAt.below HI.out (by omega) b02)
  have HL2 := Lib.hid (HL.out.below b02)
  have B02 := Lib.hid b02
  have XS2 := Lib.hid xs2
  have hs2 : w.heap.size < w2.heap.size := (Array.getElem?_eq_some_iff.1 xs2).1
  clear xs2 b02 HL HI
  dsimp only [Act.put]
  go_upto_if 29 with (fail)
  go_cut [2] (fun s2 wx => wx = w2 ∧ ∃ a' n' c' L', s2 = .slice a' n' c' ∧ IntsAt w2 a' n' c' L')
  case first =>
    by_cases hn : 100 < ln0
    · have hni : (100 : Int) < ln0 := by omega
      have hc := HI1.out.2.1
      have hcc : 100 ≤ lc0 := by omega
      have hcut := ints_head HI1.out 100 (by omega)
      go_wp2
      go_meet
      exact ⟨rfl, la0, 100, lc0, _, rfl, hcut⟩
    · have hni : ¬ (100 : Int) < ln0 := by omega
      go_wp2
      go_meet
      exact ⟨rfl, la0, ln0, lc0, _, rfl, HI1.out⟩
  case rest =>
    obtain ⟨hwc, la, ln, lc, LL, rfl, hi⟩ := hcut
    clear HI1
    have HI2 := Lib.hid hi
    clear hi
    subst hwc
    have hcv2 := HL2.out.conv
    obtain ⟨c0, c1⟩ := sp_cells XS2.out
    go_upto_region 5 with (fail)
    have CA := Lib.hid (take_gen (N := N) HL2.out k)
    clear hcv2
    go_wp2_with fail
    refine (CA.out).mono ?_
    rintro e w3 ⟨a3, n3, q3, p3, d3, rfl, S3, I3, hb3⟩
    have hk3 : Below wc.heap.size wc (w3.alloc (.cells #[.int .i64 ((takeU N L k).1.length : Nat), .slice a3 n3 q3] 24)) := hb3.alloc hb3.size _
    have xs3 := (hb3.block _ hs2).trans XS2.out
    obtain ⟨d0, d1⟩ := sp_cells xs3
    have hs3 : w.heap.size < w3.heap.size := (Array.getElem?_eq_some_iff.1 xs3).1
    have CB := Lib.hid (give_gen (N := N) (HL2.out.below hk3) (CameAt.below HI2.out (by omega) hk3))
    have CC0 := fun (u : World) (hu : Below wc.heap.size wc u) => mark_gen (N := N) (HL2.out.below hu) (CameAt.below HI2.out (by omega) hu)
    have hno := fun h => u_no (N := N) (l := L) h k LL
    have hok := fun h => u_ok (N := N) (l := L) h k LL
    have CL0 := fun (u : World) (hu : Below wc.heap.size wc u) => flags_rd (N := N) (HL2.out.below hu) hn2
    have FLN := FU_len N L
    generalize takeU N L k = r1 at *
    obtain ⟨F1, P1, e1⟩ := r1
    generalize giveU N L LL = rg at *
    obtain ⟨G1, eg⟩ := rg
    generalize markU N L LL = rm at *
    obtain ⟨M1, em⟩ := rm
    simp only at *
    have HNO := Lib.hid hno
    have HOK := Lib.hid hok
    have CC := Lib.hid CC0
    have CL := Lib.hid CL0
    obtain ⟨FG, hFG⟩ : ∃ FG, FG = G1.getD [] := ⟨_, rfl⟩
    obtain ⟨FM, hFM⟩ : ∃ FM, FM = M1.getD [] := ⟨_, rfl⟩
    have CC' := Lib.hid (fun u hu => CC.out u hu)
    rw [← hFG] at CB
    rw [← hFM] at CC
    have HFG := Lib.hid hFG
    have HFM := Lib.hid hFM
    have S3' := Lib.hid S3
    have I3' := Lib.hid I3
    have B23 := Lib.hid hb3
    have XS3 := Lib.hid xs3
    clear CA hno hok CC0 CL0 CC' hFG hFM S3 I3 hb3 hk3 xs3 c0 c1
    go_wp2_with fail
    refine (CB.out).mono ?_
    rintro e w4 ⟨a4, n4, q4, rfl, S4, hb4⟩
    have b34 : Below w3.heap.size w3 w4 := box_low hb4
    have xa4 : w4.heap[w3.heap.size]? = some (.cells (spV F1.length a3 n3 q3) 24 (0, 0)) := box_keep hb4
    have b24 := B23.out.trans (b34.mono B23.out.size)
    have hk4 : Below wc.heap.size wc (w4.alloc (.cells #[.int .i64 (FG.length : Nat), .slice a4 n4 q4] 24)) := b24.alloc b24.size _
    have xs4 := (b34.block _ hs3).trans XS3.out
    obtain ⟨c0, c1⟩ := sp_cells xs4
    have hs4 : w.heap.size < w4.heap.size := (Array.getElem?_eq_some_iff.1 xs4).1
    have CD := Lib.hid (CC.out _ hk4)
    have XS4 := Lib.hid xs4
    have XA4 := Lib.hid xa4
    have S3a := Lib.hid (S3'.out.below b34)
    have I3a := Lib.hid (CameAt.below I3'.out (by omega) b34)
    have S4' := Lib.hid S4
    have B24 := Lib.hid b24
    clear CB hb4 b34 xa4 b24 hk4 xs4 d0 d1 S4 S3' I3' B23 XS3 CC
    go_wp2_with fail
    refine (CD.out).mono ?_
    rintro e w5 ⟨a5, n5, q5, rfl, S5, hb5⟩
    have b45 : Below w4.heap.size w4 w5 := box_low hb5
    have xb5 : w5.heap[w4.heap.size]? = some (.cells (spV FG.length a4 n4 q4) 24 (0, 0)) := box_keep hb5
    have xa5 := (b45.block _ (Array.getElem?_eq_some_iff.1 XA4.out).1).trans XA4.out
    have xs5 := (b45.block _ hs4).trans XS4.out
    have b25 := B24.out.trans (b45.mono B24.out.size)
    have hs5 : w.heap.size < w5.heap.size := (Array.getElem?_eq_some_iff.1 xs5).1
    obtain ⟨d0, d1⟩ := sp_cells xs5
    have hk5 : Below w5.heap.size w5 (w5.alloc (.cells #[.int .i64 (FM.length : Nat), .slice a5 n5 q5] 24)) := (Below.refl _ _).alloc (Nat.le_refl _) _
    have hcv5 := (HL2.out.below (b25.trans (hk5.mono b25.size))).conv
    have hk6 : Below (w5.heap.size + 2) ((w5.alloc (.cells #[.int .i64 (FM.length : Nat), .slice a5 n5 q5] 24)).alloc (.cells #[.int .i64 0, .slice none 0 0] 24)) ((w5.alloc (.cells #[.int .i64 (FM.length : Nat), .slice a5 n5 q5] 24)).alloc (.cells #[.int .i64 0, .slice none 0 0] 24)) := Below.refl _ _
    have hk56 : Below w5.heap.size w5 ((w5.alloc (.cells #[.int .i64 (FM.length : Nat), .slice a5 n5 q5] 24)).alloc (.cells #[.int .i64 0, .slice none 0 0] 24)) := hk5.alloc hk5.size _
    have CFl := Lib.hid (CL.out _ (b25.trans (hk56.mono b25.size)))
    have XS5 := Lib.hid xs5
    have XA5 := Lib.hid xa5
    have XB5 := Lib.hid xb5
    have S3b := Lib.hid (S3a.out.below b45)
    have I3b := Lib.hid (CameAt.below I3a.out (by omega) b45)
    have S4b := Lib.hid (S4'.out.below b45)
    have S5' := Lib.hid S5
    have B25 := Lib.hid b25
    have K56 := Lib.hid hk56
    clear CD hb5 b45 xb5 xa5 xs5 b25 hk5 hk6 hk56 c0 c1 S5 S3a I3a S4' B24 XS4 XA4 CL
    go_wp2_with fail
    refine (CFl.out).mono ?_
    rintro e w6 ⟨av, cv, rfl, BA6, hb6⟩
    have hsz : ((w5.alloc (.cells #[.int .i64 (FM.length : Nat), .slice a5 n5 q5] 24)).alloc (.cells #[.int .i64 0, .slice none 0 0] 24)).heap.size = w5.heap.size + 2 := by simp
    rw [hsz] at hb6
    have b56 := K56.out.trans (hb6.mono (by omega))
    have xa6 := (b56.block _ (Array.getElem?_eq_some_iff.1 XA5.out).1).trans XA5.out
    have xb6 := (b56.block _ (Array.getElem?_eq_some_iff.1 XB5.out).1).trans XB5.out
    have xc6 : w6.heap[w5.heap.size]? = some (.cells (spV FM.length a5 n5 q5) 24 (0, 0)) := (hb6.block _ (by omega)).trans (heap_alloc2_old _ _ _)
    have xd6 : w6.heap[w5.heap.size + 1]? = some (.cells (spV 0 none 0 0) 24 (0, 0)) := (hb6.block _ (by omega)).trans (heap_alloc2_new _ _ _)
    have S1 := Lib.hid (S3b.out.below b56)
    have I1 := Lib.hid (CameAt.below I3b.out (by omega) b56)
    have SG := Lib.hid (S4b.out.below b56)
    have SM := Lib.hid (S5'.out.below b56)
    have b26 := B25.out.trans (b56.mono B25.out.size)
    have HI6 := Lib.hid (CameAt.below HI2.out (by omega) b26)
    have B06 := Lib.hid (B02.out.trans (b26.mono B02.out.size))
    have BA := Lib.hid BA6
    have hx6 : w5.heap.size + 1 < w6.heap.size := (Array.getElem?_eq_some_iff.1 xd6).1
    have hA6 : w3.heap.size < w6.heap.size := (Array.getElem?_eq_some_iff.1 xa6).1
    have hB6 : w4.heap.size < w6.heap.size := (Array.getElem?_eq_some_iff.1 xb6).1
    have XA := Lib.hid xa6
    have XB := Lib.hid xb6
    have XC := Lib.hid xc6
    have XD := Lib.hid xd6
    clear CFl hcv5 hb6 b56 xa6 xb6 xc6 xd6 b26 BA6 hsz d0 d1 S3b I3b S4b S5' B25 K56 XA5 XB5 XS5 HI2 HL2 XS2 B02
    generalize hmb : mayS N L = mb at *
    generalize FU N L = F at *
    cases mb with
    | false =>
      obtain ⟨h1, h2, h3⟩ := HNO.out rfl
      simp only [Prod.mk.injEq] at h1 h2 h3
      obtain ⟨rfl, rfl, rfl⟩ := h1
      obtain ⟨rfl, rfl⟩ := h2
      obtain ⟨rfl, rfl⟩ := h3
      have hg := HFG.out
      have hm := HFM.out
      simp only [Option.getD_none] at hg hm
      subst hg hm
      have QA := Lib.hid (fun (u : World) (h : Below w6.heap.size w6 u) => show u.cell? ⟨w3.heap.size, 0, none⟩ = some (.int .i64 0) ∧ u.cell? ⟨w3.heap.size, 1, none⟩ = some (.slice a3 n3 q3) from sp_cells ((h.block _ hA6).trans XA.out))
      have QB := Lib.hid (fun (u : World) (h : Below w6.heap.size w6 u) => show u.cell? ⟨w4.heap.size, 0, none⟩ = some (.int .i64 0) ∧ u.cell? ⟨w4.heap.size, 1, none⟩ = some (.slice a4 n4 q4) from sp_cells ((h.block _ hB6).trans XB.out))
      have QC := Lib.hid (fun (u : World) (h : Below w6.heap.size w6 u) => show u.cell? ⟨w5.heap.size, 0, none⟩ = some (.int .i64 0) ∧ u.cell? ⟨w5.heap.size, 1, none⟩ = some (.slice a5 n5 q5) from sp_cells ((h.block _ (by omega)).trans XC.out))
      have QD := Lib.hid (fun (u : World) (h : Below w6.heap.size w6 u) => show u.cell? ⟨w5.heap.size + 1, 0, none⟩ = some (.int .i64 0) ∧ u.cell? ⟨w5.heap.size + 1, 1, none⟩ = some (.slice none 0 0) from sp_cells ((h.block _ hx6).trans XD.out))
      have RA := Lib.hid (fun (u : World) (h : Below w6.heap.size w6 u) => same_none (S1.out.oct.below h))
      have RB := Lib.hid (fun (u : World) (h : Below w6.heap.size w6 u) => same_none (SG.out.oct.below h))
      have RC := Lib.hid (fun (u : World) (h : Below w6.heap.size w6 u) => same_none (SM.out.oct.below h))
      clear HNO HOK HFG HFM hmb XA XB XC XD S1 SG SM I1
      obtain ⟨c0, c1⟩ := QA.out w6 (Below.refl _ _)
      obtain ⟨d0, d1⟩ := QD.out w6 (Below.refl _ _)
      go_wp2_with fail
      refine (RA.out w6 (Below.refl _ _)).mono ?_
      rintro e w7 ⟨rfl, hb7⟩
      have B67 := Lib.hid hb7
      clear c0 c1 d0 d1 hb7
      obtain ⟨c0, c1⟩ := QB.out w7 B67.out
      obtain ⟨d0, d1⟩ := QD.out w7 B67.out
      go_wp2_with fail
      refine (RB.out w7 B67.out).mono ?_
      rintro e w8 ⟨rfl, hb8⟩
      have B68 := Lib.hid (B67.out.trans (hb8.mono B67.out.size))
      clear c0 c1 d0 d1 hb8
      obtain ⟨c0, c1⟩ := QC.out w8 B68.out
      obtain ⟨d0, d1⟩ := QD.out w8 B68.out
      go_wp2_with fail
      refine (RC.out w8 B68.out).mono ?_
      rintro e w9 ⟨rfl, hb9⟩
      have B69 := Lib.hid (B68.out.trans (hb9.mono B68.out.size))
      have CAW := Lib.hid (awake05 w9)
      clear c0 c1 d0 d1 hb9
      go_wp2_with fail
      refine (CAW.out).mono ?_
      rintro e w10 ⟨rfl, hb10⟩
      have B00 := Lib.hid (B06.out.trans ((B69.out.trans (hb10.mono B69.out.size)).mono B06.out.size))
      clear CAW hb10
      go_wp2
      go_ret
      exact ⟨rfl, B00.out⟩
    | true =>
      obtain ⟨h1, h2, h3⟩ := HOK.out rfl
      have H1 := Lib.hid h1
      have QB := Lib.hid (fun (u : World) (h : Below w6.heap.size w6 u) => sp_cells ((h.block _ hB6).trans XB.out))
      have QC := Lib.hid (fun (u : World) (h : Below w6.heap.size w6 u) => sp_cells ((h.block w5.heap.size (by omega)).trans XC.out))
      have QD := Lib.hid (fun (u : World) (h : Below w6.heap.size w6 u) => show u.cell? ⟨w5.heap.size + 1, 0, none⟩ = some (.int .i64 0) ∧ u.cell? ⟨w5.heap.size + 1, 1, none⟩ = some (.slice none 0 0) from sp_cells ((h.block _ hx6).trans XD.out))
      have T1 := Lib.hid (turn_rd (w6 := w6) h2 HFG.out BA.out FLN HI6.out)
      have T2 := Lib.hid (turn_rd (w6 := w6) h3 HFM.out BA.out FLN HI6.out)
      clear HNO HOK h1 h2 h3 HFG HFM hmb XB XC XD
      by_cases hk0 : k < 0
      · have h1 := H1.out
        rw [takeR, if_pos hk0] at h1
        simp only [Prod.mk.injEq] at h1
        obtain ⟨rfl, rfl, rfl⟩ := h1
        clear H1
        have QA := Lib.hid (fun (u : World) (h : Below w6.heap.size w6 u) => show u.cell? ⟨w3.heap.size, 0, none⟩ = some (.int .i64 0) ∧ u.cell? ⟨w3.heap.size, 1, none⟩ = some (.slice a3 n3 q3) from sp_cells ((h.block _ hA6).trans XA.out))
        have RA := Lib.hid (fun (u : World) (h : Below w6.heap.size w6 u) => same_none (S1.out.oct.below h))
        clear XA I1 S1
        obtain ⟨c0, c1⟩ := QA.out w6 (Below.refl _ _)
        obtain ⟨d0, d1⟩ := QD.out w6 (Below.refl _ _)
        go_wp2_with fail
        refine (RA.out w6 (Below.refl _ _)).mono ?_
        rintro e w9 ⟨rfl, hb7⟩
        have B69 := Lib.hid hb7
        clear c0 c1 d0 d1 hb7
        go_wp2_with fail
        refine (T1.out _ B69.out).mono ?_
        rintro e w10 ⟨x1, y1, rfl, BX1, hb10⟩
        have B60 := Lib.hid (B69.out.trans (hb10.mono B69.out.size))
        have BX1' := Lib.hid BX1
        clear hb10 BX1
        go_wp2_with fail
        refine (T2.out _ B60.out).mono ?_
        rintro e w11 ⟨x2, y2, rfl, BX2, hb11⟩
        have B61 := Lib.hid (B60.out.trans (hb11.mono B60.out.size))
        have bd : Below w11.heap.size w11 w11.drew := below_drewN (Below.refl _ _) 1
        have B6d := Lib.hid (B61.out.trans (bd.mono B61.out.size))
        have BX1d := Lib.hid (CameAt.below (CameAt.below BX1'.out (by omega) hb11) (by omega) bd)
        have BX2d := Lib.hid (CameAt.below BX2 (by omega) bd)
        clear hb11 BX2 BX1' bd
        obtain ⟨c0, c1⟩ := QB.out _ B61.out
        obtain ⟨d0, d1⟩ := QC.out _ B61.out
        go_upto_region 25 with (fail)
        clear c0 c1 d0 d1
        refine region_head 24 [0, 1, 2, 3, 4, 5, 6, 7, 8, 9, 10, 11, 12, 13, 14, 15, 16, 17, 18, 19, 20, 21, 22, 23] [2, 3, 12, 13, 21] (fun u => (u.cell? ⟨w4.heap.size, 0, none⟩ = some (.int .i64 FG.length) ∧ u.cell? ⟨w4.heap.size, 1, none⟩ = some (.slice a4 n4 q4)) ∧ (u.cell? ⟨w5.heap.size, 0, none⟩ = some (.int .i64 FM.length) ∧ u.cell? ⟨w5.heap.size, 1, none⟩ = some (.slice a5 n5 q5))) (by kernel_rfl) (by kernel_rfl) ⟨QB.out _ B6d.out, QC.out _ B6d.out⟩ ?_
        simp only [pickO, List.append_eq, List.cons_append, List.nil_append, List.filterMap_cons, List.filterMap_nil, List.getElem?_cons_zero, List.getElem?_cons_succ, Option.map_some, List.drop_succ_cons, List.drop_zero]
        iterate 2
          refine seqH_readG _ rfl (by rfl) (by rintro u ⟨⟨hu1, hu2⟩, ⟨hu3, hu4⟩⟩; go_simp; with_reducible rfl) ?_
          try simp only [Act.put, List.setIfInBounds_toArray, List.set_cons_zero, List.set_cons_succ]
        refine seqH_moveG rfl (by rfl) (fun K hK => ?_)
        go_simp
        refine (sp_rd SG.out.len (rof_any _ _ _ FG _ BX1d.out SG.out.len)).mono ?_
        rintro e w12 ⟨a12, n12, q12, rfl, S12, hb12⟩
        dsimp only [id]
        have b612 := B6d.out.trans (hb12.mono B6d.out.size)
        have CS1 := Lib.hid (same_sp (SG.out.below b612) S12)
        have BX2e := Lib.hid (CameAt.below BX2d.out (by omega) hb12)
        have B612 := Lib.hid b612
        refine hK _ _ ⟨QB.out _ b612, QC.out _ b612⟩ ?_
        clear hK K hb12 S12 b612 BX2d BX1d
        try simp only [Act.put, List.setIfInBounds_toArray, List.set_cons_zero, List.set_cons_succ]
        refine seqH_moveG rfl (by rfl) (fun K hK => ?_)
        go_simp
        refine (CS1.out).mono ?_
        rintro e w13 ⟨rfl, hb13⟩
        have b613 := B612.out.trans (hb13.mono B612.out.size)
        have BX2f := Lib.hid (CameAt.below BX2e.out (by omega) hb13)
        have B613 := Lib.hid b613
        refine hK _ _ ⟨QB.out _ b613, QC.out _ b613⟩ ?_
        clear hK K hb13 CS1 b613 BX2e
        try simp only [Act.put, List.setIfInBounds_toArray, List.set_cons_zero, List.set_cons_succ]
        iterate 6
          refine seqH_readG _ rfl (by rfl) (by rintro u hu; clear hu; go_simp; with_reducible rfl) ?_
          try simp only [Act.put, List.setIfInBounds_toArray, List.set_cons_zero, List.set_cons_succ]
        iterate 2
          refine seqH_readG _ rfl (by rfl) (by rintro u ⟨⟨hu1, hu2⟩, ⟨hu3, hu4⟩⟩; go_simp; with_reducible rfl) ?_
          try simp only [Act.put, List.setIfInBounds_toArray, List.set_cons_zero, List.set_cons_succ]
        refine seqH_moveG rfl (by rfl) (fun K hK => ?_)
        go_simp
        refine (sp_rd SM.out.len (rof_any _ _ _ FM _ BX2f.out SM.out.len)).mono ?_
        rintro e w14 ⟨a14, n14, q14, rfl, S14, hb14⟩
        dsimp only [id]
        have b614 := B613.out.trans (hb14.mono B613.out.size)
        have CS2 := Lib.hid (same_sp (SM.out.below b614) S14)
        have B614 := Lib.hid b614
        refine hK _ _ ⟨QB.out _ b614, QC.out _ b614⟩ ?_
        clear hK K hb14 S14 b614 BX2f
        try simp only [Act.put, List.setIfInBounds_toArray, List.set_cons_zero, List.set_cons_succ]
        refine seqH_moveG rfl (by rfl) (fun K hK => ?_)
        go_simp
        refine (CS2.out).mono ?_
        rintro e w15 ⟨rfl, hb15⟩
        have b615 := B614.out.trans (hb15.mono B614.out.size)
        have B615 := Lib.hid b615
        refine hK _ _ ⟨QB.out _ b615, QC.out _ b615⟩ ?_
        clear hK K hb15 CS2 b615
        try simp only [Act.put, List.setIfInBounds_toArray, List.set_cons_zero, List.set_cons_succ]
        iterate 7
          refine seqH_readG _ rfl (by rfl) (by rintro u hu; clear hu; go_simp; with_reducible rfl) ?_
          try simp only [Act.put, List.setIfInBounds_toArray, List.set_cons_zero, List.set_cons_succ]
        refine seqH_moveG rfl (by rfl) (fun K hK => ?_)
        go_simp
        refine (awake05 _).mono ?_
        rintro e w16 ⟨rfl, hb16⟩
        have b616 := B615.out.trans (hb16.mono B615.out.size)
        have B00 := Lib.hid (B06.out.trans (b616.mono B06.out.size))
        refine hK _ _ ⟨QB.out _ b616, QC.out _ b616⟩ ?_
        clear hK K hb16 b616
        try simp only [Act.put, List.setIfInBounds_toArray, List.set_cons_zero, List.set_cons_succ]
        iterate 2
          refine seqH_readG _ rfl (by rfl) (by rintro u hu; clear hu; go_simp; with_reducible rfl) ?_
          try simp only [Act.put, List.setIfInBounds_toArray, List.set_cons_zero, List.set_cons_succ]
        refine seqH_nil ?_
        go_wp2
        go_ret
        exact ⟨rfl, B00.out⟩
      · obtain ⟨K, rfl⟩ : ∃ K : Nat, k = K := ⟨k.toNat, by omega⟩
        have hK64 : K ≤ 9223372036854775807 := by omega
        by_cases hf : K ≤ (frees F).length
        · have h1 := H1.out
          rw [takeR, if_neg hk0, if_neg (by omega), Int.toNat_natCast] at h1
          simp only [Prod.mk.injEq] at h1
          obtain ⟨hF1, hP1, rfl⟩ := h1
          have T0 := Lib.hid (take_rd2 (w6 := w6) hF1 hP1 hf BA.out FLN hK64)
          clear H1 hF1 hP1 hf
          have QA := Lib.hid (fun (u : World) (h : Below w6.heap.size w6 u) => sp_cells ((h.block _ hA6).trans XA.out))
          go_wp2_with fail
          refine (T0.out w6 (Below.refl _ _)).mono ?_
          rintro e w7 ⟨x7, c7, y7, d7, rfl, BX7, I7, hb7⟩
          have bd : Below w7.heap.size w7 w7.drew := below_drewN (Below.refl _ _) 1
          have B6d := Lib.hid (hb7.trans (bd.mono hb7.size))
          have BX7d := Lib.hid (CameAt.below BX7 (by omega) bd)
          have I7d := Lib.hid (CameAt.below I7 (by omega) bd)
          obtain ⟨c0, c1⟩ := QA.out _ hb7
          clear BX7 I7 bd XA T0
          go_upto_region 19 with (fail)
          clear c0 c1 hb7
          refine region_head 15 [0, 1, 2, 3, 4, 5, 6, 7, 8, 9, 10, 11, 12, 13, 14] [2, 3, 8] (fun u => u.cell? ⟨w3.heap.size, 0, none⟩ = some (.int .i64 F1.length) ∧ u.cell? ⟨w3.heap.size, 1, none⟩ = some (.slice a3 n3 q3)) (by kernel_rfl) (by kernel_rfl) (QA.out _ B6d.out) ?_
          simp only [pickO, List.append_eq, List.cons_append, List.nil_append, List.filterMap_cons, List.filterMap_nil, List.getElem?_cons_zero, List.getElem?_cons_succ, Option.map_some, List.drop_succ_cons, List.drop_zero]
          iterate 2
            refine seqH_readG _ rfl (by rfl) (by rintro u ⟨hu1, hu2⟩; go_simp; with_reducible rfl) ?_
            try simp only [Act.put, List.setIfInBounds_toArray, List.set_cons_zero, List.set_cons_succ]
          refine seqH_moveG rfl (by rfl) (fun K' hK => ?_)
          go_simp
          refine (sp_rd S1.out.len (rof_any _ _ _ F1 _ BX7d.out FLN)).mono ?_
          rintro e w8 ⟨a8, n8, q8, rfl, S8, hb8⟩
          dsimp only [id]
          have b68 := B6d.out.trans (hb8.mono B6d.out.size)
          have CS1 := Lib.hid (same_sp (S1.out.below b68) S8)
          have B68 := Lib.hid b68
          have I8 := Lib.hid (CameAt.below I7d.out (by omega) hb8)
          refine hK _ _ (QA.out _ b68) ?_
          clear hK K' hb8 S8 b68 BX7d I7d
          try simp only [Act.put, List.setIfInBounds_toArray, List.set_cons_zero, List.set_cons_succ]
          refine seqH_moveG rfl (by rfl) (fun K' hK => ?_)
          go_simp
          refine (CS1.out).mono ?_
          rintro e w8' ⟨rfl, hb8⟩
          have b68 := B68.out.trans (hb8.mono B68.out.size)
          have CS2 := Lib.hid (same_any _ _ _ _ _ _ _ _ w8' (CameAt.below I1.out (by omega) b68) (CameAt.below I8.out (by omega) hb8))
          rw [beq_self_eq_true] at CS2
          have B68' := Lib.hid b68
          refine hK _ _ (QA.out _ b68) ?_
          clear hK K' hb8 b68 I8 CS1 B68
          try simp only [Act.put, List.setIfInBounds_toArray, List.set_cons_zero, List.set_cons_succ]
          iterate 4
            refine seqH_readG _ rfl (by rfl) (by rintro u hu; clear hu; go_simp; with_reducible rfl) ?_
            try simp only [Act.put, List.setIfInBounds_toArray, List.set_cons_zero, List.set_cons_succ]
          refine seqH_moveG rfl (by rfl) (fun K' hK => ?_)
          go_simp
          refine (CS2.out).mono ?_
          rintro e w9 ⟨rfl, hb9⟩
          have b69 := B68'.out.trans (hb9.mono B68'.out.size)
          have B69 := Lib.hid b69
          refine hK _ _ (QA.out _ b69) ?_
          clear hK K' hb9 b69 CS2 B68'
          try simp only [Act.put, List.setIfInBounds_toArray, List.set_cons_zero, List.set_cons_succ]
          iterate 6
            refine seqH_readG _ rfl (by rfl) (by rintro u hu; clear hu; go_simp; with_reducible rfl) ?_
            try simp only [Act.put, List.setIfInBounds_toArray, List.set_cons_zero, List.set_cons_succ]
          refine seqH_nil ?_
          go_wp2_with fail
          refine (T1.out _ B69.out).mono ?_
          rintro e w10 ⟨x1, y1, rfl, BX1, hb10⟩
          have B60 := Lib.hid (B69.out.trans (hb10.mono B69.out.size))
          have BX1' := Lib.hid BX1
          clear hb10 BX1
          go_wp2_with fail
          refine (T2.out _ B60.out).mono ?_
          rintro e w11 ⟨x2, y2, rfl, BX2, hb11⟩
          have B61 := Lib.hid (B60.out.trans (hb11.mono B60.out.size))
          have bd : Below w11.heap.size w11 w11.drew := below_drewN (Below.refl _ _) 1
          have B6d := Lib.hid (B61.out.trans (bd.mono B61.out.size))
          have BX1d := Lib.hid (CameAt.below (CameAt.below BX1'.out (by omega) hb11) (by omega) bd)
          have BX2d := Lib.hid (CameAt.below BX2 (by omega) bd)
          clear hb11 BX2 BX1' bd
          obtain ⟨c0, c1⟩ := QB.out _ B61.out
          obtain ⟨d0, d1⟩ := QC.out _ B61.out
          go_upto_region 25 with (fail)
          clear c0 c1 d0 d1
          refine region_head 24 [0, 1, 2, 3, 4, 5, 6, 7, 8, 9, 10, 11, 12, 13, 14, 15, 16, 17, 18, 19, 20, 21, 22, 23] [2, 3, 12, 13, 21] (fun u => (u.cell? ⟨w4.heap.size, 0, none⟩ = some (.int .i64 FG.length) ∧ u.cell? ⟨w4.heap.size, 1, none⟩ = some (.slice a4 n4 q4)) ∧ (u.cell? ⟨w5.heap.size, 0, none⟩ = some (.int .i64 FM.length) ∧ u.cell? ⟨w5.heap.size, 1, none⟩ = some (.slice a5 n5 q5))) (by kernel_rfl) (by kernel_rfl) ⟨QB.out _ B6d.out, QC.out _ B6d.out⟩ ?_
          simp only [pickO, List.append_eq, List.cons_append, List.nil_append, List.filterMap_cons, List.filterMap_nil, List.getElem?_cons_zero, List.getElem?_cons_succ, Option.map_some, List.drop_succ_cons, List.drop_zero]
          iterate 2
            refine seqH_readG _ rfl (by rfl) (by rintro u ⟨⟨hu1, hu2⟩, ⟨hu3, hu4⟩⟩; go_simp; with_reducible rfl) ?_
            try simp only [Act.put, List.setIfInBounds_toArray, List.set_cons_zero, List.set_cons_succ]
          refine seqH_moveG rfl (by rfl) (fun K hK => ?_)
          go_simp
          refine (sp_rd SG.out.len (rof_any _ _ _ FG _ BX1d.out SG.out.len)).mono ?_
          rintro e w12 ⟨a12, n12, q12, rfl, S12, hb12⟩
          dsimp only [id]
          have b612 := B6d.out.trans (hb12.mono B6d.out.size)
          have CS1 := Lib.hid (same_sp (SG.out.below b612) S12)
          have BX2e := Lib.hid (CameAt.below BX2d.out (by omega) hb12)
          have B612 := Lib.hid b612
          refine hK _ _ ⟨QB.out _ b612, QC.out _ b612⟩ ?_
          clear hK K hb12 S12 b612 BX2d BX1d
          try simp only [Act.put, List.setIfInBounds_toArray, List.set_cons_zero, List.set_cons_succ]
          refine seqH_moveG rfl (by rfl) (fun K hK => ?_)
          go_simp
          refine (CS1.out).mono ?_
          rintro e w13 ⟨rfl, hb13⟩
          have b613 := B612.out.trans (hb13.mono B612.out.size)
          have BX2f := Lib.hid (CameAt.below BX2e.out (by omega) hb13)
          have B613 := Lib.hid b613
          refine hK _ _ ⟨QB.out _ b613, QC.out _ b613⟩ ?_
          clear hK K hb13 CS1 b613 BX2e
          try simp only [Act.put, List.setIfInBounds_toArray, List.set_cons_zero, List.set_cons_succ]
          iterate 6
            refine seqH_readG _ rfl (by rfl) (by rintro u hu; clear hu; go_simp; with_reducible rfl) ?_
            try simp only [Act.put, List.setIfInBounds_toArray, List.set_cons_zero, List.set_cons_succ]
          iterate 2
            refine seqH_readG _ rfl (by rfl) (by rintro u ⟨⟨hu1, hu2⟩, ⟨hu3, hu4⟩⟩; go_simp; with_reducible rfl) ?_
            try simp only [Act.put, List.setIfInBounds_toArray, List.set_cons_zero, List.set_cons_succ]
          refine seqH_moveG rfl (by rfl) (fun K hK => ?_)
          go_simp
          refine (sp_rd SM.out.len (rof_any _ _ _ FM _ BX2f.out SM.out.len)).mono ?_
          rintro e w14 ⟨a14, n14, q14, rfl, S14, hb14⟩
          dsimp only [id]
          have b614 := B613.out.trans (hb14.mono B613.out.size)
          have CS2 := Lib.hid (same_sp (SM.out.below b614) S14)
          have B614 := Lib.hid b614
          refine hK _ _ ⟨QB.out _ b614, QC.out _ b614⟩ ?_
          clear hK K hb14 S14 b614 BX2f
          try simp only [Act.put, List.setIfInBounds_toArray, List.set_cons_zero, List.set_cons_succ]
          refine seqH_moveG rfl (by rfl) (fun K hK => ?_)
          go_simp
          refine (CS2.out).mono ?_
          rintro e w15 ⟨rfl, hb15⟩
          have b615 := B614.out.trans (hb15.mono B614.out.size)
          have B615 := Lib.hid b615
          refine hK _ _ ⟨QB.out _ b615, QC.out _ b615⟩ ?_
          clear hK K hb15 CS2 b615
          try simp only [Act.put, List.setIfInBounds_toArray, List.set_cons_zero, List.set_cons_succ]
          iterate 7
            refine seqH_readG _ rfl (by rfl) (by rintro u hu; clear hu; go_simp; with_reducible rfl) ?_
            try simp only [Act.put, List.setIfInBounds_toArray, List.set_cons_zero, List.set_cons_succ]
          refine seqH_moveG rfl (by rfl) (fun K hK => ?_)
          go_simp
          refine (awake05 _).mono ?_
          rintro e w16 ⟨rfl, hb16⟩
          have b616 := B615.out.trans (hb16.mono B615.out.size)
          have B00 := Lib.hid (B06.out.trans (b616.mono B06.out.size))
          refine hK _ _ ⟨QB.out _ b616, QC.out _ b616⟩ ?_
          clear hK K hb16 b616
          try simp only [Act.put, List.setIfInBounds_toArray, List.set_cons_zero, List.set_cons_succ]
          iterate 2
            refine seqH_readG _ rfl (by rfl) (by rintro u hu; clear hu; go_simp; with_reducible rfl) ?_
            try simp only [Act.put, List.setIfInBounds_toArray, List.set_cons_zero, List.set_cons_succ]
          refine seqH_nil ?_
          go_wp2
          go_ret
          exact ⟨rfl, B00.out⟩
        · have h1 := H1.out
          rw [takeR, if_neg hk0, if_pos (by omega)] at h1
          simp only [Prod.mk.injEq] at h1
          obtain ⟨rfl, rfl, rfl⟩ := h1
          have T0 := Lib.hid (take_rd3 (w6 := w6) hf BA.out FLN hK64)
          clear H1 hf
          go_wp2_with fail
          refine (T0.out w6 (Below.refl _ _)).mono ?_
          rintro e w7 ⟨x7, c7, y7, d7, m7, rfl, hb7⟩
          have B67 := Lib.hid hb7
          clear hb7 T0
          have QA := Lib.hid (fun (u : World) (h : Below w6.heap.size w6 u) => show u.cell? ⟨w3.heap.size, 0, none⟩ = some (.int .i64 0) ∧ u.cell? ⟨w3.heap.size, 1, none⟩ = some (.slice a3 n3 q3) from sp_cells ((h.block _ hA6).trans XA.out))
          have RA := Lib.hid (fun (u : World) (h : Below w6.heap.size w6 u) => same_none (S1.out.oct.below h))
          clear XA I1 S1
          obtain ⟨c0, c1⟩ := QA.out w7 B67.out
          obtain ⟨d0, d1⟩ := QD.out w7 B67.out
          go_wp2_with fail
          refine (RA.out w7 B67.out).mono ?_
          rintro e w9 ⟨rfl, hb7⟩
          have B69 := Lib.hid (B67.out.trans (hb7.mono B67.out.size))
          clear c0 c1 d0 d1 hb7
          go_wp2_with fail
          refine (T1.out _ B69.out).mono ?_
          rintro e w10 ⟨x1, y1, rfl, BX1, hb10⟩
          have B60 := Lib.hid (B69.out.trans (hb10.mono B69.out.size))
          have BX1' := Lib.hid BX1
          clear hb10 BX1
          go_wp2_with fail
          refine (T2.out _ B60.out).mono ?_
          rintro e w11 ⟨x2, y2, rfl, BX2, hb11⟩
          have B61 := Lib.hid (B60.out.trans (hb11.mono B60.out.size))
          have bd : Below w11.heap.size w11 w11.drew := below_drewN (Below.refl _ _) 1
          have B6d := Lib.hid (B61.out.trans (bd.mono B61.out.size))
          have BX1d := Lib.hid (CameAt.below (CameAt.below BX1'.out (by omega) hb11) (by omega) bd)
          have BX2d := Lib.hid (CameAt.below BX2 (by omega) bd)
          clear hb11 BX2 BX1' bd
          obtain ⟨c0, c1⟩ := QB.out _ B61.out
          obtain ⟨d0, d1⟩ := QC.out _ B61.out
          go_upto_region 25 with (fail)
          clear c0 c1 d0 d1
          refine region_head 24 [0, 1, 2, 3, 4, 5, 6, 7, 8, 9, 10, 11, 12, 13, 14, 15, 16, 17, 18, 19, 20, 21, 22, 23] [2, 3, 12, 13, 21] (fun u => (u.cell? ⟨w4.heap.size, 0, none⟩ = some (.int .i64 FG.length) ∧ u.cell? ⟨w4.heap.size, 1, none⟩ = some (.slice a4 n4 q4)) ∧ (u.cell? ⟨w5.heap.size, 0, none⟩ = some (.int .i64 FM.length) ∧ u.cell? ⟨w5.heap.size, 1, none⟩ = some (.slice a5 n5 q5))) (by kernel_rfl) (by kernel_rfl) ⟨QB.out _ B6d.out, QC.out _ B6d.out⟩ ?_
          simp only [pickO, List.append_eq, List.cons_append, List.nil_append, List.filterMap_cons, List.filterMap_nil, List.getElem?_cons_zero, List.getElem?_cons_succ, Option.map_some, List.drop_succ_cons, List.drop_zero]
          iterate 2
            refine seqH_readG _ rfl (by rfl) (by rintro u ⟨⟨hu1, hu2⟩, ⟨hu3, hu4⟩⟩; go_simp; with_reducible rfl) ?_
            try simp only [Act.put, List.setIfInBounds_toArray, List.set_cons_zero, List.set_cons_succ]
          refine seqH_moveG rfl (by rfl) (fun K hK => ?_)
          go_simp
          refine (sp_rd SG.out.len (rof_any _ _ _ FG _ BX1d.out SG.out.len)).mono ?_
          rintro e w12 ⟨a12, n12, q12, rfl, S12, hb12⟩
          dsimp only [id]
          have b612 := B6d.out.trans (hb12.mono B6d.out.size)
          have CS1 := Lib.hid (same_sp (SG.out.below b612) S12)
          have BX2e := Lib.hid (CameAt.below BX2d.out (by omega) hb12)
          have B612 := Lib.hid b612
          refine hK _ _ ⟨QB.out _ b612, QC.out _ b612⟩ ?_
          clear hK K hb12 S12 b612 BX2d BX1d
          try simp only [Act.put, List.setIfInBounds_toArray, List.set_cons_zero, List.set_cons_succ]
          refine seqH_moveG rfl (by rfl) (fun K hK => ?_)
          go_simp
          refine (CS1.out).mono ?_
          rintro e w13 ⟨rfl, hb13⟩
          have b613 := B612.out.trans (hb13.mono B612.out.size)
          have BX2f := Lib.hid (CameAt.below BX2e.out (by omega) hb13)
          have B613 := Lib.hid b613
          refine hK _ _ ⟨QB.out _ b613, QC.out _ b613⟩ ?_
          clear hK K hb13 CS1 b613 BX2e
          try simp only [Act.put, List.setIfInBounds_toArray, List.set_cons_zero, List.set_cons_succ]
          iterate 6
            refine seqH_readG _ rfl (by rfl) (by rintro u hu; clear hu; go_simp; with_reducible rfl) ?_
            try simp only [Act.put, List.setIfInBounds_toArray, List.set_cons_zero, List.set_cons_succ]
          iterate 2
            refine seqH_readG _ rfl (by rfl) (by rintro u ⟨⟨hu1, hu2⟩, ⟨hu3, hu4⟩⟩; go_simp; with_reducible rfl) ?_
            try simp only [Act.put, List.setIfInBounds_toArray, List.set_cons_zero, List.set_cons_succ]
          refine seqH_moveG rfl (by rfl) (fun K hK => ?_)
          go_simp
          refine (sp_rd SM.out.len (rof_any _ _ _ FM _ BX2f.out SM.out.len)).mono ?_
          rintro e w14 ⟨a14, n14, q14, rfl, S14, hb14⟩
          dsimp only [id]
          have b614 := B613.out.trans (hb14.mono B613.out.size)
          have CS2 := Lib.hid (same_sp (SM.out.below b614) S14)
          have B614 := Lib.hid b614
          refine hK _ _ ⟨QB.out _ b614, QC.out _ b614⟩ ?_
          clear hK K hb14 S14 b614 BX2f
          try simp only [Act.put, List.setIfInBounds_toArray, List.set_cons_zero, List.set_cons_succ]
          refine seqH_moveG rfl (by rfl) (fun K hK => ?_)
          go_simp
          refine (CS2.out).mono ?_
          rintro e w15 ⟨rfl, hb15⟩
          have b615 := B614.out.trans (hb15.mono B614.out.size)
          have B615 := Lib.hid b615
          refine hK _ _ ⟨QB.out _ b615, QC.out _ b615⟩ ?_
          clear hK K hb15 CS2 b615
          try simp only [Act.put, List.setIfInBounds_toArray, List.set_cons_zero, List.set_cons_succ]
          iterate 7
            refine seqH_readG _ rfl (by rfl) (by rintro u hu; clear hu; go_simp; with_reducible rfl) ?_
            try simp only [Act.put, List.setIfInBounds_toArray, List.set_cons_zero, List.set_cons_succ]
          refine seqH_moveG rfl (by rfl) (fun K hK => ?_)
          go_simp
          refine (awake05 _).mono ?_
          rintro e w16 ⟨rfl, hb16⟩
          have b616 := B615.out.trans (hb16.mono B615.out.size)
          have B00 := Lib.hid (B06.out.trans (b616.mono B06.out.size))
          refine hK _ _ ⟨QB.out _ b616, QC.out _ b616⟩ ?_
          clear hK K hb16 b616
          try simp only [Act.put, List.setIfInBounds_toArray, List.set_cons_zero, List.set_cons_succ]
          iterate 2
            refine seqH_readG _ rfl (by rfl) (by rintro u hu; clear hu; go_simp; with_reducible rfl) ?_
            try simp only [Act.put, List.setIfInBounds_toArray, List.set_cons_zero, List.set_cons_succ]
          refine seqH_nil ?_
          go_wp2
          go_ret
          exact ⟨rfl, B00.out⟩

theorem i64_top {a : Int} (h : (Lit.int .i64 a).wf = true) : a ≤ 9223372036854775807 := by
  simp [Lit.wf, IntKind.min, IntKind.max, IntKind.signed, IntKind.bits] at h
  omega
theorem walk (v : Value) {H : Type} {enc : TypeId × Value → H} (d : DataW H) (p : List MemPlace) (k : Int) (v2 : Value) (d2 : DataW H) (p2 : List MemPlace) (W : World) {r : Reach} {b0 base : Nat} {sp : Nat → Bool} {held : Bool} {r2 : Reach} {b2 base2 : Nat} {sp2 : Nat → Bool} {held2 : Bool}
    (hv : Value.okWide Try.prog W r b0 24 v) (h : DataW.Trod enc Try.prog W base sp held 24 v d p) (w1 : (Lit.int .i64 k).wf = true)
    (hv2 : Value.okWide Try.prog W r2 b2 34 v2) (h2 : DataW.Trod enc Try.prog W base2 sp2 held2 34 v2 d2 p2) :
    Calls Try.prog 4 #[v, .int .i64 k, v2] W fun e w' => e = .returned (.bool true) ∧ Below W.heap.size W w' := by
  obtain ⟨N, a, n, cap, l, rfl, hl⟩ := open_space hv h
  obtain ⟨la, ln, lc, L, rfl, hi⟩ := open_intsAt hv2 h2
  exact core N a n cap l k la ln lc L W hl hi (i64_top w1)

theorem own : ownKnob Try.prog.godebug = none := by kernel_rfl
theorem laidOut : laidOutB Try.prog = true := by kernel_rfl

set_option maxRecDepth 100000 in
theorem lifted (os : Os) (started : os.Started) (H : Type) (enc : TypeId × Value → H) :
    ReturnsInHanded {} Try.checked os 4 .any (Rows.spaceDoesSpec.pre6 enc Try.prog Try.f4 Rows.spaceDoesRow.domain false) (Rows.spaceDoesSpec.post enc Try.prog Try.f4 false true false false) := by
  refine returnsInHanded_of_change (C := Try.checked) own started (by kernel_rfl) Try.func4
    (ChangeSpec.witness6 (enc := enc) (C := Try.checked) false ⟨#[], #[.agg #[.int .i64 0, .slice none 0 0], .int .i64 0, .slice none 0 0], []⟩ 8 (by kernel_rfl) (by kernel_rfl) (by kernel_rfl) (by kernel_rfl)) ?_
  intro W base args ds gs before hval0 hW hcnd _
  have hval : ∀ (j : Nat) t v, Try.f4.params[j]? = some t → args[j]? = some v → Value.okWide Try.prog W .any base t v := hval0
  have hW' := hW
  obtain ⟨p, q, hA0, hV, rfl, hfz, hnd⟩ := hW
  have hA : DataW.TrodAll enc Try.prog W 0 (fun _ => true) true Try.f4.params.toList args.toList ds p := hA0
  rw [Try.params4] at hA hval
  obtain ⟨v0, vs0, d0, ds0, p0, q0, hargs, rfl, rfl, h0, r0⟩ := trodAll_cons hA
  obtain ⟨v1, vs1, d1, ds1, p1, q1, rfl, rfl, rfl, h1, r1⟩ := trodAll_cons r0
  obtain ⟨v2, vs2, d2, ds2, p2, q2, rfl, rfl, rfl, h2, r2⟩ := trodAll_cons r1
  obtain ⟨rfl, rfl, rfl⟩ := trodAll_nil r2
  obtain rfl : args = #[v0, v1, v2] := by cases args; simp_all
  obtain ⟨rfl, rfl⟩ := trodVars_none hV
  have k0 := h0
  have lt0 : ∀ x ∈ p0, x.block < W.heap.size := by obtain ⟨m, hm⟩ := k0; exact DataW.trod_lt m _ _ _ hm
  obtain ⟨a1, rfl, rfl, rfl, w1⟩ := open_int Try.underlying3 (hval 1 3 v1 rfl rfl) h1
  have k2 := h2
  have lt2 : ∀ x ∈ p2, x.block < W.heap.size := by obtain ⟨m, hm⟩ := k2; exact DataW.trod_lt m _ _ _ hm
  clear hA0 hval0
  refine (walk v0 d0 p0 a1 v2 d2 p2 W (hval 0 24 v0 rfl rfl) k0 w1 (hval 2 34 v2 rfl rfl) k2).mono fun e W' ⟨he, bel⟩ => ?_
  subst he
  exact ⟨_, rfl, _, _, _, [], _, [], hW', trodAll_mk1 (shut_bool Try.underlying4 _), (trodAll_cons_mk (Below.trod laidOut (by kernel_rfl) (of_decide_eq_true (by kernel_rfl)) k0 bel lt0) (trodAll_cons_mk (shut_int Try.underlying3 w1) (trodAll_cons_mk (Below.trod laidOut (by kernel_rfl) (of_decide_eq_true (by kernel_rfl)) k2 bel lt2) trodAll_mk0))), rfl, bel.frame _, fun h => by cases h⟩

theorem proved : Rows.SpaceDoesSaid :=
  OpenClaim.holds_of_wide 4 Try.f4 rfl rfl rfl rfl rfl rfl rfl ⟨rfl, rfl, rfl, rfl, rfl⟩ rfl rfl rfl rfl rfl (by kernel_rfl) Try.func4 (by kernel_rfl)
    (of_decide_eq_true (by kernel_rfl)) (by unfold Func.isWrapper; first | (rw [if_pos (by decide +kernel)]; kernel_rfl) | (rw [if_neg (by decide +kernel)]; exact ⟨rfl, rfl⟩))
    (fun os started H enc _ => lifted os started H enc)

end Go.Proofs.Ytcmhijhoemcdcaa.spaceDoes
