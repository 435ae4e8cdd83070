/-
  Whatever is read on, one thing behind the other: each answer, how far it is read, the first error and its place are the document's; what was handed in may change (P1.3).
  No condition: every slice of octets and every row of steps.
-/
import Derived.Test.YtkonkmgijgchlaaAwake01
import Derived.Test.YtkonkmgijgchlaaRefTake
import Derived.Test.YtkonkmgijgchlaaOpen
import Derived.Deep.DeepCutAuto
import Derived.Deep.CutBlock
import Derived.Deep.RegionHeld3
namespace Go.Proofs.Ytkonkmgijgchlaa.octetReads
open Go.ChangeShapes Go.WideShapes Go.ChangeAt Go.RowKit
open Go.ChangeMaps (open_string shut_string)
set_option linter.unusedVariables false
set_option linter.unusedSimpArgs false

/-- the steps lie behind x -/
def StepsAt (w : World) (v : Value) (len : Nat) (D N : Nat → Int) : Prop :=
  (v = .slice none 0 0 ∧ len = 0) ∨ ∃ (x : Addr) (cap : Nat), v = .slice (some x) len cap ∧ len ≤ cap ∧ cap ≤ maxLen ∧
    ∀ i, i < len → w.cell? (x.add (i * 2)) = some (.int .i64 (D i)) ∧ w.cell? (x.add (i * 2 + 1)) = some (.int .i64 (N i))

theorem StepsAt.at {w : World} {sa : Option Addr} {len scap : Nat} {D N : Nat → Int} (h : StepsAt w (.slice sa len scap) len D N) (j : Nat) (hj : j < len) :
    ∃ sb so, sa = some ⟨sb, so, none⟩ ∧ sb < w.heap.size ∧ w.cell? ⟨sb, so + j * 2, none⟩ = some (.int .i64 (D j)) ∧ w.cell? ⟨sb, so + j * 2 + 1, none⟩ = some (.int .i64 (N j)) := by
  rcases h with ⟨_, h0⟩ | ⟨x, c, hx, h1, h2, hc⟩
  · omega
  · simp only [Value.slice.injEq] at hx
    obtain ⟨rfl, _, rfl⟩ := hx
    obtain ⟨b, off, spot⟩ := x
    have hs : spot = none := by
      have := (hc 0 (by omega)).1
      simpa [Addr.add] using World.cell?_spot this
    subst hs
    have e : ∀ i, (⟨b, off, none⟩ : Addr).add i = ⟨b, off + i, none⟩ := fun i => by unfold Addr.add; split <;> simp_all
    have := hc j hj
    rw [e, e] at this
    exact ⟨b, off, rfl, block_lt this.1, this.1, this.2⟩

theorem steps_of {H : Type} {enc : TypeId × Value → H} {W : World} {base : Nat} {sp : Nat → Bool} {held : Bool} {r : Reach} {b0 : Nat} {v : Value} {d : DataW H} {p : List MemPlace}
    (hv : Value.okWide Try.prog W r b0 40 v) (h : DataW.Trod enc Try.prog W base sp held 40 v d p) : ∃ len D N, StepsAt W v len D N := by
  rcases slice_of Try.underlying40 hv h with rfl | ⟨x, len, cap, rfl, hl, hm, hc⟩
  · exact ⟨0, fun _ => 0, fun _ => 0, .inl ⟨rfl, rfl⟩⟩
  · have hc2 : Try.prog.cellsOf 47 = 2 := by kernel_rfl
    have each : ∀ i, i < len → ∃ q : Int × Int, W.cell? (x.add (i * 2)) = some (.int .i64 q.1) ∧ W.cell? (x.add (i * 2 + 1)) = some (.int .i64 q.2) := by
      intro i hi
      obtain ⟨cs, n, y, hlen, hcell, ht⟩ := hc i hi
      rw [hc2] at hlen hcell
      obtain ⟨xs, m, _, _, _, hxl, hg⟩ := DataW.trod_struct Try.underlying47 ht
      match cs, hlen with
      | [c0, c1], _ =>
        have k3 : Try.prog.cellsOf 3 = 1 := by kernel_rfl
        have hx2 : xs.length = 2 := hxl
        have f0 : DataW.trod enc Try.prog W base sp held m 3 (([c0, c1].drop 0).take (Try.prog.cellsOf 3)) = xs[0]? := hg 0 _ rfl
        have f1 : DataW.trod enc Try.prog W base sp held m 3 (([c0, c1].drop 1).take (Try.prog.cellsOf 3)) = xs[1]? := hg 1 _ rfl
        rw [k3, List.getElem?_eq_getElem (show 0 < xs.length by omega)] at f0
        rw [k3, List.getElem?_eq_getElem (show 1 < xs.length by omega)] at f1
        obtain ⟨n0, e0, _⟩ := DataW.trod_int Try.underlying3 f0
        obtain ⟨n1, e1, _⟩ := DataW.trod_int Try.underlying3 f1
        have h0 := hcell 0 (by simp)
        have h1 := hcell 1 (by simp)
        simp at e0 e1
        refine ⟨(n0, n1), ?_, ?_⟩
        · rw [← e0]; simpa using h0
        · rw [← e1]; simpa using h1
    refine ⟨len, fun i => if h : i < len then (Classical.choose (each i h)).1 else 0, fun i => if h : i < len then (Classical.choose (each i h)).2 else 0, .inr ⟨x, cap, rfl, hl, hm, fun i hi => ?_⟩⟩
    have := Classical.choose_spec (each i hi)
    simpa [hi] using this

set_option maxRecDepth 100000 in
set_option maxHeartbeats 4000000 in
theorem core (a : Option Addr) (n cap : Nat) (l : List UInt8) (v : Value) (len : Nat) (D N : Nat → Int) (w : World) (hl : BytesAt w a n cap l) (hst : StepsAt w v len D N) :
    Calls Try.prog 6 #[.slice a n cap, v] w fun e w' => e = .returned (.bool true) ∧ Below w.heap.size w w' := by
  obtain ⟨sa, scap, rfl⟩ : ∃ sa scap, v = .slice sa len scap := by
    rcases hst with ⟨rfl, rfl⟩ | ⟨x, c, rfl, _⟩
    · exact ⟨_, _, rfl⟩
    · exact ⟨_, _, rfl⟩
  have HL := Lib.hid hl
  have HST := Lib.hid hst
  clear hl hst
  go_enter Try.func6, Try.ntmps6
  go_upto_if 18 with (fail)
  go_cut [0] (fun s0 wx => wx = w ∧ ∃ a' n' cap' l', s0 = .slice a' n' cap' ∧ n' ≤ 400 ∧ BytesAt w a' n' cap' l')
  case first =>
    by_cases hn : n ≤ 400
    · go_wp2
      go_meet
      exact ⟨rfl, a, n, cap, l, rfl, hn, HL.out⟩
    · have hc := HL.out.head (m := 400) (by omega)
      have hcap : 400 < cap := by have := HL.out.2.1; omega
      go_wp2
      go_meet
      exact ⟨rfl, a, 400, cap, _, rfl, by omega, hc⟩
  case rest =>
    obtain ⟨hwc, a', n', cap', l', rfl, hn, hl⟩ := hcut
    subst hwc
    clear HL
    have HL := Lib.hid hl
    clear hl
    have HOW := Lib.hid (World.ownsRow_lit (base := wc.heap.size) (e := 5) (size := 1) wc #[] 0 (Nat.le_refl _) (by unfold maxLen; omega) rfl)
    have HB0 := Lib.hid ((Below.refl wc.heap.size wc).alloc (Nat.le_refl _) (.cells #[] 5))
    go_wp2_with (first
      | (at_builtin; refine wpList_append_bytes rfl _ _ rfl wc.heap.size _ 0 [] rfl HOW.out a' n' cap' l' rfl (HL.out.below HB0.out) n' (by omega) (by omega) (by simp) ?_; intro a1 cap1 w1 ho hg)
      | (go_at_call 16; refine (read_any _ _ _ _ _ (BytesAt.owned ho) (by omega)).mono ?_; rintro e w2 ⟨g, sl, rfl, hg2, hrd, hbl, hb2⟩))
    have hb1 : Below wc.heap.size wc w1 := HB0.out.grown (row := some wc.heap.size) hg (by simp) (fun k hk => by cases hk; exact Nat.le_refl _)
    have hbk : ∀ x, a1 = some x → x.block < w1.heap.size := fun x hx => by subst hx; exact (ho.lt x.block rfl).2
    rw [List.nil_append] at ho
    have HO := Lib.hid (owned_below ho hb2)
    have HB2 := Lib.hid (hb1.trans (hb2.mono hb1.size))
    have HBK := Lib.hid hbk
    have HRD := Lib.hid hrd
    have HBL := Lib.hid hbl
    have HSZ := Lib.hid (show wc.heap.size ≤ w1.heap.size from hb1.size)
    have HG2 := Lib.hid hg2
    clear hg hg2 hrd hbl hb1 hb2 hbk ho HOW HB0
    go_loopw [7] (fun i wr => ∃ (k : Nat) (xs : List Value), k ≤ n' ∧ i = .int .i64 k ∧ wr.ownsRow wc.heap.size 5 1 (.slice a1 n' cap1) n' xs ∧ (∀ q, w1.heap.size ≤ q → q < w2.heap.size → wr.heap[q]? = w2.heap[q]?) ∧ Below wc.heap.size wc wr) (fun i _ => n' - (intOf i).toNat)
    case atStart => exact ⟨0, _, by omega, rfl, HO.out, fun _ _ _ => rfl, HB2.out⟩
    case round =>
      obtain ⟨k, xs, hk, rfl, ho, hq, hb⟩ := hrel
      by_cases hlt : k < n'
      · obtain ⟨g1, rfl⟩ : ∃ g1, a1 = some ⟨g1, 0, none⟩ := by
          rcases ho.2 with ⟨h', h0⟩ | ⟨g1, c1, cur, h', _⟩
          · omega
          · simp only [Value.slice.injEq] at h'
            exact ⟨g1, h'.1⟩
        have hxl : xs.length = n' := by have := ho.1; simpa using this
        have hc : wr.cell? ⟨g1, k, none⟩ = some (xs.getD k (.int .u8 0)) := by
          rw [World.ownsRow.cellAt ho k (by omega)]
          simp [List.getD, List.getElem?_eq_getElem (show k < xs.length by omega)]
        have hf : wr.frozen? ⟨g1, k, none⟩ = false := World.ownsRow.frozenAt ho k
        have hg1 := ho.lt g1 rfl
        have HO1 := Lib.hid ho
        have HQ := Lib.hid hq
        clear ho hq
        go_wp2
        refine ⟨⟨k + 1, _, by omega, by go_num, (World.ownsRow.stored HO1.out k _).1, fun q h1 h2 => ?_, hb.setCell hg1.1 _⟩, by simp [intOf]; omega⟩
        rw [heap_setCell_other _ _ _ _ (by have := HBK.out _ rfl; simp at this ⊢; omega)]
        exact HQ.out q h1 h2
      · have hcv := (HL.out.below hb).conv
        have hrd := HRD.out.agree (hq g HG2.out HRD.out.lt) (fun x hx => hq x.block (HBL.out x hx).1 (by have := (HBL.out x hx).2; have := HRD.out.lt; omega))
        have hln : l'.length = n' := HL.out.1
        have hall := Below.alloc hb hb.size (.cells #[.string ⟨l'.toArray⟩, .int .i64 0, .int .i64 0, .int .i64 0] 45)
        have hra : Rd (wr.alloc (.cells #[.string ⟨l'.toArray⟩, .int .i64 0, .int .i64 0, .int .i64 0] 45)) g sl n' l' 0 0 := hrd.below ((Below.refl _ _).alloc (Nat.le_refl _) _)
        have hta : Tk (wr.alloc (.cells #[.string ⟨l'.toArray⟩, .int .i64 0, .int .i64 0, .int .i64 0] 45)) wr.heap.size ⟨l'.toArray⟩ 0 0 := heap_alloc_new wr _
        have hgne : g < wr.heap.size := hrd.lt
        have hgb : wc.heap.size ≤ g := by have := HSZ.out; have := HG2.out; omega
        have hhb : wc.heap.size ≤ wr.heap.size := hb.size
        have HA := Lib.hid hall
        have HRA := Lib.hid hra
        have HTA := Lib.hid hta
        clear ho hq hb HRD HO HB2 HBK hrd hall hra hta HSZ HG2
        go_wp2
        have hgne2 : Hid (g ≠ wr.heap.size ∧ ∀ x, sl.1 = some x → x.block ≠ wr.heap.size) := ⟨fun e => by omega, fun x hx e => by have := (HBL.out x hx).2; omega⟩
        clear hcv hlt hgne
        generalize wr.heap.size = h at HTA hhb hgne2 ⊢
        generalize wr.alloc (.cells #[.string ⟨l'.toArray⟩, .int .i64 0, .int .i64 0, .int .i64 0] 45) = wa at HA HRA HTA ⊢
        clear wr
        go_loopw [9] (fun i wv => ∃ k at_ er : Nat, k ≤ len ∧ k ≤ 60 ∧ i = .int .i64 k ∧ at_ ≤ n' ∧ Rd wv g sl n' l' at_ er ∧ Tk wv h ⟨l'.toArray⟩ at_ er ∧ Below wc.heap.size wc wv) (fun i _ => len - (intOf i).toNat)
        case atStart => exact ⟨0, 0, 0, by omega, by omega, rfl, by omega, HRA.out, HTA.out, HA.out⟩
        case round =>
          obtain ⟨j, at_, er, hj1, hj2, rfl, hat, hrd, htk, hb⟩ := hrel
          by_cases hlt : j < len
          · by_cases hlt2 : j < 60
            · have hmx : len ≤ 9223372036854775807 := by
                rcases HST.out with ⟨_, h0⟩ | ⟨x, c, _, h1, h2, _⟩
                · omega
                · unfold maxLen at h2; omega
              obtain ⟨sb, so, rfl, hsb, hD, hN⟩ := HST.out.at j hlt
              have hD2 : wr.cell? ⟨sb, so + j * 2, none⟩ = some (.int .i64 (D j)) := by rw [hb.cell hsb]; exact hD
              have hN2 : wr.cell? ⟨sb, so + j * 2 + 1, none⟩ = some (.int .i64 (N j)) := by rw [hb.cell hsb]; exact hN
              have HR := Lib.hid hrd
              have HT := Lib.hid htk
              have HB := Lib.hid hb
              clear hrd htk hb HRA HTA HA hD hN
              go_upto_block 4 with (fail)
              have hsg : sb ≠ g := by omega
              have hsh : sb ≠ h := by omega
              have HRN := Lib.hid (fun u (hu : Rd u g sl n' l' at_ er) => rdnum_any u g sl n' l' at_ er (N j) hu hat)
              have HTN := Lib.hid (fun u (hu : Tk u h ⟨l'.toArray⟩ at_ er) => tnum_any u h ⟨l'.toArray⟩ at_ er (N j) hu (by show at_ ≤ l'.toArray.size; simp; omega) (by show l'.toArray.size ≤ _; simp; omega))
              have hle := rNum_le l' at_ er (N j) (by omega)
              simp only [] at HTN
              go_cut [72] (fun s72 wx => ∃ at' er', at' ≤ n' ∧ Rd wx g sl n' l' at' er' ∧ Tk wx h ⟨l'.toArray⟩ at' er' ∧ Below wc.heap.size wc wx)
              case first =>
                by_cases h0 : D j = 0
                · have hb0 : (D j == 0) = true := by simp [h0]
                  clear h0
                  generalize rNum l' at_ er (N j) = q at HRN HTN hle
                  go_wp2_with fail
                  have hr1 : Rd wr.drew g sl n' l' at_ er := HR.out.drewN 1
                  have HR1 := Lib.hid hr1
                  clear hr1
                  go_region_held3 (fun w' => w'.cell? ⟨sb, so + j * 2 + 1, none⟩ = some (.int .i64 (N j))) (first | exact hg4.cell (hg3.cell hN2 (by simp; omega)) (by simp; omega) | exact hg3.cell hN2 (by simp; omega) | go_keep)
                    ((first
                      | (go_at_call 17; refine (HRN.out _ HR1.out).mono ?_; rintro e w3 ⟨rfl, hr3, hg3⟩)
                      | (go_at_call 18; refine (HTN.out _ ((HT.out.drewN 1).grown hg3 (fun e => hgne2.out.1 (Option.some.inj e).symm))).mono ?_; rintro e w4 ⟨rfl, ht4, hg4⟩)))
                  go_wp2
                  go_meet
                  exact ⟨q.2.1, q.2.2, by omega, hr3.other hg4 hgne2.out.1 hgne2.out.2, ht4, ((HB.out.drew).grown hg3 HB.out.size (fun k hk => by cases hk; exact hgb)).grown hg4 (Nat.le_trans HB.out.size hg3.size) (fun k hk => by cases hk; exact hhb)⟩
                · have hb0 : (D j == 0) = false := by simp [h0]
                  by_cases h1 : D j = 1
                  · have hb1 : (D j == 1) = true := by simp [h1]
                    clear h0 h1 HRN HTN
                    have HRX := Lib.hid (fun u (hu : Rd u g sl n' l' at_ er) => rdtext_any u g sl n' l' at_ er hu hat (by omega))
                    have HTX := Lib.hid (fun u (hu : Tk u h ⟨l'.toArray⟩ at_ er) => ttext_any u h ⟨l'.toArray⟩ at_ er hu (by show at_ ≤ l'.toArray.size; simp; omega) (by show l'.toArray.size ≤ _; simp; omega))
                    have hle2 := rText_le l' at_ er (by omega)
                    simp only [] at HTX
                    generalize rText l' at_ er = q at HRX HTX hle2
                    go_wp2_with (first
                      | (go_at_call 19; refine (HRX.out _ HR.out).mono ?_; rintro e w3 ⟨rfl, hr3, hg3⟩)
                      | (go_at_call 20; refine (HTX.out _ (HT.out.grown hg3 (fun e => hgne2.out.1 (Option.some.inj e).symm))).mono ?_; rintro e w4 ⟨rfl, ht4, hg4⟩))
                    go_meet
                    exact ⟨q.2.1, q.2.2, by omega, hr3.other hg4 hgne2.out.1 hgne2.out.2, ht4, (HB.out.grown hg3 HB.out.size (fun k hk => by cases hk; exact hgb)).grown hg4 (Nat.le_trans HB.out.size hg3.size) (fun k hk => by cases hk; exact hhb)⟩
                  · have hb1 : (D j == 1) = false := by simp [h1]
                    clear h0 h1 HRN HTN
                    have HRX := Lib.hid (fun u (hu : Rd u g sl n' l' at_ er) => rdraw_any u g sl n' l' at_ er (N j) hu hat (by omega))
                    have HTX := Lib.hid (fun u (hu : Tk u h ⟨l'.toArray⟩ at_ er) => traw_any u h ⟨l'.toArray⟩ at_ er (N j) hu (by show at_ ≤ l'.toArray.size; simp; omega) (by show l'.toArray.size ≤ _; simp; omega))
                    have hle2 := rRaw_le l' at_ er (N j) (by omega)
                    simp only [] at HTX
                    generalize rRaw l' at_ er (N j) = q at HRX HTX hle2
                    go_wp2_with fail
                    have HR1 := Lib.hid (HR.out.drewN 1)
                    have hN1 : wr.drew.cell? ⟨sb, so + j * 2 + 1, none⟩ = some (.int .i64 (N j)) := hN2
                    go_region_with (first
                        | (go_at_call 21; refine (HRX.out _ HR1.out).mono ?_; rintro e w3 ⟨ra, rc, rfl, hby, hr3, hg3, hfr⟩; have hcv := hby.conv; have hN3 : w3.cell? ⟨sb, so + j * 2 + 1, none⟩ = some (.int .i64 (N j)) := hg3.cell hN1 (by simp; omega))
                        | (go_at_call 22; refine (HTX.out _ ((HT.out.drewN 1).grown hg3 (fun e => hgne2.out.1 (Option.some.inj e).symm))).mono ?_; rintro e w4 ⟨rfl, ht4, hg4⟩; have hcv4 := (hby.grown hg4 (fun x hx e => Nat.lt_irrefl _ (Nat.lt_of_lt_of_le HT.out.lt (Option.some.inj e ▸ hfr x hx)))).conv))
                    all_goals
                      go_wp2
                      go_meet
                      exact ⟨q.2.1, q.2.2, by omega, hr3.other hg4 hgne2.out.1 hgne2.out.2, ht4, ((HB.out.drew).grown hg3 HB.out.size (fun k hk => by cases hk; exact hgb)).grown hg4 (Nat.le_trans HB.out.size hg3.size) (fun k hk => by cases hk; exact hhb)⟩
              case rest =>
                obtain ⟨at', er', hat', hrd, htk, hb⟩ := hcut
                clear HR HT HB HRN HTN hD2 hN2 hle hat
                have HR := Lib.hid hrd
                have HT := Lib.hid htk
                have HB := Lib.hid hb
                obtain ⟨wh, hwh⟩ : ∃ wh : Nat, wh = if er' = 0 then 0 else at' := ⟨_, rfl⟩
                have HE := Lib.hid (fun u (hu : Rd u g sl n' l' at' er') => rderr_any u g sl n' l' at' er' hu)
                rw [← hwh] at HE
                have HWH := Lib.hid hwh
                clear hwh
                have HE2 := Lib.hid (fun u (hu : Rd u g sl n' l' at' er') => rdend_any u g sl n' l' at' er' hu)
                have HE3 := Lib.hid (fun u (hu : Tk u h ⟨l'.toArray⟩ at' er') => tend_any u h ⟨l'.toArray⟩ at' er' hu)
                have HE4 := Lib.hid (fun u (hu : Rd u g sl n' l' at' er') => rdat_any u g sl n' l' at' er' hu)
                simp only [] at HE3
                generalize rEnd l' at' er' = q at HE2 HE3
                clear hrd htk hb
                go_wp2_with (first
                  | (go_at_call 23; refine (HE.out _ HR.out).mono ?_; rintro e w3 ⟨rfl, k3, rfl⟩)
                  | (go_at_call 24; refine (HE2.out _ (HR.out.drewN k3)).mono ?_; rintro e w4 ⟨rfl, k4, rfl⟩)
                  | (go_at_call 25; refine (HE3.out _ (HT.out.drewN (k3 + k4))).mono ?_; rintro e w5 ⟨rfl, k5, rfl⟩)
                  | fail)
                have hr9 := HR.out.drewN (k3 + k4 + k5)
                have ht9 := HT.out.drewN (k3 + k4 + k5)
                have hb9 := below_drewN HB.out (k3 + k4 + k5)
                clear HR HT HB HE HE2 HE3
                generalize wc.drewN (k3 + k4 + k5) = w9 at hr9 ht9 hb9 ⊢
                have d1 := ht9.c1
                have d2 := ht9.c2
                have d3 := ht9.c3
                rw [← HWH.out] at d3
                have HR := Lib.hid hr9
                have HT := Lib.hid ht9
                have HB := Lib.hid hb9
                clear hr9 ht9 hb9
                go_quiet ((go_at_call 26; exact quiet_left (HE4.out _ (HR.out.drewN _))))
                go_wp2
                exact ⟨⟨j + 1, at', er', by omega, by omega, by go_num, hat', HR.out.drewN _, HT.out.drewN _, below_drewN HB.out _⟩, by simp [intOf]; omega⟩
            · clear HRA HTA HA HST
              go_wp2_with (go_at_call 11; refine (awake01 _).mono ?_; rintro e w3 ⟨rfl, hb3⟩)
              go_ret
              exact ⟨rfl, hb.trans (hb3.mono hb.size)⟩
          · clear HRA HTA HA HST
            go_wp2_with (go_at_call 11; refine (awake01 _).mono ?_; rintro e w3 ⟨rfl, hb3⟩)
            go_ret
            exact ⟨rfl, hb.trans (hb3.mono hb.size)⟩

theorem walk (a : Option Addr) (n cap : Nat) (l : List UInt8) (v : Value) {H : Type} {enc : TypeId × Value → H} (d : DataW H) (p : List MemPlace) (w : World) (hl : BytesAt w a n cap l) {r : Reach} {b0 base : Nat} {sp : Nat → Bool} {held : Bool}
    (hv : Value.okWide Try.prog w r b0 40 v) (h : DataW.Trod enc Try.prog w base sp held 40 v d p) :
    Calls Try.prog 6 #[.slice a n cap, v] w fun e w' => e = .returned (.bool true) ∧ Below w.heap.size w w' := by
  obtain ⟨len, D, N, hs⟩ := steps_of hv h
  exact core a n cap l v len D N w hl hs

theorem own : ownKnob Try.prog.godebug = none := by kernel_rfl
theorem laidOut : laidOutB Try.prog = true := by kernel_rfl

set_option maxRecDepth 100000 in
theorem lifted (os : Os) (started : os.Started) (H : Type) (enc : TypeId × Value → H) :
    ReturnsInHanded {} Try.checked os 6 .any (Rows.octetReadsSpec.pre6 enc Try.prog Try.f6 Rows.octetReadsRow.domain false) (Rows.octetReadsSpec.post enc Try.prog Try.f6 false true false false) := by
  refine returnsInHanded_of_change (C := Try.checked) own started (by kernel_rfl) Try.func6
    (ChangeSpec.witness6 (enc := enc) (C := Try.checked) false ⟨#[], #[.slice none 0 0, .slice none 0 0], []⟩ 8 (by kernel_rfl) (by kernel_rfl) (by kernel_rfl) (by kernel_rfl)) ?_
  intro W base args ds gs before hval0 hW hcnd _
  have hval : ∀ (j : Nat) t v, Try.f6.params[j]? = some t → args[j]? = some v → Value.okWide Try.prog W .any base t v := hval0
  have hW' := hW
  obtain ⟨p, q, hA0, hV, rfl, hfz, hnd⟩ := hW
  have hA : DataW.TrodAll enc Try.prog W 0 (fun _ => true) true Try.f6.params.toList args.toList ds p := hA0
  rw [Try.params6] at hA hval
  obtain ⟨v0, vs0, d0, ds0, p0, q0, hargs, rfl, rfl, h0, r0⟩ := trodAll_cons hA
  obtain ⟨v1, vs1, d1, ds1, p1, q1, rfl, rfl, rfl, h1, r1⟩ := trodAll_cons r0
  obtain ⟨rfl, rfl, rfl⟩ := trodAll_nil r1
  obtain rfl : args = #[v0, v1] := by cases args; simp_all
  obtain ⟨rfl, rfl⟩ := trodVars_none hV
  have k0 := h0
  have lt0 : ∀ x ∈ p0, x.block < W.heap.size := by obtain ⟨m, hm⟩ := k0; exact DataW.trod_lt m _ _ _ hm
  obtain ⟨a0, len0, cap0, rfl⟩ := okWide_slice Try.underlying23 (hval 0 23 v0 rfl rfl)
  obtain ⟨l0, w0⟩ : ∃ l, BytesAt W a0 len0 cap0 l := by
    obtain ⟨fuel, hf⟩ := h0
    rcases open_ints Try.underlying23 Try.underlying5 (by kernel_rfl) hf with ⟨hcs, _⟩ | ⟨x, l, c, zs, hcs, _, hl, hm, hz, _, hcell, hwz⟩
    · simp [Value.cells] at hcs
      obtain ⟨rfl, rfl, rfl⟩ := hcs
      exact ⟨[], BytesAt.nil W⟩
    · simp [Value.cells] at hcs
      obtain ⟨rfl, rfl, rfl⟩ := hcs
      exact ⟨_, BytesAt.of_row hl hm (by simpa using hz) hcell hwz⟩
  have k1 := h1
  have lt1 : ∀ x ∈ p1, x.block < W.heap.size := by obtain ⟨m, hm⟩ := k1; exact DataW.trod_lt m _ _ _ hm
  clear hA0 hval0
  refine (walk a0 len0 cap0 l0 v1 d1 p1 W w0 (hval 1 40 v1 rfl rfl) k1).mono fun e W' ⟨he, bel⟩ => ?_
  subst he
  exact ⟨_, rfl, _, _, _, [], _, [], hW', trodAll_mk1 (shut_bool Try.underlying4 _), (trodAll_cons_mk (Below.trod laidOut (by kernel_rfl) (of_decide_eq_true (by kernel_rfl)) k0 bel lt0) (trodAll_cons_mk (Below.trod laidOut (by kernel_rfl) (of_decide_eq_true (by kernel_rfl)) k1 bel lt1) trodAll_mk0)), rfl, bel.frame _, fun h => by cases h⟩

theorem proved : Rows.OctetReadsSaid :=
  OpenClaim.holds_of_wide 6 Try.f6 rfl rfl rfl rfl rfl rfl rfl ⟨rfl, rfl, rfl, rfl, rfl⟩ rfl rfl rfl rfl rfl (by kernel_rfl) Try.func6 (by kernel_rfl)
    (of_decide_eq_true (by kernel_rfl)) (by unfold Func.isWrapper; first | (rw [if_pos (by decide +kernel)]; kernel_rfl) | (rw [if_neg (by decide +kernel)]; exact ⟨rfl, rfl⟩))
    (fun os started H enc _ => lifted os started H enc)
end Go.Proofs.Ytkonkmgijgchlaa.octetReads
