/-
  Contracts of package disk: settle, Flush, Cut, On.
-/
import Derived.Test.YtinfgfgmijjhjaaDiskA
import Derived.StillTailTactics
import Derived.Deep.RegionHeld3
namespace Go.Proofs.Ytinfgfgmijjhjaa
open Go.RowKit
set_option linter.unusedVariables false
set_option linter.unusedSimpArgs false

theorem infoWait : (Try.prog.info? 108).map (fun i => (i.zero, i.size, i.bytes)) = some (some (.agg (#[.int .i64 0] ++ Array.replicate 128 (.int .u8 0))), 129, 136) := by kernel_rfl
theorem sizeWait : (Try.prog.info? 108).map (·.size) = some 129 := by kernel_rfl
theorem infoWait' : (Try.prog.info? 108).map (fun i => (i.zero, i.size)) = some (some (.agg (#[.int .i64 0] ++ Array.replicate 128 (.int .u8 0))), 129) := by kernel_rfl
theorem infoSec' : (Try.prog.info? 106).map (fun i => (i.zero, i.size)) = some (some (.agg (Array.replicate 128 (.int .u8 0))), 128) := by kernel_rfl
theorem zeroWait : ∃ Z : Array Value, Z.size = 129 ∧ ∀ w, (zeroValue 108).run Try.prog w = .ok (.agg Z) w := ⟨_, by simp, (zero_of_info infoWait').1⟩
theorem zeroSec : ∃ Z : Array Value, Z.size = 128 ∧ ∀ w, (zeroValue 106).run Try.prog w = .ok (.agg Z) w := ⟨_, by simp, (zero_of_info infoSec').1⟩

theorem waitC_length (x : Nat × List UInt8) (h : x.2.length = 128) : (waitC x).length = 129 := by simp [waitC, vals_length, h]
theorem waitC_one (x : Nat × List UInt8) : ∀ u ∈ waitC x, u.oneCell' = true := by
  intro u hu
  simp only [waitC, List.mem_cons] at hu
  rcases hu with rfl | hu
  · rfl
  · exact mem_vals_oneCell _ u hu

/-- a write that waits, in a box of its own -/
theorem box_wait {w : World} {B : Nat} {x : Nat × List UInt8} (h : w.heap[B]? = some (.cells (waitC x).toArray 108 (0, 0))) :
    w.cell? ⟨B, 0, none⟩ = some (.int .i64 x.1) ∧ w.rangeAt B 1 (vals x.2) :=
  ⟨by rw [cell_of_row _ _ _ _ _ _ h]; simp [waitC], fun j u hu => by rw [cell_of_row _ _ _ _ _ _ h, ← Array.getElem?_toList, List.toList_toArray, waitC, Nat.add_comm, List.getElem?_cons_succ, hu]⟩

theorem Only.setCells {S : Nat → Prop} {w : World} {g o : Nat} {vs : List Value} (h : w.grownBy (w.setCells g o vs) (some g)) (hg : S g) : Only S w (w.setCells g o vs) :=
  Only.of_grown h fun k hk => by simp at hk; rw [← hk]; exact hg

/-- two blocks of different types differ -/
theorem Recs.ne_own {α β : Type} {f : α → List Value} {f' : β → List Value} {w : World} {e e' : TypeId} {n n' : Nat} {v v' : Value} {L : List α} {L' : List β} (h : Recs f w e n v L) (h' : Recs f' w e' n' v' L') (he : e ≠ e') (k : Nat) (hk : v.ownBlock = some k) : v'.ownBlock ≠ some k := by
  intro hk'
  obtain ⟨c, hc⟩ := h.blk k hk
  exact h'.ne_of hc (fun x => he x.symm) k hk' rfl

theorem DiskIs.putSec {w : World} {S : Nat → Prop} {g gs n caps : Nat} {D : Dk} {vw : Value} (h : DiskIs w S g D (.slice (some ⟨gs, 0, none⟩) n caps) vw) (i : Nat) (l : List UInt8) (hi : i < D.secs.length) (hl : l.length = 128) :
    DiskIs (w.setCells gs (i * 128) (vals l)) S g { D with secs := D.secs.set i l } (.slice (some ⟨gs, 0, none⟩) n caps) vw ∧ Only S w (w.setCells gs (i * 128) (vals l)) := by
  have hp := h.secs.put i hi l (by rw [vals_length]; exact hl) (mem_vals_oneCell l)
  have hgs : S gs := h.inS gs rfl
  have hne : g ≠ gs := fun e => h.secs.ne_of h.blk (by decide) gs rfl e.symm
  have hok : ({ D with secs := D.secs.set i l } : Dk).Ok := by
    refine ⟨fun s hs => ?_, fun x hx => ?_, h.ok.low, h.ok.high, by simpa using h.ok.one, by simpa using h.ok.many, h.ok.few⟩
    · rcases List.mem_or_eq_of_mem_set hs with hs | rfl
      · exact h.ok.sec s hs
      · exact hl
    · simpa using h.ok.wait x hx
  refine ⟨⟨hok, fun k hk => Nat.lt_of_lt_of_le (h.lt k hk) hp.2.size, h.self, ?_, hp.1, ?_, h.inS, h.inW⟩, Only.setCells hp.2 hgs⟩
  · rw [hp.2.block g (h.lt g h.self) (by simpa using hne)]; exact h.blk
  · exact h.waits.keep fun k hk => hp.2.block k (h.waits.lt k hk) (fun e => by
      injection e with e; subst e
      exact h.waits.ne_own h.secs (by decide) k hk rfl)

theorem DiskIs.noWaits {w : World} {S : Nat → Prop} {g : Nat} {D : Dk} {vs vw : Value} (h : DiskIs w S g D vs vw) (hok : ({ D with waits := [] } : Dk).Ok) : DiskIs (w.setCell ⟨g, 1, none⟩ (.slice none 0 0)) S g { D with waits := [] } vs (.slice none 0 0) := by
  refine ⟨hok, fun k hk => by simpa [World.setCell] using h.lt k hk, h.self, ?_, ?_, Recs.nil _ _ _ _, h.inS, fun k hk => by simp [Value.ownBlock] at hk⟩
  · rw [heap_setCell_same _ _ _ _ _ _ h.blk]; rfl
  · exact h.secs.keep fun k hk => heap_setCell_other _ _ _ _ (h.secs.ne_of h.blk (by decide) k hk)

set_option maxHeartbeats 1000000 in
set_option maxRecDepth 100000 in
theorem settle_any (F : FuncId) (cap : Array Value) (K : Nat → Bool) (g : Nat) (D : Dk) (S : Nat → Prop) (w : World) (h : DiskAt w S g D)
    (hE : ∀ args u, (callFunc F args).run Try.prog u = .ok (.enter F args) u)
    (hF : ∀ (k : Nat) u, k < D.waits.length → Only S w u → Calls Try.prog F (#[.int .i64 k] ++ cap) u fun e w' => e = .returned (.bool (K k)) ∧ u = w') :
    Calls Try.prog 55 #[.pointer (some ⟨g, 0, none⟩), .func (.func F) #[] cap] w (DiskTo (.tuple #[]) S g (D.settle K) w) := by
  obtain ⟨vs, vw, h⟩ := h
  have HD := Lib.hid h
  have HF := Lib.hid hF
  obtain ⟨c0, c1, c2, c3, hf⟩ := DiskAt.cells (S := S) h.blk
  obtain ⟨av, capv, rfl, hvl, hvm⟩ := h.waits.form
  obtain ⟨Z, hZ, hz⟩ := zeroWait
  have hmax : D.waits.length ≤ 1073741824 := h.ok.few
  have HZ := Lib.hid hZ
  clear h hF hf c0 c2 c3 hZ hvm
  go_enter Try.func55, Try.ntmps55
  go_wp2
  go_loopw [11] (fun i wr => ∃ k : Nat, k ≤ D.waits.length ∧ i = .int .i64 k ∧ DiskIs wr S g { D with secs := Dk.laid K (D.waits.take k) D.secs } vs (.slice av D.waits.length capv) ∧ Only S w wr) (fun i _ => D.waits.length - (intOf i).toNat)
  case atStart => exact ⟨0, Nat.zero_le _, rfl, HD.out, Only.refl _ _⟩
  case round =>
    obtain ⟨k, hk, rfl, hd, ho⟩ := hrel
    have HK := Lib.hid hd
    have HO := Lib.hid ho
    clear hd ho
    by_cases hlt : k < D.waits.length
    · obtain ⟨gw, capw, hv, _, _, hgw⟩ := HK.out.waits.form' (by exact Nat.lt_of_le_of_lt (Nat.zero_le _) hlt)
      simp only [Value.slice.injEq, true_and] at hv
      obtain ⟨rfl, rfl⟩ := hv
      have hx : D.waits[k]? = some D.waits[k] := List.getElem?_eq_getElem hlt
      have hr := HK.out.waits.rangeAt k _ hx
      have hlen := waitC_length D.waits[k] (HD.out.ok.wait _ (List.getElem_mem hlt)).2
      have HR := Lib.hid hr
      have HLEN := Lib.hid hlen
      have hlti : (k : Int) < (D.waits.length : Int) := by omega
      clear hr hlen hx
      have HZW := Lib.hid (show Z.size = (waitC D.waits[k]).toArray.size by rw [List.size_toArray]; exact HZ.out.trans HLEN.out.symm)
      have HSW := Lib.hid (show (Try.prog.info? 108).map (·.size) = some (waitC D.waits[k]).toArray.size by rw [List.size_toArray, HLEN.out]; exact sizeWait)
      have HSL := Lib.hid (show (Try.prog.info? 108).map (·.size) = some (waitC D.waits[k]).length by rw [HLEN.out]; exact sizeWait)
      go_upto_region 3 with (first
        | (refine wpList_load_mid rfl 108 _ rfl gw (k * 129) rfl (waitC D.waits[k]) _ HR.out Try.underlying108 rfl HSL.out ?_)
        | (refine wpList_store_row rfl 108 _ _ rfl wr.heap.size (waitC D.waits[k]).toArray rfl rfl 108 Z (heap_alloc_new wr _) HSW.out HZW.out (all_oneCell_toArray (waitC_one _)) ?_))
      have hbox := heap_setRow_same (wr.alloc (.cells Z 108)) wr.heap.size (waitC D.waits[k]).toArray Z 108 (heap_alloc_new wr _)
      have hbel : Below wr.heap.size wr ((wr.alloc (.cells Z 108)).setRow wr.heap.size (waitC D.waits[k]).toArray) := below_setRow ((Below.refl _ _).alloc (Nat.le_refl _) _) (Nat.le_refl _) _
      obtain ⟨cb0, rb1⟩ := box_wait hbox
      have HB := Lib.hid hbel
      have HR1 := Lib.hid rb1
      have HO1 := Lib.hid (HO.out.trans (Only.of_below (S := S) hbel) (fun i _ hi => hi))
      have HK1 := Lib.hid (HK.out.below hbel)
      clear hbox hbel rb1
      generalize (wr.alloc (.cells Z 108)).setRow wr.heap.size (waitC D.waits[k]).toArray = w1 at *
      have CF := Lib.hid (HF.out k w1 hlt HO1.out)
      have hwt := HD.out.ok.wait _ (List.getElem_mem hlt)
      have hlt2 := Dk.laid_take K D.waits D.secs k hlt
      cases hK : K k with
      | false =>
        rw [hK, if_neg (by simp)] at hlt2
        rw [hK] at CF
        have HLT := Lib.hid hlt2
        clear hK hlt2 hwt
        go_wp2_with fail
        refine (CF.out).mono ?_
        rintro e w2 ⟨rfl, rfl⟩
        go_wp2
        go_roundw
        case rel => exact ⟨k + 1, by omega, by go_num, by rw [HLT.out]; exact HK1.out, HO1.out⟩
        case measure => simp [intOf]; omega
      | true =>
        rw [hK, if_pos rfl] at hlt2
        rw [hK] at CF
        have HLT := Lib.hid hlt2
        have hsl : (vals D.waits[k].2).length = 128 := by rw [vals_length]; exact hwt.2
        have hat : D.waits[k].1 < (Dk.laid K (D.waits.take k) D.secs).length := by rw [Dk.laid_length]; exact hwt.1
        have HAT := Lib.hid hat
        obtain ⟨gs, caps, rfl, _, _, hgs⟩ := HK1.out.secs.form' (by exact Nat.lt_of_le_of_lt (Nat.zero_le _) hat)
        obtain ⟨d0, d1, _, _, df⟩ := DiskAt.cells (S := S) HK1.out.blk
        have hth := HK1.out.secs.there _ hat
        have HTH := Lib.hid hth
        have HSL := Lib.hid (show (Try.prog.info? 106).map (·.size) = some (vals D.waits[k].2).toArray.size by rw [List.size_toArray, hsl]; exact sizeSec)
        have hwa : (D.waits[k].1 : Int) < ((Dk.laid K (D.waits.take k) D.secs).length : Int) := by omega
        have HV := Lib.hid hsl
        have HWT := Lib.hid hwt.2
        clear hK hlt2 hwt hsl hat hth df
        generalize D.waits[k] = x at *
        obtain ⟨xa, xs⟩ := x
        dsimp only at *
        go_wp2_with fail
        refine (CF.out).mono ?_
        rintro e w2 ⟨rfl, rfl⟩
        go_wp2
        refine region_still_tail 9 (by kernel_rfl) (by kernel_rfl) ?_
        simp only [List.take_succ_cons, List.take_zero, List.drop_succ_cons, List.drop_zero]
        iterate 7 still_step
        refine still_load_mid rfl 106 _ rfl wr.heap.size 1 rfl (vals xs) _ (by simpa using HR1.out) Try.underlying106 rfl (by rw [HV.out]; exact sizeSec) ?_
        still_step
        refine wpStill_nil ?_
        go_wp2_with (refine wpList_store_mid rfl 106 _ _ rfl gs (xa * 128) (vals xs).toArray rfl rfl (by rw [List.size_toArray, HV.out]; simpa using HTH.out) HSL.out (vals_one _) ?_)
        go_roundw
        case rel =>
          refine ⟨k + 1, by omega, by go_num, ?_, ?_⟩
          · rw [HLT.out]
            exact ((HK1.out.below ((Below.refl _ _).drew)).putSec xa xs HAT.out HWT.out).1
          · exact (HO1.out.trans ((Only.drew (S := S) _).trans ((HK1.out.below ((Below.refl _ _).drew)).putSec xa xs HAT.out HWT.out).2 (fun _ _ h => h)) (fun _ _ h => h))
        case measure => simp [intOf]; omega
    · obtain rfl : k = D.waits.length := by omega
      obtain ⟨d0, d1, _, _, df⟩ := DiskAt.cells (S := S) HK.out.blk
      have df1 := df 1
      have HTK := Lib.hid (List.take_length (l := D.waits))
      clear df
      go_wp2
      go_end0
      have hd := HK.out
      rw [HTK.out] at hd
      exact ⟨rfl, S, ⟨_, _, hd.noWaits (HD.out.ok.settle K)⟩, HO.out.trans (Only.setCell _ _ _ hd.self) (fun _ _ h => h), fun i hi => .inl hi⟩

end Go.Proofs.Ytinfgfgmijjhjaa
