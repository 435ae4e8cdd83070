/-
  The document's own answers for layer 11 (hamperref11): Find.
-/
import Derived.Test.YtonfppbijofapaaMaS
import Derived.Deep.DeepCutAuto
import Derived.Deep.CutBlock
namespace Go.Proofs.Ytonfppbijofapaa
open Go.RowKit
set_option linter.unusedVariables false
set_option linter.unusedSimpArgs false
set_option maxRecDepth 100000

theorem bestM_le (b : List UInt8) (at_ : Nat) : (bestM b at_).1 ≤ 258 := by
  have := (bestTo_le b at_ (min at_ 32768)).1
  unfold bestM
  split
  · exact Nat.zero_le _
  · exact this
theorem findMF_end (b : List UInt8) (f at_ : Nat) (h : b.length ≤ at_) : findMF b f at_ = [] := by
  cases f with
  | zero => rfl
  | succ f => rw [findMF, if_pos h]
theorem built_tok (X : Array Value) (hX : X.size = 3) : ∀ w : World, (Instr.buildSlice 31 1 #[(0, .agg X)]).run Try.prog w = .ok (.slice (some ⟨w.heap.size, 0, none⟩) 1 1) (w.alloc (.cells X 51)) := fun w => by
  obtain ⟨i0, hi, hz0, hz1, hz2⟩ := info_parts infoTok
  exact run_buildSlice_one w _ _ X i0 _ 3 Try.underlying31 hi hz0 hz1 hX (by omega) (by omega)
theorem build_lit (x : Int) (w : World) : (Instr.build 51 #[(0, .int .u8 x)]).run Try.prog w = .ok (.agg #[.int .u8 x, .int .i64 0, .int .i64 0]) w := by
  refine run_build w _ _ _ ?_
  kernel_rfl
theorem build_way (x y : Int) (w : World) : (Instr.build 51 #[(1, .int .i64 x), (2, .int .i64 y)]).run Try.prog w = .ok (.agg #[.int .u8 0, .int .i64 x, .int .i64 y]) w := by
  refine run_build w _ _ _ ?_
  kernel_rfl

set_option maxHeartbeats 4000000 in
theorem maFind_any (a : Option Addr) (n cap : Nat) (b : List UInt8) (w : World) (h : BytesAt w a n cap b) (hn : n ≤ 1000000) :
    Calls Try.prog 14 #[.slice a n cap] w (FreshT (findM b) w) := by
  obtain ⟨i0, hi0, hz0, hz1, hz2⟩ := info_parts infoTok
  have HL := Lib.hid h
  have HN := Lib.hid h.1
  have CB := Lib.hid (fun u (hb : Below w.heap.size w u) p (hp : p < n) => maBest_any a n cap b p u (h.below hb) hn hp)
  have HF := Lib.hid (show findM b = [] ++ findMF b n 0 by unfold findM; rw [h.1]; rfl)
  have HE := Lib.hid (fun f p (hp : n ≤ p) => findMF_end b f p (by rw [h.1]; exact hp))
  have HS := Lib.hid (fun f p (hp : p < n) => show findMF b (f + 1) p = if (bestM b p).1 = 0 then ⟨b.getD p 0, 0, 0⟩ :: findMF b f (p + 1) else ⟨0, (bestM b p).1, (bestM b p).2⟩ :: findMF b f (p + (bestM b p).1) by
    rw [findMF, if_neg (by rw [h.1]; omega)])
  have HBL := Lib.hid (fun p => bestM_le b p)
  clear h
  go_enter Try.func14, Try.ntmps14
  go_wp2
  go_loopw [3, 4, 5, 6] (fun sl sa sn sd wr => ∃ (p f k : Nat) (la : Option Addr) (lc : Nat) (D : List Tok), p ≤ n + 258 ∧ n ≤ p + f ∧ k ≤ p ∧ sa = .int .i64 (p : Int) ∧ sl = .slice la k lc ∧ TokI w wr la k lc D ∧ findM b = D ++ findMF b f p) (fun _ sa _ _ _ => n + 300 - (intOf sa).toNat)
  case atStart => exact ⟨0, n, 0, none, 0, [], by omega, by omega, Nat.zero_le _, rfl, rfl, OwnI.nil w, HF.out⟩
  case round =>
    obtain ⟨p, f, k, la, lc, D, hp, hf, hkp, rfl, rfl, hI, hfind⟩ := hrel
    have HI := Lib.hid hI
    have HD := Lib.hid hI.2.1
    have HFD := Lib.hid hfind
    clear hI hfind
    by_cases hlt : p < n
    · have hpi : (p : Int) < n := by omega
      obtain ⟨f, rfl⟩ : ∃ f', f = f' + 1 := ⟨f - 1, by omega⟩
      have hst := HS.out f p hlt
      have hbl := HBL.out p
      have CB2 := Lib.hid (CB.out wr HI.out.2.2.2 p hlt)
      obtain ⟨B, hB⟩ : ∃ B, B = bestM b p := ⟨_, rfl⟩
      obtain ⟨m, dd⟩ := B
      rw [← hB] at hst hbl CB2
      dsimp only at hst hbl CB2
      have HST := Lib.hid hst
      clear hst hB
      go_wp2_with fail
      refine CB2.out.mono ?_
      rintro e w2 ⟨rfl, hb2⟩
      have HI2 := Lib.hid (HI.out.below hb2)
      have HB2 := Lib.hid (HI.out.2.2.2.trans (hb2.mono HI.out.2.2.2.size))
      clear hb2 CB2
      obtain ⟨g, off, rfl, hc⟩ := (HL.out.below HB2.out).at (by omega)
      have x1 := hc p hlt
      clear hc
      by_cases hm : m = 0
      · subst hm
        rw [if_pos rfl] at HST
        obtain ⟨X, hX⟩ : ∃ X, X = b.getD p 0 := ⟨_, rfl⟩
        rw [← hX] at x1 HST
        have HX := Lib.hid (one_rec (f := tokC) (x := (⟨X, 0, 0⟩ : Tok)) (w := w2.alloc (.cells (tokC ⟨X, 0, 0⟩).toArray 51)) (B := w2.heap.size) (t := 51) (fr := (0, 0)) (heap_alloc_new w2 _))
        clear hX
        go_wp2_with (at_builtin; refine wpList_append_recs (f := tokC) rfl _ _ 31 rfl 51 i0 (.agg #[.int .u8 0, .int .i64 0, .int .i64 0]) 3 24 Try.underlying31 hi0 hz0 hz1 hz2 rfl (by omega) _ D rfl (HI2.out.1.below ((Below.refl _ _).alloc (Nat.le_refl _) _)) ⟨w2.heap.size, 0, none⟩ 1 1 [⟨X, 0, 0⟩] rfl rfl (fun _ _ => rfl) (fun y _ => tokC_one y) HX.out (by rw [HD.out]; unfold maxLen; omega) (by rw [HD.out]; omega) ?_; intro v' w' hr hg hbk; obtain ⟨a', cap', rfl, hI3⟩ := OwnI.more HI2.out hr hg hbk; have HI3 := Lib.hid hI3; clear hr hg hbk hI3)
        go_roundw
        case rel => exact ⟨p + 1, f, k + 1, _, _, D ++ [⟨X, 0, 0⟩], by omega, by omega, by omega, by go_num, rfl, HI3.out, by rw [HFD.out, HST.out, List.append_assoc]; rfl⟩
        case measure => simp [intOf]; omega
      · have hmb : ((m : Int) == 0) = false := by rw [beq_eq_false_iff_ne]; omega
        rw [if_neg hm] at HST
        have HX := Lib.hid (one_rec (f := tokC) (x := (⟨0, m, dd⟩ : Tok)) (w := w2.alloc (.cells (tokC ⟨0, m, dd⟩).toArray 51)) (B := w2.heap.size) (t := 51) (fr := (0, 0)) (heap_alloc_new w2 _))
        have hmi : 1 ≤ m := by omega
        go_wp2_with (at_builtin; refine wpList_append_recs (f := tokC) rfl _ _ 31 rfl 51 i0 (.agg #[.int .u8 0, .int .i64 0, .int .i64 0]) 3 24 Try.underlying31 hi0 hz0 hz1 hz2 rfl (by omega) _ D rfl (HI2.out.1.below ((Below.refl _ _).alloc (Nat.le_refl _) _)) ⟨w2.heap.size, 0, none⟩ 1 1 [⟨0, m, dd⟩] rfl rfl (fun _ _ => rfl) (fun y _ => tokC_one y) HX.out (by rw [HD.out]; unfold maxLen; omega) (by rw [HD.out]; omega) ?_; intro v' w' hr hg hbk; obtain ⟨a', cap', rfl, hI3⟩ := OwnI.more HI2.out hr hg hbk; have HI3 := Lib.hid hI3; clear hr hg hbk hI3)
        go_roundw
        case rel => exact ⟨p + m, f, k + 1, _, _, D ++ [⟨0, m, dd⟩], by omega, by omega, by omega, by go_num, rfl, HI3.out, by rw [HFD.out, HST.out, List.append_assoc]; rfl⟩
        case measure => simp [intOf]; omega
    · have hpi : ¬ (p : Int) < n := by omega
      have HFF := Lib.hid (show findM b = D by rw [HFD.out, HE.out f p (by omega), List.append_nil])
      go_wp2
      go_ret
      exact ⟨_, _, _, rfl, by rw [HFF.out]; exact HI.out⟩
end Go.Proofs.Ytonfppbijofapaa
