/-
  A piece of the proof, laid together by program: HtAD HtAF HtAG HtAH.
-/
import Derived.Test.YtjcmphjjkeigjaaGreatPaB
import Derived.Test.YtjcmphjjkeigjaaGreatPaJ
import Derived.Deep.QuietTactic
import Derived.BigQuiet

namespace Go.Proofs.YtjcmphjjkeigjaaGreat
open Go.RowKit Go.Deep
set_option linter.unusedVariables false
set_option linter.unusedSimpArgs false
set_option maxRecDepth 100000

/-! ### blobs of the document's, as they are in memory: an ID and a string, no pages, no sum -/
def blobC (b : KD) : List Value := [.int .u64 (b.1 : Nat), .string ⟨b.2.toArray⟩, .slice none 0 0, .int .u32 0]
theorem blobC_one (b : KD) : ∀ u ∈ blobC b, u.oneCell' = true := by
  intro u hu
  simp [blobC] at hu
  rcases hu with rfl | rfl | rfl | rfl <;> rfl
theorem infoBlob : (Tryz.prog.info? 81).map (fun i => (i.zero, i.size, i.bytes)) = some (some (.agg #[.int .u64 0, .string ⟨#[]⟩, .slice none 0 0, .int .u32 0]), 4, 56) := by kernel_rfl
theorem sizeBlob : (Tryz.prog.info? 81).map (·.size) = some 4 := by kernel_rfl
theorem built_blob (X : Array Value) (hX : X.size = 4) : ∀ w : World, (Instr.buildSlice 68 1 #[(0, .agg X)]).run Tryz.prog w = .ok (.slice (some ⟨w.heap.size, 0, none⟩) 1 1) (w.alloc (.cells X 81)) := fun w => by
  obtain ⟨i0, hi, hz0, hz1, hz2⟩ := info_parts infoBlob
  exact run_buildSlice_one w _ _ _ i0 _ 4 Tryz.underlying68 hi hz0 hz1 hX (by omega) (by omega)
def BlobsTo (L : List KD) (v : Value) (w : World) (e : Ending) (w' : World) : Prop :=
  ∃ a cap, e = .returned (.slice a L.length cap) ∧ Recs blobC w' 81 4 (.slice a L.length cap) L ∧ Below w.heap.size w w' ∧ ∀ q, (Value.slice a L.length cap).ownBlock = some q → w.heap.size ≤ q ∨ v.ownBlock = some q

set_option maxHeartbeats 4000000 in
theorem hasB_any (a : Option Addr) (cap : Nat) (L : List KD) (b2 : Option Addr) (n2 c2 : Nat) (M : List ChgM) (w : World) (hL : Recs blobC w 81 4 (.slice a L.length cap) L) (hll : L.length ≤ 1000) (h : ChgsR w b2 n2 c2 M) (hn2 : n2 ≤ 12) :
    Calls Tryz.prog 33 #[.slice a L.length cap, .slice b2 n2 c2] w (BlobsTo (hasOf L (M.map (·.c))) (.slice a L.length cap) w) := by
  have HM := Lib.hid h
  have HL := Lib.hid hL
  have hml : M.length = n2 := h.came.1
  have HML := Lib.hid hml
  clear h hL hml
  go_enter Tryz.func33, Tryz.ntmps33
  go_wp2
  go_loopw [0, 5] (fun s0 s5 wr => ∃ (j : Nat) (av : Option Addr) (cv : Nat) (K : List KD), s5 = .int .i64 j ∧ j ≤ n2 ∧ s0 = .slice av K.length cv ∧ K.length ≤ L.length + j ∧ K = hasOf L ((M.map (·.c)).take j) ∧ Recs blobC wr 81 4 (.slice av K.length cv) K ∧ (∀ q, (Value.slice av K.length cv).ownBlock = some q → w.heap.size ≤ q ∨ (Value.slice a L.length cap).ownBlock = some q) ∧ Below w.heap.size w wr) (fun _ s5 _ => n2 - (intOf s5).toNat)
  case atStart => exact ⟨0, a, cap, L, rfl, Nat.zero_le _, rfl, by omega, by rw [List.take_zero]; rfl, HL.out, fun q hq => .inr hq, Below.refl _ _⟩
  case round =>
    obtain ⟨j, av, cv, K, rfl, hj, rfl, hkl, hke, hO, hown, hb⟩ := hrel
    have HOW := Lib.hid hown
    clear hown
    have HKE := Lib.hid hke
    have HO := Lib.hid hO
    have HB := Lib.hid hb
    clear hke hO hb
    by_cases hlt : j < n2
    · have hji : (j : Int) < (n2 : Int) := by omega
      obtain ⟨b, off, rfl, hbl, hcs⟩ := (HM.out.below HB.out).at (by omega)
      obtain ⟨x0, x1, x2, hrg⟩ := hcs j hlt
      obtain ⟨hmem, hget⟩ := (HM.out.below HB.out).mem j hlt
      have hid := HM.out.id _ hmem
      have hby := (HM.out.below HB.out).bytes _ hmem
      have HTK := Lib.hid (show hasOf L ((M.map (·.c)).take (j + 1)) = hasStep K (M.getD j default).c by rw [HKE.out, List.take_add_one, hget, Option.toList_some]; unfold hasOf; rw [List.foldl_append]; rfl)
      generalize M.getD j default = y at *
      obtain ⟨⟨id, dat, gone⟩, ya, yn, yc⟩ := y
      dsimp only at *
      have HBY := Lib.hid hby
      have X0 := Lib.hid x0
      have X1 := Lib.hid x1
      have X2 := Lib.hid x2
      have HCM := HM.out.came.2.1
      have HCM2 := HM.out.came.2.2.1
      unfold maxLen at HCM2
      clear hcs hmem hget hby hrg x0 x1 x2
      obtain ⟨wo, hwo⟩ : ∃ x : World, x = wr := ⟨_, rfl⟩
      subst hwo
      go_wp2
      go_loopw [6, 7] (fun s6 s7 wx => ∃ (m : Nat) (au : Option Addr) (cu : Nat) (N : List KD), s7 = .int .i64 m ∧ m ≤ K.length ∧ s6 = .slice au N.length cu ∧ N.length ≤ m ∧ N = (K.take m).filter (fun b => !(b.1 == id)) ∧ Recs blobC wx 81 4 (.slice au N.length cu) N ∧ (∀ q, (Value.slice au N.length cu).ownBlock = some q → wo.heap.size ≤ q) ∧ Below wo.heap.size wo wx) (fun _ s7 _ => K.length - (intOf s7).toNat)
      case atStart => exact ⟨0, none, 0, [], rfl, Nat.zero_le _, rfl, Nat.le_refl _, rfl, Recs.nil _ _ _ _, fun q hq => by simp [Value.ownBlock] at hq, Below.refl _ _⟩
      case round =>
        obtain ⟨m, au, cu, N, rfl, hm, rfl, hnl, hne, hN, hNo, hbx⟩ := hrel
        have HNE := Lib.hid hne
        have HN := Lib.hid hN
        have HNO := Lib.hid hNo
        have HBX := Lib.hid hbx
        clear hne hN hNo hbx
        by_cases hlt2 : m < K.length
        · have hmi : (m : Int) < (K.length : Int) := by omega
          obtain ⟨bk, ok, rfl, hbk, hck⟩ := (HO.out.below HBX.out).came.at (by omega) (by omega)
          have hkg : K[m]? = some (K.getD m default) := by rw [List.getD, List.getElem?_eq_getElem hlt2]; rfl
          generalize K.getD m default = kb at *
          have HTK2 := Lib.hid (show (K.take (m + 1)).filter (fun b => !(b.1 == id)) = N ++ (if kb.1 = id then [] else [kb]) by
            rw [HNE.out, List.take_add_one, hkg, Option.toList_some, List.filter_append]
            by_cases he : kb.1 = id
            · rw [if_pos he]; simp [he]
            · rw [if_neg he]; simp [he])
          obtain ⟨ki, kd⟩ := kb
          have k0 : wr.cell? ⟨bk, ok + m * 4, none⟩ = some (.int .u64 (ki : Nat)) := hck m 0 _ hkg (by omega)
          have K0 := Lib.hid k0
          have KR := Lib.hid (show wr.rangeAt bk (ok + m * 4) (blobC (ki, kd)) from fun i v hi => by
            have hil : i < 4 := by have := (List.getElem?_eq_some_iff.1 hi).1; simpa [blobC] using this
            rw [Nat.add_assoc, hck m i _ hkg hil, hi])
          have x0 : wr.cell? ⟨b, off + j * 3, none⟩ = some (.int .u64 (id : Nat)) := by rw [HBX.out.cell (by show b < _; exact block_lt X0.out)]; exact X0.out
          have HKC := (HO.out.came).2.1
          have HKC2 := (HO.out.came).2.2.1
          unfold maxLen at HKC2
          dsimp only at *
          clear hck hkg
          obtain ⟨i0, hi0, hz0, hz1, hz2⟩ := info_parts infoBlob
          have HKI := Lib.hid (show wr.cell? ⟨bk, ok + m * 4, none⟩ = some (.int .u64 (ki : Nat)) from k0)
          by_cases he : ki = id
          · subst he
            have HT2 := Lib.hid (HTK2.out.trans (by rw [if_pos rfl, List.append_nil]))
            go_wp2
            go_quiet (fail)
            generalize hq : wr.drewN _ = wq
            go_wp2
            go_roundw
            case rel => exact ⟨m + 1, au, cu, N, by go_num, by omega, rfl, by omega, HT2.out.symm, hq ▸ HN.out.keep (fun _ _ => rfl), HNO.out, hq ▸ below_drewN HBX.out _⟩
            case measure => simp only [intOf]; omega
          · have hei : ¬ (ki : Int) = (id : Int) := by omega
            have HT2 := Lib.hid (HTK2.out.trans (by rw [if_neg he]))
            go_wp2
            go_quiet (fail)
            generalize hq : wr.drewN _ = wq
            have hbq : Below wr.heap.size wr wq := hq ▸ below_drewN (Below.refl _ _) _
            have HNQ := Lib.hid (show Recs blobC wq 81 4 (.slice au N.length cu) N from hq ▸ HN.out.keep (fun _ _ => rfl))
            have HRQ := Lib.hid (show wq.rangeAt bk (ok + m * 4) (blobC (ki, kd)) from fun i v hi => by rw [hbq.cell (by exact hbk)]; exact KR.out i v hi)
            have HBQ := Lib.hid (HBX.out.trans (hbq.mono HBX.out.size))
            clear hq hbq
            have hal : Below wq.heap.size wq (wq.alloc (.cells (blobC (ki, kd)).toArray 81)) := (Below.refl _ _).alloc (Nat.le_refl _) _
            have HAL := Lib.hid hal
            have HN7 := Lib.hid (HNQ.out.below hal)
            have HA7 := Lib.hid (heap_alloc_new wq (.cells (blobC (ki, kd)).toArray 81))
            clear hal
            go_wp2_with (first
              | (refine wpList_load_mid rfl 81 _ rfl bk (ok + m * 4) rfl (blobC (ki, kd)) _ HRQ.out Tryz.underlying81 rfl sizeBlob ?_)
              | (refine wpList_buildSliceV rfl 68 1 _ rfl #[(0, .agg (blobC (ki, kd)).toArray)] (by simp [go_sem]) _ _ (built_blob _ rfl _) ?_)
              | (at_builtin; refine wpList_append_recs (f := blobC) rfl _ _ 68 rfl 81 i0 (.agg #[.int .u64 0, .string ⟨#[]⟩, .slice none 0 0, .int .u32 0]) 4 56 Tryz.underlying68 hi0 hz0 hz1 hz2 rfl (by omega) (.slice au N.length cu) N rfl HN7.out ⟨wq.heap.size, 0, none⟩ 1 1 [(ki, kd)] rfl rfl (fun y _ => rfl) (fun y _ => blobC_one y) (one_rec HA7.out) (by unfold maxLen; omega) (by omega) ?_; intro v8 w8 hr8 hg8 hv8; obtain ⟨a8, c8, hv0, _, _⟩ := hr8.form; rw [List.length_append, List.length_singleton] at hv0; subst hv0))
            go_roundw
            case rel =>
              have hbs : wo.heap.size ≤ (wq.alloc (.cells (blobC (ki, kd)).toArray 81)).heap.size := by have := HBQ.out.size; simp; omega
              have hln : (N ++ [(ki, kd)]).length = N.length + 1 := by rw [List.length_append, List.length_singleton]
              refine ⟨m + 1, a8, c8, N ++ [(ki, kd)], by go_num, by omega, by rw [hln], by omega, HT2.out.symm, hln ▸ hr8, fun q hq => ?_, (HBQ.out.trans (HAL.out.mono HBQ.out.size)).grown hg8 hbs fun q hq => HNO.out q hq⟩
              rw [hln] at hq
              rcases hv8 with e | e
              · exact HNO.out q (e ▸ hq)
              · rw [e] at hq; have := HBQ.out.size; simp at hq; omega
            case measure => simp only [intOf]; omega
        · obtain rfl : m = K.length := by omega
          have hmi : ¬ (K.length : Int) < (K.length : Int) := by omega
          have HNE2 := Lib.hid (show N = K.filter (fun b => !(b.1 == id)) from HNE.out.trans (by rw [List.take_length]))
          have x2 : wr.cell? ⟨b, off + j * 3 + 2, none⟩ = some (.bool gone) := by rw [HBX.out.cell (by show b < _; exact block_lt X2.out)]; exact X2.out
          clear HNE
          cases gone with
          | true =>
            go_wp2
            go_roundw
            case rel => exact ⟨j + 1, au, cu, N, by go_num, by omega, rfl, by omega, by rw [HTK.out, HNE2.out]; rfl, HN.out, fun q hq => .inl (by have := HNO.out q hq; have := HB.out.size; omega), HB.out.trans (HBX.out.mono HB.out.size)⟩
            case measure => simp only [intOf]; omega
          | false =>
            go_upto_region 12 with (fail)
            clear x2
            refine region_head 15 [0, 1, 2, 3, 4, 5, 6, 7, 8, 9, 10, 11, 12, 13, 14] [13, 14] (fun u => Below wo.heap.size wo u) (by kernel_rfl) (by kernel_rfl) (HBX.out.drew) ?_
            simp only [pickO, List.filterMap_cons, List.filterMap_nil, List.getElem?_cons_zero, List.getElem?_cons_succ, Option.map_some, List.drop_succ_cons, List.drop_zero]
            have hb1 : b < wo.heap.size := block_lt X0.out
            iterate 11
              refine seqH_read _ rfl rfl (by rintro u hu; have e0 := (hu.cell (p := ⟨b, off + j * 3, none⟩) hb1).trans X0.out; have e1 := (hu.cell (p := ⟨b, off + j * 3 + 1, none⟩) hb1).trans X1.out; clear hu; go_simp; with_reducible rfl) ?_
              try simp only [Act.put, List.setIfInBounds_toArray, List.set_cons_zero, List.set_cons_succ]
            refine seqH_read (.string ⟨dat.toArray⟩) rfl rfl (by rintro u hu; have hcv := (HBY.out.below hu).conv; clear hu; go_simp) ?_
            try simp only [Act.put, List.setIfInBounds_toArray, List.set_cons_zero, List.set_cons_succ]
            refine seqH_read (.agg (blobC (id, dat)).toArray) rfl rfl (by rintro u hu; clear hu; go_simp; rfl) ?_
            try simp only [Act.put, List.setIfInBounds_toArray, List.set_cons_zero, List.set_cons_succ]
            refine seqH_move rfl rfl (fun Kk hK => ?_)
            refine wp_buildSliceV 68 1 _ rfl #[(0, .agg (blobC (id, dat)).toArray)] (by simp [go_sem]) _ _ (built_blob _ rfl _) ?_
            have hal : Below wr.drew.heap.size wr.drew (wr.drew.alloc (.cells (blobC (id, dat)).toArray 81)) := (Below.refl _ _).alloc (Nat.le_refl _) _
            have hb6 : Below wo.heap.size wo (wr.drew.alloc (.cells (blobC (id, dat)).toArray 81)) := HBX.out.drew.trans (hal.mono HBX.out.size)
            refine hK _ _ hb6 ?_
            clear hK Kk
            try simp only [Act.put, List.setIfInBounds_toArray, List.set_cons_zero, List.set_cons_succ]
            have HN7 := Lib.hid ((HN.out.keep (w' := wr.drew) fun _ _ => rfl).below hal)
            have HA7 := Lib.hid (heap_alloc_new wr.drew (.cells (blobC (id, dat)).toArray 81))
            have HB6 := Lib.hid hb6
            have hws6 : wr.heap.size < (wr.drew.alloc (.cells (blobC (id, dat)).toArray 81)).heap.size := by simp
            clear hal hb6
            have hnk : N.length ≤ K.length := by rw [HNE2.out]; exact List.length_filter_le _ _
            obtain ⟨i0, hi0, hz0, hz1, hz2⟩ := info_parts infoBlob
            refine seqH_move rfl rfl (fun Kk hK => ?_)
            refine wp_append_recs (f := blobC) _ _ 68 rfl 81 i0 (.agg #[.int .u64 0, .string ⟨#[]⟩, .slice none 0 0, .int .u32 0]) 4 56 Tryz.underlying68 hi0 hz0 hz1 hz2 rfl (by omega) (.slice au N.length cu) N rfl HN7.out ⟨wr.drew.heap.size, 0, none⟩ 1 1 [(id, dat)] rfl rfl (fun y hy => rfl) (fun y hy => blobC_one y) (one_rec HA7.out) (by unfold maxLen; omega) (by omega) ?_
            intro v8 w8 hr8 hg8 hv8
            obtain ⟨a8, c8, hv0, _, _⟩ := hr8.form
            have hln : (N ++ [(id, dat)]).length = N.length + 1 := by rw [List.length_append, List.length_singleton]
            subst hv0
            have hb8 : Below wo.heap.size wo w8 := HB6.out.grown hg8 (by have := HBX.out.size; omega) fun q hq => HNO.out q hq
            refine hK _ _ hb8 ?_
            clear hK Kk
            try simp only [Act.put, List.setIfInBounds_toArray, List.set_cons_zero, List.set_cons_succ]
            refine seqH_nil ?_
            go_wp2
            go_roundw
            case rel => exact ⟨j + 1, a8, c8, N ++ [(id, dat)], by go_num, by omega, rfl, by rw [hln]; omega, by rw [HTK.out, HNE2.out]; rfl, hr8, fun q hq => .inl (by
              have := HB.out.size
              have := HBX.out.size
              rcases hv8 with e | e
              · have := HNO.out q (e ▸ hq); omega
              · rw [e] at hq; simp at hq; omega), HB.out.trans (hb8.mono HB.out.size)⟩
            case measure => simp only [intOf]; omega
    · have hji : ¬ (j : Int) < (n2 : Int) := by omega
      obtain rfl : j = n2 := by omega
      have hke : K = hasOf L (M.map (·.c)) := HKE.out.trans (by rw [List.take_of_length_le (by rw [List.length_map, HML.out]; exact Nat.le_refl _)])
      go_wp2
      go_ret
      rw [← hke]
      exact ⟨av, cv, rfl, HO.out, HB.out, HOW.out⟩

def readsB (D : Dk) (h : Ht) (L : List KD) : Bool := L.all (fun b => getOf D h b.1 == (0, b.2)) && (h.at_.length == L.length)
section
variable {w : World} {S U : Nat → Prop} {g gd : Nat} {D : Dk} {h : Ht}
set_option maxHeartbeats 4000000 in
theorem reads_any (k : HotAt w S U g gd D h) (hok : HtOk h) (a : Option Addr) (cap : Nat) (L : List KD) (hL : Recs blobC w 81 4 (.slice a L.length cap) L) (hll : L.length ≤ 1000) (hid : ∀ b ∈ L, b.1 < 18446744073709551616) :
    Calls Tryz.prog 34 #[.pointer (some ⟨g, 0, none⟩), .slice a L.length cap] w (fun e w' => e = .returned (.bool (readsB D h L)) ∧ Below w.heap.size w w') := by
  have CG := Lib.hid (fun u (hu : Below w.heap.size w u) q (hq : q < 18446744073709551616) => get_any (k.below hu) q hq (hok.get q))
  have CI := Lib.hid (fun u (hu : Below w.heap.size w u) => ids_any (k.below hu) (by have := hok.few; omega))
  have HL := Lib.hid hL
  have HID := Lib.hid hid
  have hfew := hok.few
  clear k hL hok hid
  go_enter Tryz.func34, Tryz.ntmps34
  go_wp2
  go_loopw [5] (fun s5 wr => ∃ (j : Nat), s5 = .int .i64 j ∧ j ≤ L.length ∧ (L.take j).all (fun b => getOf D h b.1 == (0, b.2)) = true ∧ Below w.heap.size w wr) (fun s5 _ => L.length - (intOf s5).toNat)
  case atStart => exact ⟨0, rfl, Nat.zero_le _, rfl, Below.refl _ _⟩
  case round =>
    obtain ⟨j, rfl, hj, hal, hb⟩ := hrel
    have HALL := Lib.hid hal
    have HB := Lib.hid hb
    clear hal hb
    by_cases hlt : j < L.length
    · have hji : (j : Int) < (L.length : Int) := by omega
      obtain ⟨bk, ok, rfl, hbk, hck⟩ := HL.out.came.at (by omega) (by omega)
      have hkg : L[j]? = some (L.getD j default) := by rw [List.getD, List.getElem?_eq_getElem hlt]; rfl
      generalize hkb : L.getD j default = kb at *
      obtain ⟨ki, kd⟩ := kb
      have k0 : w.cell? ⟨bk, ok + j * 4, none⟩ = some (.int .u64 (ki : Nat)) := hck j 0 _ hkg (by omega)
      have k1 : w.cell? ⟨bk, ok + j * 4 + 1, none⟩ = some (.string ⟨kd.toArray⟩) := by rw [Nat.add_assoc]; exact hck j 1 _ hkg (by omega)
      have k0' : wr.cell? ⟨bk, ok + j * 4, none⟩ = some (.int .u64 (ki : Nat)) := by rw [HB.out.cell (by exact hbk)]; exact k0
      have K1 := Lib.hid k1
      have hki : ki < 18446744073709551616 := HID.out (ki, kd) (List.mem_of_getElem? hkg)
      have HST := Lib.hid (show (L.take (j + 1)).all (fun b => getOf D h b.1 == (0, b.2)) = (getOf D h ki == (0, kd)) by
        rw [List.take_add_one, hkg, Option.toList_some, List.all_append, HALL.out]; simp)
      have HNO := Lib.hid (show (getOf D h ki == (0, kd)) = false → readsB D h L = false from fun hf => by
        unfold readsB
        have : L.all (fun b => getOf D h b.1 == (0, b.2)) = false := by
          rw [List.all_eq_false]
          exact ⟨(ki, kd), List.mem_of_getElem? hkg, by simp only [hf]; simp⟩
        rw [this, Bool.false_and])
      have HKC := (HL.out.came).2.1
      have HKC2 := (HL.out.came).2.2.1
      unfold maxLen at HKC2
      clear hck hkg k0 k1
      go_wp2_with (go_at_call 16; refine (CG.out wr HB.out ki hki).mono ?_; rintro e w2 ⟨ga, gn, gc, rfl, hby, hb2, _⟩; have hby2 := hby; have HB2 := Lib.hid hb2; have HBY := Lib.hid hby; clear hb2 hby hby2)
      have hk2 : w2.cell? ⟨bk, ok + j * 4 + 1, none⟩ = some (.string ⟨kd.toArray⟩) := by rw [HB2.out.cell (show bk < wr.heap.size by have := HB.out.size; omega), HB.out.cell (by exact hbk)]; exact K1.out
      have HK2 := Lib.hid (show w2.drew.cell? ⟨bk, ok + j * 4 + 1, none⟩ = _ from hk2)
      have HB22 := Lib.hid (HB.out.trans (HB2.out.mono HB.out.size))
      clear hk2 HB2
      generalize getOf D h ki = r at *
      obtain ⟨re, rd⟩ := r
      dsimp only at *
      have hjk : (j : Int) < (L.length : Int) := hji
      by_cases hs : rd = kd
      · subst hs
        by_cases h0 : re = 0
        · subst h0
          have HST2 := Lib.hid (HST.out.trans (show (((0 : Int), rd) == (0, rd)) = true by simp))
          clear k0'
          refine region_head 12 [0, 1, 2, 3, 4, 5, 6, 7, 8, 9, 10, 11] [] (fun u => BytesAt u ga gn gc rd ∧ u.cell? ⟨bk, ok + j * 4 + 1, none⟩ = some (.string ⟨rd.toArray⟩)) (by kernel_rfl) (by kernel_rfl) ⟨HBY.out.below ((Below.refl _ _).drew), HK2.out⟩ ?_
          simp only [pickO, List.append_eq, List.cons_append, List.nil_append, List.filterMap_cons, List.filterMap_nil, List.getElem?_cons_zero, List.getElem?_cons_succ, Option.map_some, List.drop_succ_cons, List.drop_zero]
          refine seqH_read _ rfl rfl (by rintro u ⟨hu1, hu2⟩; clear hu1; go_simp; with_reducible rfl) ?_
          try simp only [Act.put, List.setIfInBounds_toArray, List.set_cons_zero, List.set_cons_succ]
          refine seqH_read (.string ⟨rd.toArray⟩) rfl rfl (by rintro u ⟨hu1, hu2⟩; have hcv := hu1.conv; clear hu1; go_simp) ?_
          try simp only [Act.put, List.setIfInBounds_toArray, List.set_cons_zero, List.set_cons_succ]
          iterate 5
            refine seqH_read _ rfl rfl (by rintro u ⟨hu1, hu2⟩; clear hu1; go_simp; with_reducible rfl) ?_
            try simp only [Act.put, List.setIfInBounds_toArray, List.set_cons_zero, List.set_cons_succ]
          refine seqH_read (.bool false) rfl rfl (by rintro u ⟨hu1, hu2⟩; clear hu1 hu2; go_simp; try simp) ?_
          try simp only [Act.put, List.setIfInBounds_toArray, List.set_cons_zero, List.set_cons_succ]
          refine seqH_read (.bool false) rfl rfl (by rintro u ⟨hu1, hu2⟩; clear hu1 hu2; go_simp) ?_
          try simp only [Act.put, List.setIfInBounds_toArray, List.set_cons_zero, List.set_cons_succ]
          try simp only [Act.put, List.setIfInBounds_toArray, List.set_cons_zero, List.set_cons_succ]
          iterate 1
            refine seqH_readG _ rfl (by rfl) (by rintro u ⟨hu1, hu2⟩; clear hu1; go_simp; with_reducible rfl) ?_
            try simp only [Act.put, List.setIfInBounds_toArray, List.set_cons_zero, List.set_cons_succ]
          refine seqH_readG (.bool false) rfl (by rfl) (by rintro u ⟨hu1, hu2⟩; clear hu1 hu2; go_simp; try simp) ?_
          try simp only [Act.put, List.setIfInBounds_toArray, List.set_cons_zero, List.set_cons_succ]
          refine seqH_read (.bool false) rfl rfl (by rintro u ⟨hu1, hu2⟩; clear hu1 hu2; go_simp; try simp) ?_
          try simp only [Act.put, List.setIfInBounds_toArray, List.set_cons_zero, List.set_cons_succ]
          refine seqH_nil ?_
          go_wp2
          go_roundw
          case rel => exact ⟨j + 1, by go_num, by omega, HST2.out, HB22.out.drew⟩
          case measure => simp only [intOf]; omega
        · have HNO2 := Lib.hid (HNO.out (show ((re, rd) == ((0 : Int), rd)) = false by simp [h0]))
          clear k0'
          refine region_head 12 [0, 1, 2, 3, 4, 5, 6, 7, 8, 9, 10, 11] [] (fun u => BytesAt u ga gn gc rd ∧ u.cell? ⟨bk, ok + j * 4 + 1, none⟩ = some (.string ⟨rd.toArray⟩)) (by kernel_rfl) (by kernel_rfl) ⟨HBY.out.below ((Below.refl _ _).drew), HK2.out⟩ ?_
          simp only [pickO, List.append_eq, List.cons_append, List.nil_append, List.filterMap_cons, List.filterMap_nil, List.getElem?_cons_zero, List.getElem?_cons_succ, Option.map_some, List.drop_succ_cons, List.drop_zero]
          refine seqH_read _ rfl rfl (by rintro u ⟨hu1, hu2⟩; clear hu1; go_simp; with_reducible rfl) ?_
          try simp only [Act.put, List.setIfInBounds_toArray, List.set_cons_zero, List.set_cons_succ]
          refine seqH_read (.string ⟨rd.toArray⟩) rfl rfl (by rintro u ⟨hu1, hu2⟩; have hcv := hu1.conv; clear hu1; go_simp) ?_
          try simp only [Act.put, List.setIfInBounds_toArray, List.set_cons_zero, List.set_cons_succ]
          iterate 5
            refine seqH_read _ rfl rfl (by rintro u ⟨hu1, hu2⟩; clear hu1; go_simp; with_reducible rfl) ?_
            try simp only [Act.put, List.setIfInBounds_toArray, List.set_cons_zero, List.set_cons_succ]
          refine seqH_read (.bool false) rfl rfl (by rintro u ⟨hu1, hu2⟩; clear hu1 hu2; go_simp; try simp) ?_
          try simp only [Act.put, List.setIfInBounds_toArray, List.set_cons_zero, List.set_cons_succ]
          refine seqH_read (.bool false) rfl rfl (by rintro u ⟨hu1, hu2⟩; clear hu1 hu2; go_simp) ?_
          try simp only [Act.put, List.setIfInBounds_toArray, List.set_cons_zero, List.set_cons_succ]
          iterate 1
            refine seqH_readG _ rfl (by rfl) (by rintro u ⟨hu1, hu2⟩; clear hu1; go_simp; with_reducible rfl) ?_
            try simp only [Act.put, List.setIfInBounds_toArray, List.set_cons_zero, List.set_cons_succ]
          refine seqH_readG (.bool true) rfl (by rfl) (by rintro u ⟨hu1, hu2⟩; clear hu1 hu2; go_simp; try simp [h0]) ?_
          try simp only [Act.put, List.setIfInBounds_toArray, List.set_cons_zero, List.set_cons_succ]
          refine seqH_read (.bool true) rfl rfl (by rintro u ⟨hu1, hu2⟩; clear hu1 hu2; go_simp; try simp) ?_
          try simp only [Act.put, List.setIfInBounds_toArray, List.set_cons_zero, List.set_cons_succ]
          refine seqH_nil ?_
          go_wp2
          go_ret
          exact ⟨by rw [HNO2.out]; rfl, HB22.out.drew⟩
      · have HNO2 := Lib.hid (HNO.out (show ((re, rd) == ((0 : Int), kd)) = false by simp [hs]))
        clear k0'
        refine region_head 12 [0, 1, 2, 3, 4, 5, 6, 7, 8, 9, 10, 11] [] (fun u => BytesAt u ga gn gc rd ∧ u.cell? ⟨bk, ok + j * 4 + 1, none⟩ = some (.string ⟨kd.toArray⟩)) (by kernel_rfl) (by kernel_rfl) ⟨HBY.out.below ((Below.refl _ _).drew), HK2.out⟩ ?_
        simp only [pickO, List.append_eq, List.cons_append, List.nil_append, List.filterMap_cons, List.filterMap_nil, List.getElem?_cons_zero, List.getElem?_cons_succ, Option.map_some, List.drop_succ_cons, List.drop_zero]
        refine seqH_read _ rfl rfl (by rintro u ⟨hu1, hu2⟩; clear hu1; go_simp; with_reducible rfl) ?_
        try simp only [Act.put, List.setIfInBounds_toArray, List.set_cons_zero, List.set_cons_succ]
        refine seqH_read (.string ⟨rd.toArray⟩) rfl rfl (by rintro u ⟨hu1, hu2⟩; have hcv := hu1.conv; clear hu1; go_simp) ?_
        try simp only [Act.put, List.setIfInBounds_toArray, List.set_cons_zero, List.set_cons_succ]
        iterate 5
          refine seqH_read _ rfl rfl (by rintro u ⟨hu1, hu2⟩; clear hu1; go_simp; with_reducible rfl) ?_
          try simp only [Act.put, List.setIfInBounds_toArray, List.set_cons_zero, List.set_cons_succ]
        refine seqH_read (.bool true) rfl rfl (by rintro u ⟨hu1, hu2⟩; clear hu1 hu2; go_simp; try simp [hs]) ?_
        try simp only [Act.put, List.setIfInBounds_toArray, List.set_cons_zero, List.set_cons_succ]
        refine seqH_read (.bool true) rfl rfl (by rintro u ⟨hu1, hu2⟩; clear hu1 hu2; go_simp) ?_
        try simp only [Act.put, List.setIfInBounds_toArray, List.set_cons_zero, List.set_cons_succ]
        iterate 2
          refine seqH_skip rfl (by rfl) ?_
          try simp only [Act.put, List.setIfInBounds_toArray, List.set_cons_zero, List.set_cons_succ]
        refine seqH_read (.bool true) rfl rfl (by rintro u ⟨hu1, hu2⟩; clear hu1 hu2; go_simp; try simp) ?_
        try simp only [Act.put, List.setIfInBounds_toArray, List.set_cons_zero, List.set_cons_succ]
        refine seqH_nil ?_
        go_wp2
        go_ret
        exact ⟨by rw [HNO2.out]; rfl, HB22.out.drew⟩
    · obtain rfl : j = L.length := by omega
      have hji : ¬ (L.length : Int) < (L.length : Int) := by omega
      have hal := HALL.out
      rw [List.take_length] at hal
      have HALL := Lib.hid hal
      clear hal
      go_wp2_with (go_at_call 62; refine (CI.out wr HB.out).mono ?_; rintro e w2 ⟨v, rfl, hkr, _, hb2⟩; obtain ⟨ka, kc, hv0, _, _⟩ := hkr.form; subst hv0; rw [List.length_map]; have HB2 := Lib.hid hb2; clear hb2 hkr)
      go_ret
      refine ⟨?_, HB.out.trans (HB2.out.mono HB.out.size)⟩
      show Ending.returned (.bool ((h.at_.length : Int) == (L.length : Int))) = _
      unfold readsB
      rw [HALL.out, Bool.true_and]
      congr 2
      by_cases hh : h.at_.length = L.length
      · rw [hh]; simp
      · rw [beq_eq_false_iff_ne.2 hh, beq_eq_false_iff_ne.2 (by omega)]
end
end Go.Proofs.YtjcmphjjkeigjaaGreat

namespace Go.Proofs.YtjcmphjjkeigjaaGreat
open Go.RowKit
set_option linter.unusedVariables false
set_option linter.unusedSimpArgs false
set_option maxRecDepth 100000

theorem aw7_f : fmtH 51 = ⟨[], [0], [true, false, false, false, false, false, false, false, false]⟩ := by rfl
def h7 : Ht := ⟨[], [0], [true, false, false, false, false, false, false, false, false]⟩
def h7b (dat : List UInt8) : Ht := ⟨[⟨5, [1, 2], dat, sumL dat⟩], [3], [false, true, true, true, false, false, false, false, false]⟩
theorem aw7_b (dat : List UInt8) (hd : dat.length = 200) : ∃ q, planOf h7 [⟨5, dat, false⟩] = some (h7b dat, q) := by
  have hn : needsOf h7.at_ [⟨5, dat, false⟩] = some 3 := by
    have h1 : countC h7.at_ [⟨5, dat, false⟩] = 1 := by rfl
    have h2 : takeC [⟨5, dat, false⟩] = 2 := by
      unfold takeC
      simp only [List.foldl_cons, List.foldl_nil, hd]
      rfl
    unfold needsOf
    rw [h1, h2]
    decide +kernel
  refine ⟨(planAt h7 [⟨5, dat, false⟩] 3).2, ?_⟩
  unfold planOf
  rw [hn]
  dsimp only
  rw [if_neg (by decide +kernel)]
  congr 1
  have hp : planL [⟨5, dat, false⟩] (h7.at_, [], (frees h7.used).take 3) = ([⟨5, [1, 2], dat, sumL dat⟩], blobPuts dat [1, 2], [3]) := by
    have hf : (frees h7.used).take 3 = [1, 2, 3] := by decide +kernel
    rw [hf]
    unfold planL
    simp only [List.foldl_cons, List.foldl_nil]
    unfold planStep
    dsimp only
    rw [if_neg (by simp), hd]
    rfl
  unfold planAt
  rw [hp]
  rfl
theorem aw7_m (dat : List UInt8) (hd : dat.length = 200) : mayC [⟨5, dat, false⟩] = true := by
  unfold mayC
  simp [okC, hd]
theorem aw7_batch {n : Nat} {s : List (List UInt8)} (k : Lies n s h7) (dat : List UInt8) (hd : dat.length = 200) (r : Int) (s' : List (List UInt8)) (h' : Ht) (hb : batchOf (dkS s) h7 [⟨5, dat, false⟩] = (r, dkS s', h')) : r = 0 ∧ h' = h7b dat := by
  obtain ⟨q, hq⟩ := aw7_b dat hd
  obtain ⟨s2, h2⟩ := lies_yes k (aw7_m dat hd) (by simp [noneC]) (by simp) hq
  rw [h2] at hb
  cases hb
  exact ⟨rfl, rfl⟩
theorem aw7_none {s : List (List UInt8)} (dat : List UInt8) (r : Int) (s' : List (List UInt8)) (h' : Ht) (hb : batchOf (dkS s) (h7b dat) [⟨5, [], true⟩, ⟨6, [], true⟩] = (r, dkS s', h')) : r = 6 ∧ h' = h7b dat := by
  unfold batchOf at hb
  rw [show mayC [⟨5, [], true⟩, ⟨6, [], true⟩] = true by rfl, if_neg (by simp), if_pos (by rfl)] at hb
  cases hb
  exact ⟨rfl, rfl⟩
theorem row8_own {w : World} {b base : Nat} {l : List UInt8} (h : BytesAt w (some ⟨b, 0, none⟩) 128 128 l) (hr : Row8 w b) (hb : base ≤ b) : w.ownsRow base 5 1 (.slice (some ⟨b, 0, none⟩) 128 128) 128 (vals l) := by
  obtain ⟨cur, hc, hx⟩ := hr
  obtain ⟨b1, o1, e1, hcell⟩ := h.at (by omega)
  cases e1
  have hl := h.1
  refine ⟨by rw [vals_length, hl], .inr ⟨b, 128, cur, rfl, hb, hx, Nat.le_refl _, by unfold maxLen; omega, by omega, ?_⟩⟩
  apply List.ext_getElem?
  intro i
  by_cases hi : i < 128
  · have h1 := hcell i hi
    rw [Nat.zero_add, cell_of_row _ _ _ _ _ _ hx] at h1
    rw [List.getElem?_take, if_pos (by omega), Array.getElem?_toList, h1, vals_at l i (by omega)]
  · rw [List.getElem?_eq_none (by rw [List.length_take]; omega), List.getElem?_eq_none (by rw [vals_length]; omega)]
theorem own_block {w : World} {base n cap : Nat} {t : TypeId} {a : Option Addr} {xs : List Value} (h : w.ownsRow base t 1 (.slice a n cap) n xs) (hn : 0 < n) : ∃ b, a = some ⟨b, 0, none⟩ ∧ n ≤ cap ∧ cap ≤ maxLen ∧ base ≤ b := by
  obtain ⟨_, ⟨_, h0⟩ | ⟨g, cap2, cur, hv, h1, _, h2, h3, _⟩⟩ := h
  · omega
  · cases hv
    exact ⟨g, rfl, h2, h3, h1⟩
theorem chgs_new {w : World} {V : Nat → Prop} {M : List ChgM} (hM : M.length ≤ 1000) (hb : ∀ x ∈ M, BytesAt w x.a x.n x.cap x.c.data) (hV : ∀ q, V q → q < w.heap.size) (ha : ∀ x ∈ M, ∀ p, x.a = some p → V p.block) (hid : ∀ x ∈ M, x.c.id < 18446744073709551616) :
    ChgsIn (w.alloc (.cells (M.flatMap chgC).toArray 76)) (fun q => q = w.heap.size ∨ V q) (some ⟨w.heap.size, 0, none⟩) M.length M.length M := by
  have hbl : Below w.heap.size w (w.alloc (.cells (M.flatMap chgC).toArray 76)) := (Below.refl _ _).alloc (Nat.le_refl _) _
  have hc : ∀ x ∈ M, (chgC x).length = 3 := fun _ _ => rfl
  refine ⟨⟨rfl, Nat.le_refl _, by unfold maxLen; omega, hc, .inr ⟨_, rfl, fun i j x hx hj => ?_⟩⟩, fun q hq => ?_, fun p hp => .inl (by cases hp; rfl), fun x hx => (hb x hx).below hbl, fun x hx p hp => .inr (ha x hx p hp), hid⟩
  · rw [Addr.add_mid, Nat.zero_add, cell_of_row _ _ _ _ _ _ (heap_alloc_new w _), ← flatMap_at (size := 3) M hc i j x hx hj]
    simp
  · rcases hq with rfl | hq
    · simp
    · have := hV q hq; simp; omega
set_option maxHeartbeats 4000000 in
theorem awake07 (w : World) : Calls Tryz.prog 8 #[] w fun e w' => e = .returned (.bool true) ∧ Below w.heap.size w w' := by
  go_enter Tryz.func8, Tryz.ntmps8
  go_wp2_with fail
  refine (new_yes 51 w (by omega) (by omega)).mono ?_
  rintro e w1 ⟨gd, S1, rfl, hd1, hb1, hn1⟩
  have CF := Lib.hid (hs_format (w0 := w) hd1 (by omega) (by omega) hn1 hb1)
  clear hd1 hb1 hn1
  go_wp2_with fail
  refine CF.out.mono ?_
  rintro e w2 ⟨g, S, U, s, rfl, hh⟩
  rw [aw7_f] at hh
  have H2 := Lib.hid (show Hs w w2 51 S U g gd s h7 from hh)
  clear CF hh
  have CT := Lib.hid (show Calls _ _ _ w2 (fun e w' => e = .returned (.int .i64 9) ∧ w' = w2) from total_any H2.out.hot)
  have CR := Lib.hid (show Calls _ _ _ w2 (fun e w' => e = .returned (.int .i64 8) ∧ Below w2.heap.size w2 w') from free7_any H2.out.hot)
  go_wp2_with fail
  refine CT.out.mono ?_
  rintro e w2x ⟨rfl, hw2x⟩
  subst hw2x
  go_wp2_with fail
  refine CR.out.mono ?_
  rintro e w3 ⟨rfl, hb3⟩
  have H3 := Lib.hid (H2.out.quiet hb3)
  have CU := Lib.hid (show Calls _ _ _ w3 (IntsTo [0] w3) from used7_any H3.out.hot)
  clear CT CR hb3 H2
  go_wp2_with fail
  refine CU.out.mono ?_
  rintro e w4 ⟨ua, uc, rfl, ho4, hb4⟩
  have H4 := Lib.hid (H3.out.quiet hb4)
  obtain ⟨bu, rfl, _, _, hbu⟩ := own_block ho4 (by show 0 < 1; omega)
  obtain ⟨_, _, hbe, _, hcu⟩ := (ints_owned ho4).cell (by show 0 < 1; omega)
  cases hbe
  have hu4 : w4.cell? ⟨bu, 0, none⟩ = some (.int .i64 0) := hcu 0 (by show 0 < 1; omega)
  have HU := Lib.hid hu4
  have HBU := Lib.hid (block_lt hu4)
  have HSU := Lib.hid (show ∀ q, S q → q ≠ bu from fun q hq e => by have := H3.out.hot.disk.lt q hq; omega)
  have HGU := Lib.hid (show g ≠ bu from fun e => by have := H3.out.hot.lt; omega)
  clear CU H3 ho4 hb4 hcu hu4
  go_wp2_with fail
  refine (show Calls _ _ #[.int .u8 7] w4 (AllTo 7 w4) from all_own 7 w4).mono ?_
  rintro e w5 ⟨b5, rfl, hy5, hb5, hlt5, hl5, hr5⟩
  have H5 := Lib.hid (H4.out.quiet hb5)
  have B45 := Lib.hid hb5
  have CA := Lib.hid (show Calls _ _ #[.int .u8 8] w5 (AllTo 8 w5) from all_own 8 w5)
  have R5 := Lib.hid (row8_own hy5 hr5 hlt5)
  clear hy5 hb5 hr5
  go_wp2_with (first
    | (go_at_call 39; refine CA.out.mono ?_; rintro e w6 ⟨b6, rfl, hy6, hb6, hlt6, hl6, hr6⟩; have R6 := Lib.hid (owned_below R5.out hb6); have HB6 := Lib.hid hb6; have HY6 := Lib.hid hy6; clear hb6 hy6 hr6)
    | (at_builtin; refine wpList_append_bytes rfl _ _ rfl w4.heap.size (.slice (some ⟨b5, 0, none⟩) 128 128) 128 (vals (sec 7)) rfl R6.out (some ⟨b6, 0, none⟩) 128 128 (sec 8) rfl HY6.out 256 (by omega) (by omega) (by have := HB6.out.size; omega) ?_; intro a7 c7 w7 ho7 hg7; obtain ⟨b7, rfl, hc7, hm7, hlt7⟩ := own_block ho7 (by omega); have hci7 : (200 : Int) ≤ (c7 : Int) := (by omega); have hc70 : ¬ c7 = 0 := (by omega)))
  obtain ⟨dat, hdat⟩ : ∃ d, d = (sec 7 ++ sec 8).take 200 := ⟨_, rfl⟩
  have hdl : dat.length = 200 := by rw [hdat, List.length_take, List.length_append, sec_length, sec_length]; rfl
  have hby7 : BytesAt w7 (some ⟨b7, 0, none⟩) 200 c7 dat := by
    have h1 : BytesAt w7 (some ⟨b7, 0, none⟩) 256 c7 (sec 7 ++ sec 8) := BytesAt.owned (by rw [show vals (sec 7 ++ sec 8) = vals (sec 7) ++ vals (sec 8) by simp [vals]]; exact ho7)
    rw [hdat]
    exact h1.head (by omega)
  have hb47 : Below w4.heap.size w4 w7 := (B45.out.trans (HB6.out.mono B45.out.size)).grown hg7 (by have := B45.out.size; have := HB6.out.size; omega) fun q hq => by cases hq; exact hlt5
  have H7 := Lib.hid (H4.out.quiet hb47)
  have hlt77 : b7 < w7.heap.size := by obtain ⟨b1, o1, e1, hc1⟩ := hby7.at (by omega); cases e1; exact block_lt (hc1 0 (by omega))
  have hn8 := chgs_new (w := w7) (V := fun q => q = b7) (M := [⟨⟨5, dat, false⟩, some ⟨b7, 0, none⟩, 200, c7⟩]) (by simp) (by simpa using hby7) (by rintro q rfl; exact hlt77) (by simp) (by simp)
  have hal : Below w7.heap.size w7 (w7.alloc (.cells #[.int .u64 5, .slice (some ⟨b7, 0, none⟩) 200 c7, .bool false] 76)) := (Below.refl _ _).alloc (Nat.le_refl _) _
  have CB := Lib.hid (hs_batch (H7.out.quiet hal) hn8 (by simp) (by simp))
  have HY8 := Lib.hid (hby7.below hal)
  have HU8 := Lib.hid (show (w7.alloc (.cells #[.int .u64 5, .slice (some ⟨b7, 0, none⟩) 200 c7, .bool false] 76)).cell? ⟨bu, 0, none⟩ = some (.int .i64 0) by
    rw [hal.cell (show bu < w7.heap.size by have := HBU.out; have := hb47.size; omega), hb47.cell (show bu < w4.heap.size from HBU.out)]; exact HU.out)
  have HS7 := Lib.hid (show ∀ q, S q → q ≠ b7 from fun q hq e => by have := H4.out.hot.disk.lt q hq; omega)
  have HG7 := Lib.hid (show g ≠ b7 from fun e => by have := H4.out.hot.lt; omega)
  have HB8 := Lib.hid hlt77
  have HBU8 := Lib.hid (show bu < w7.heap.size by have := HBU.out; have := hb47.size; omega)
  have HD := Lib.hid hdl
  clear hb47 hn8 hal hby7 hlt77 ho7 hg7 HU HBU R6 R5 HB6 HY6 B45 H4 H5 CA hdat hlt6 hl6 hlt5 hl5 hlt7 hci7 hc70 hc7 hm7 hdl
  refine CB.out.mono ?_
  rintro e w9 ⟨r, s9, h9, S9, U9, rfl, hbo, hH9, hon, hs9, hu9, hor⟩
  obtain ⟨rfl, rfl⟩ := aw7_batch H7.out.lies dat HD.out r s9 h9 hbo
  have H9 := Lib.hid hH9
  have HY9 := Lib.hid (HY8.out.only hon (by rintro x hx; cases hx; rintro (e | e); exact HG7.out e.symm; exact HS7.out _ e rfl))
  have HU9 := Lib.hid (show w9.cell? ⟨bu, 0, none⟩ = some (.int .i64 0) by
    rw [World.cell?_of_block (w := w7.alloc _) (hon.block bu (by have := HBU8.out; simp; omega) (by rintro (e | e); exact HGU.out e.symm; exact HSU.out _ e rfl))]; exact HU8.out)
  have HB9 := Lib.hid (show b7 < w9.heap.size by have := HB8.out; have := hon.size; simp at this; omega)
  have HBU9 := Lib.hid (show bu < w9.heap.size by have := HBU8.out; have := hon.size; simp at this; omega)
  have CG := Lib.hid (show Calls _ _ _ w9 (GetTo (0, dat) w9) from by
    have h1 := get_any H9.out.hot 5 (by omega) (H9.out.lies.ok.get 5)
    rw [lies_get H9.out.lies 5] at h1
    exact h1)
  have HN9 := Lib.hid (show ∀ q, S9 q → q ≠ b7 ∧ q ≠ bu from fun q hq => by
    rcases hs9 q hq with h1 | h1
    · exact ⟨HS7.out q h1, HSU.out q h1⟩
    · have := HB8.out; have := HBU8.out; simp at h1; omega)
  clear CB hor hbo hH9 hon hs9 hu9 H7 HY8 HU8 HS7 HB8 HBU8 HSU
  go_wp2_with fail
  refine CG.out.mono ?_
  rintro e w10 ⟨ga, gn, gc, rfl, hgb, hb10, hga⟩
  have HGA := Lib.hid hga
  clear hga
  have H10 := Lib.hid (H9.out.quiet hb10)
  have CU := Lib.hid (show Calls _ _ _ w10 (IntsTo [1, 2, 3] w10) from used7_any H10.out.hot)
  have HG10 := Lib.hid hgb
  have B10 := Lib.hid hb10
  clear CG hgb hb10
  go_wp2_with fail
  refine CU.out.mono ?_
  rintro e w11 ⟨ua, uc2, rfl, ho11, hb11⟩
  have H11 := Lib.hid (H10.out.quiet hb11)
  have B11 := Lib.hid (B10.out.trans (hb11.mono B10.out.size))
  have HG11 := Lib.hid (HG10.out.below hb11)
  have B1011 := Lib.hid hb11
  obtain ⟨bm, rfl, _, _, hbm⟩ := own_block ho11 (by show 0 < 3; omega)
  obtain ⟨_, _, hbe, _, hcu⟩ := (ints_owned ho11).cell (by show 0 < 3; omega)
  cases hbe
  have m0 : w11.cell? ⟨bm, 0, none⟩ = some (.int .i64 1) := hcu 0 (by show 0 < 3; omega)
  have m2 : w11.cell? ⟨bm, 2, none⟩ = some (.int .i64 3) := hcu 2 (by show 2 < 3; omega)
  have M0 := Lib.hid m0
  have M2 := Lib.hid m2
  clear hcu ho11 m0 m2 CU H10 HG10 hb11
  go_wp2_with fail
  have hn12 := chgs_new (w := w11) (V := fun _ => False) (M := [⟨⟨5, [], true⟩, none, 0, 0⟩, ⟨⟨6, [], true⟩, none, 0, 0⟩]) (by simp) (by intro x hx; simp at hx; rcases hx with rfl | rfl <;> exact BytesAt.nil _) (by simp) (by intro x hx; simp at hx; rcases hx with rfl | rfl <;> simp) (by simp)
  have hal : Below w11.heap.size w11 (w11.alloc (.cells #[.int .u64 5, .slice none 0 0, .bool true, .int .u64 6, .slice none 0 0, .bool true] 76)) := (Below.refl _ _).alloc (Nat.le_refl _) _
  have CB := Lib.hid (hs_batch (H11.out.quiet hal) hn12 (by simp) (by simp))
  have HAL := Lib.hid hal
  clear hn12 hal
  refine CB.out.mono ?_
  rintro e w13 ⟨r, s13, h13, S13, U13, rfl, hbo, hH13, hon, hs13, hu13, hor⟩
  obtain ⟨rfl, rfl⟩ := aw7_none dat r s13 h13 hbo
  have H13 := Lib.hid hH13
  have B911 := Lib.hid (B11.out.trans (HAL.out.mono B11.out.size))
  have hlow : ∀ q, q < w11.heap.size → q ≠ g → ¬ S9 q → w13.heap[q]? = w11.heap[q]? := fun q hq h1 h2 => (hon.block q (by simp; omega) (by rintro (e | e); exact h1 e; exact h2 e)).trans (HAL.out.block q hq)
  have hS9 : ∀ q, w9.heap.size ≤ q → ¬ S9 q := fun q hq h1 => by have := H9.out.hot.disk.lt q h1; omega
  have hg9 := H9.out.hot.lt
  have y1 : BytesAt w13 ga gn gc dat := HG11.out.keepN fun p hp hn => hlow _ (by obtain ⟨b1, o1, e1, hc1⟩ := HG11.out.at hn; rw [hp] at e1; cases e1; exact block_lt (hc1 0 hn)) (fun e => by have := HGA.out p hp; omega) (hS9 _ (HGA.out p hp))
  have hsz9 := B11.out.size
  have y2 : BytesAt w13 (some ⟨b7, 0, none⟩) 200 c7 dat := (HY9.out.below B11.out).keepN fun p hp hn => by
    cases hp
    exact hlow b7 (by have := HB9.out; omega) (fun e => HG7.out e.symm) fun h1 => (HN9.out _ h1).1 rfl
  have u0 : w13.cell? ⟨bu, 0, none⟩ = some (.int .i64 0) := by
    rw [World.cell?_of_block (w := w11) (hlow bu (by have := HBU9.out; omega) (fun e => HGU.out e.symm) fun h1 => (HN9.out _ h1).2 rfl), B11.out.cell (show bu < w9.heap.size from HBU9.out)]; exact HU9.out
  have hbm9 : w9.heap.size ≤ bm := by have := B10.out.size; omega
  have hbml : bm < w11.heap.size := block_lt M0.out
  have m0 : w13.cell? ⟨bm, 0, none⟩ = some (.int .i64 1) := by rw [World.cell?_of_block (w := w11) (hlow bm hbml (by omega) (hS9 _ hbm9))]; exact M0.out
  have m2 : w13.cell? ⟨bm, 2, none⟩ = some (.int .i64 3) := by rw [World.cell?_of_block (w := w11) (hlow bm hbml (by omega) (hS9 _ hbm9))]; exact M2.out
  have hgn : gn = 200 := by rw [← y1.1]; exact HD.out
  subst hgn
  have Y1 := Lib.hid y1
  have Y2 := Lib.hid y2
  have CR := Lib.hid (fun u (hu : Below w13.heap.size w13 u) => show Calls _ _ _ u (fun e w' => e = .returned (.int .i64 6) ∧ Below u.heap.size u w') from free7_any (H13.out.hot.below hu))
  have HBF := Lib.hid H13.out.below
  clear CB hbo hH13 hon hs13 hu13 hor hlow hS9 hg9 hsz9 hbm9 H11 H9 HG11 HY9 HU9 HB9 HBU9 HN9 HG7 HGU HGA M0 M2 HAL B911 B10 B11 B1011 y1 y2 H13
  go_wp2_with fail
  refine (CR.out w13 (Below.refl _ _)).mono ?_
  rintro e w14 ⟨rfl, hb14⟩
  have k0 : w14.cell? ⟨bm, 0, none⟩ = some (.int .i64 1) := by rw [hb14.cell (block_lt m0)]; exact m0
  have k2 : w14.cell? ⟨bm, 2, none⟩ = some (.int .i64 3) := by rw [hb14.cell (block_lt m2)]; exact m2
  have Z1 := Lib.hid (Y1.out.below hb14)
  have Z2 := Lib.hid (Y2.out.below hb14)
  have HB14 := Lib.hid (HBF.out.trans (hb14.mono HBF.out.size))
  have hcv1 := Z1.out.conv
  have hcv2 := Z2.out.conv
  clear hb14 u0 m0 m2 Y1 Y2 CR HBF
  go_wp2_with fail
  go_ret
  exact ⟨rfl, HB14.out⟩
end Go.Proofs.YtjcmphjjkeigjaaGreat

namespace Go.Proofs.YtjcmphjjkeigjaaGreat
open Go.RowKit
set_option linter.unusedVariables false
set_option linter.unusedSimpArgs false
set_option maxRecDepth 100000

section
variable {w w' : World} {T : Nat → Prop} {a : Option Addr} {n cap B : Nat} {M : List ChgM} {v : Value}
theorem ChgsO.keepOnly (h : ChgsO w B v M) (ho : Only T w w') (hT : ∀ q, B ≤ q → ¬ T q) : ChgsO w' B v M :=
  ⟨h.recs.keep fun q hq => ho.block q (h.recs.lt q hq) (hT q (h.own q hq)), h.own, fun x hx => (h.oct x hx).keep fun q hq => ho.block q ((h.oct x hx).lt q hq) (hT q (h.octB x hx q hq)), h.octB, h.id⟩
end
theorem key_lt {h : Ht} (k : HtOk h) {L : List KD} (hL : L.Perm (kdL h)) : ∀ b ∈ L, b.1 < 18446744073709551616 := by
  intro b hb
  have h1 := hL.mem_iff.1 hb
  unfold kdL at h1
  obtain ⟨s, hs, rfl⟩ := List.mem_map.1 h1
  exact (k.each s hs).key
theorem has_few {h : Ht} (k : HtOk h) {L : List KD} (hL : L.Perm (kdL h)) : L.length ≤ 1000 := by
  have := k.few
  rw [hL.length_eq]; unfold kdL; rw [List.length_map]; omega
theorem reads_lies {n : Nat} {s : List (List UInt8)} {h : Ht} (k : Lies n s h) {L : List KD} (hL : L.Perm (kdL h)) : readsB (dkS s) h L = true := by
  obtain ⟨h1, h2⟩ := lies_reads k hL
  unfold readsB
  rw [Bool.and_eq_true, List.all_eq_true]
  exact ⟨fun b hb => by rw [h1 b hb]; simp, by rw [h2]; simp⟩

set_option maxHeartbeats 8000000 in
theorem hotsame_any (a : Option Addr) (n cap : Nat) (P : List (List ChgM)) (w : World) (hP : GrpsC w a n cap P) : Calls Tryz.prog 6 #[.slice a n cap] w fun e w' => e = .returned (.bool true) ∧ Below w.heap.size w w' := by
  have HP := Lib.hid hP
  have CW := Lib.hid (fun u => awake07 u)
  have hnl := hP.len
  clear hP
  go_enter Tryz.func6, Tryz.ntmps6
  go_wp2_with fail
  refine (new_yes 80 w (by omega) (by omega)).mono ?_
  rintro e w1 ⟨gd, S1, rfl, hd1, hb1, hn1⟩
  have CF := Lib.hid (hs_format (w0 := w) hd1 (by omega) (by omega) hn1 hb1)
  clear hd1 hb1 hn1
  go_wp2_with fail
  refine CF.out.mono ?_
  rintro e w2 ⟨g, S, U, s, rfl, hh⟩
  have H2 := Lib.hid hh
  clear CF hh
  go_wp2
  have hfk : (fmtH 80).at_ = [] := by rfl
  have hlp : ([] : List KD).Perm (kdL (fmtH 80)) := by unfold kdL; rw [hfk]; exact List.Perm.refl _
  have HLP := Lib.hid hlp
  clear hlp hfk
  go_loopw [5, 7, 8] (fun s5 s7 s8 wr => ∃ (j g : Nat) (S U : Nat → Prop) (s : List (List UInt8)) (h : Ht) (av : Option Addr) (cv : Nat) (L : List KD), s8 = .int .i64 j ∧ j ≤ n ∧ s5 = .pointer (some ⟨g, 0, none⟩) ∧ s7 = .slice av L.length cv ∧ Hs w wr 80 S U g gd s h ∧ Recs blobC wr 81 4 (.slice av L.length cv) L ∧ L.Perm (kdL h) ∧ (∀ q, (Value.slice av L.length cv).ownBlock = some q → ¬ S q ∧ q ≠ g ∧ w.heap.size ≤ q)) (fun _ _ s8 _ => n - (intOf s8).toNat)
  case atStart => exact ⟨0, g, S, U, s, fmtH 80, none, 0, [], rfl, Nat.zero_le _, rfl, rfl, H2.out, Recs.nil _ _ _ _, HLP.out, fun q hq => by simp [Value.ownBlock] at hq⟩
  case round =>
    clear HLP H2
    obtain ⟨j, g, S, U, s, h, av, cv, L, rfl, hj, rfl, rfl, hH, hR, hL, hown⟩ := hrel
    have H := Lib.hid hH
    have HR := Lib.hid hR
    have HL := Lib.hid hL
    have HOW := Lib.hid hown
    clear hH hR hL hown
    by_cases hlt : j < n ∧ j < 6
    · obtain ⟨hltn, hlt6⟩ := hlt
      have hji : (j : Int) < (n : Int) := by omega
      have hji6 : (j : Int) < (6 : Int) := by omega
      obtain ⟨b, off, rfl, hbl, hcs⟩ := (HP.out.below H.out.below).at [] (by omega)
      obtain ⟨⟨ra, rn, rc⟩, hcell, hE⟩ := hcs j hltn
      dsimp only at hcell hE
      generalize P.getD j [] = M at *
      have CFW := Lib.hid (few7_any ra rn rc M wr hE)
      have hfc : (fewC (M.map (·.c))).length ≤ 12 := by unfold fewC; rw [List.length_map, List.length_take]; omega
      have hcap := HP.out.caps
      have hcm := hcap.2
      unfold maxLen at hcm
      generalize fewC (M.map (·.c)) = C at *
      clear hcs hE
      go_wp2_with fail
      refine CFW.out.mono ?_
      rintro e w3 ⟨ca, cc, N, rfl, hNC, hNO, hb3⟩
      subst hNC
      have H3 := Lib.hid (H.out.quiet hb3)
      have HR3 := Lib.hid (HR.out.below hb3)
      have HN3 := Lib.hid hNO
      have HOW3 := Lib.hid (show ∀ q, wr.heap.size ≤ q → ¬ (q = g ∨ S q) from fun q hq e => by
        rcases e with e | e
        · have := H.out.hot.lt; omega
        · have := H.out.hot.disk.lt q e; omega)
      have HSZ3 := Lib.hid hb3.size
      have CU := Lib.hid (used7_any H3.out.hot)
      have hn12 : N.length ≤ 12 := by rw [List.length_map] at hfc; exact hfc
      clear hNO hb3 CFW hcell hfc
      generalize N.length = m at *
      go_wp2_with fail
      refine CU.out.mono ?_
      rintro e w4 ⟨ua, uc, rfl, ho4, hb4⟩
      have H4 := Lib.hid (H3.out.quiet hb4)
      have HR4 := Lib.hid (HR3.out.below hb4)
      have HN4 := Lib.hid (HN3.out.below hb4)
      have CB := Lib.hid (hs_batch H4.out (HN4.out.into rfl) (by omega) (by intro c hc; obtain ⟨x, hx, rfl⟩ := List.mem_map.1 hc; exact HN4.out.id x hx))
      have HSZ4 := Lib.hid (Nat.le_trans HSZ3.out hb4.size)
      clear HN3 HR3 H3 CU ho4 hb4 HSZ3
      obtain ⟨ul, hul⟩ : ∃ ul, ul = (usedsL h.used).length := ⟨_, rfl⟩
      rw [← hul]
      have HUL := Lib.hid hul
      clear hul
      go_wp2_with fail
      refine CB.out.mono ?_
      rintro e w5 ⟨r, s5, h5, S5, U5, rfl, hbo, hH5, hon, hs5, hu5, hor⟩
      go_upto_if 57 with (fail)
      have H5 := Lib.hid hH5
      have HON := Lib.hid hon
      have HS5 := Lib.hid hs5
      have hw45 : w4.heap.size ≤ w5.heap.size := hon.size
      have hR5 : Recs blobC w5 81 4 (.slice av L.length cv) L := HR4.out.keep fun q hq => hon.block q (HR4.out.lt q hq) (by rintro (e | e); exact (HOW.out q hq).2.1 e; exact (HOW.out q hq).1 e)
      have hown5 : ∀ q, (Value.slice av L.length cv).ownBlock = some q → ¬ S5 q ∧ q ≠ g ∧ w.heap.size ≤ q := fun q hq => ⟨fun e => by
        rcases hs5 q e with e | e
        · exact (HOW.out q hq).1 e
        · have := HR4.out.lt q hq; omega, (HOW.out q hq).2⟩
      have HR5 := Lib.hid hR5
      have HOW5 := Lib.hid hown5
      clear CB hbo hH5 hon hs5 hu5 hR5 hown5
      go_cut [7] (fun s7 wx => ∃ (s' : List (List UInt8)) (h' : Ht) (S' U' : Nat → Prop) (a' : Option Addr) (c' : Nat) (L' : List KD), s7 = .slice a' L'.length c' ∧ Hs w wx 80 S' U' g gd s' h' ∧ Recs blobC wx 81 4 (.slice a' L'.length c') L' ∧ L'.Perm (kdL h') ∧ (∀ q, (Value.slice a' L'.length c').ownBlock = some q → ¬ S' q ∧ q ≠ g ∧ w.heap.size ≤ q))
      case first =>
        rcases hor with ⟨rfl, hmy, hno, Pp, qq, hpl⟩ | ⟨hr0, rfl, rfl, _⟩
        · have CH := Lib.hid (hasB_any av cv L ca m cc N w5 HR5.out (has_few H4.out.lies.ok HL.out) ((HN4.out.keepOnly HON.out HOW3.out).read rfl) hn12)
          have HPM := Lib.hid (has_planned hpl hmy HL.out)
          clear hmy hno hpl
          generalize hasOf L (N.map (·.c)) = L' at *
          go_wp2_with fail
          refine CH.out.mono ?_
          rintro e w6 ⟨a6, c6, rfl, hr6, hb6, hw6⟩
          go_wp2
          go_meet
          refine ⟨s5, h5, S5, U5, a6, c6, L', rfl, H5.out.quiet hb6, hr6, HPM.out, fun q hq => ?_⟩
          rcases hw6 q hq with e | e
          · refine ⟨fun e1 => ?_, ?_, ?_⟩
            · have := H5.out.hot.disk.lt q e1; omega
            · have := H5.out.hot.lt; omega
            · have := H5.out.below.size; omega
          · exact HOW5.out q e
        · have CU := Lib.hid (used7_any H5.out.hot)
          go_wp2_with fail
          refine CU.out.mono ?_
          rintro e w6 ⟨ua2, uc2, rfl, _, hb6⟩
          rw [← HUL.out]
          go_wp2
          go_meet
          exact ⟨s5, h5, S5, U5, av, cv, L, rfl, H5.out.quiet hb6, HR5.out.below hb6, HL.out, HOW5.out⟩
      case rest =>
        obtain ⟨s6, h6, S6, U6, a6, c6, L6, rfl, hH6, hR6, hP6, hO6⟩ := hcut
        have H6 := Lib.hid hH6
        have HR6 := Lib.hid hR6
        have HP6 := Lib.hid hP6
        have HO6 := Lib.hid hO6
        have CO := Lib.hid (hs_open H6.out)
        clear hH6 hR6 hP6 hO6 hor H5 HR5 HOW5 H4 HR4 HN4 HOW3 HON HS5 HUL H HR HOW HL HSZ4 hw45
        go_wp2_with fail
        refine CO.out.mono ?_
        rintro e w7 ⟨g7, S7, U7, rfl, hx7, hh7, ho7, hs7, hg7, hu7⟩
        have hR7 : Recs blobC w7 81 4 (.slice a6 L6.length c6) L6 := HR6.out.keep fun q hq => ho7.block q (HR6.out.lt q hq) (HO6.out q hq).1
        have hO7 : ∀ q, (Value.slice a6 L6.length c6).ownBlock = some q → ¬ S7 q ∧ q ≠ g7 ∧ w.heap.size ≤ q := fun q hq => ⟨fun e => by
          rcases hs7 q e with e | e
          · exact (HO6.out q hq).1 e
          · have := HR6.out.lt q hq; omega, fun e => by have := HR6.out.lt q hq; omega, (HO6.out q hq).2.2⟩
        have H7 := Lib.hid hx7
        have HH7 := Lib.hid hh7
        have HR7 := Lib.hid hR7
        have HO7 := Lib.hid hO7
        have CRD := Lib.hid (fun u (hu : Below w7.heap.size w7 u) => reads_any (H7.out.hot.below hu) H7.out.lies.ok a6 c6 L6 (HR7.out.below hu) (has_few H7.out.lies.ok HP6.out) (key_lt H7.out.lies.ok HP6.out))
        rw [reads_lies H7.out.lies HP6.out] at CRD
        have CUX := Lib.hid (fun u (hu : Below w7.heap.size w7 u) => used7_any (H7.out.hot.below hu))
        have CUH := Lib.hid (fun u (hu : Below w7.heap.size w7 u) => used7_any (HH7.out.hot.below hu))
        clear hx7 hh7 ho7 hs7 hg7 hu7 hR7 hO7 CO H6 HR6 HO6
        go_wp2_with fail
        refine (CRD.out w7 (Below.refl _ _)).mono ?_
        rintro e w8 ⟨rfl, hb8⟩
        have HB8 := Lib.hid hb8
        clear hb8 CRD
        go_wp2_with fail
        refine (CUX.out w8 HB8.out).mono ?_
        rintro e w9 ⟨x1, y1, rfl, _, hb9⟩
        have HB9 := Lib.hid (HB8.out.trans (hb9.mono HB8.out.size))
        clear hb9 HB8
        go_wp2_with fail
        refine (CUH.out w9 HB9.out).mono ?_
        rintro e w10 ⟨x2, y2, rfl, _, hb10⟩
        have HB10 := Lib.hid (HB9.out.trans (hb10.mono HB9.out.size))
        clear hb10 HB9
        obtain ⟨ul, hul⟩ : ∃ ul, ul = (usedsL h6.used).length := ⟨_, rfl⟩
        rw [← hul]
        go_wp2_with fail
        refine (CUX.out w10 HB10.out).mono ?_
        rintro e w11 ⟨x3, y3, rfl, ho11, hb11⟩
        have HB11 := Lib.hid (HB10.out.trans (hb11.mono HB10.out.size))
        have hi3 := ints_owned ho11
        clear hb11 HB10 ho11
        rw [← hul] at hi3 ⊢
        have HI3 := Lib.hid hi3
        clear hi3
        go_wp2_with fail
        refine (CUH.out w11 HB11.out).mono ?_
        rintro e w12 ⟨x4, y4, rfl, ho12, hb12⟩
        have HB12 := Lib.hid (HB11.out.trans (hb12.mono HB11.out.size))
        have hi4 := ints_owned ho12
        have HI3 := Lib.hid (CameAt.below HI3.out (by omega) hb12)
        clear hb12 HB11 ho12
        rw [← hul] at hi4 ⊢
        have HI4 := Lib.hid hi4
        have hul4 := hi4.2.1
        have hul3 := HI3.out.2.1
        have hum := hi4.2.2.1
        have hum3 := HI3.out.2.2.1
        unfold maxLen at hum hum3
        clear hi4 CUX CUH hul
        generalize (usedsL h6.used).map Int.ofNat = UL at *
        obtain ⟨w13, hw13⟩ : ∃ x : World, x = w12 := ⟨_, rfl⟩
        rw [← hw13] at HB12 HI3 HI4 ⊢
        clear hw13
        go_wp2
        go_loopw [15] (fun s15 wx => ∃ (k : Nat), s15 = .int .i64 k ∧ k ≤ ul ∧ Below w13.heap.size w13 wx) (fun s15 _ => ul - (intOf s15).toNat)
        case atStart => exact ⟨0, rfl, Nat.zero_le _, Below.refl _ _⟩
        case round =>
          obtain ⟨k, rfl, hk, hbk⟩ := hrel
          have HBK := Lib.hid hbk
          clear hbk
          by_cases hlt : k < ul
          · have hki : (k : Int) < (ul : Int) := by omega
            obtain ⟨b3, o3, rfl, _, hc3⟩ := IntsAt.cell (CameAt.below HI3.out (by omega) HBK.out) (by omega)
            obtain ⟨b4, o4, rfl, _, hc4⟩ := IntsAt.cell (CameAt.below HI4.out (by omega) HBK.out) (by omega)
            have k3 := hc3 k hlt
            have k4 := hc4 k hlt
            generalize UL.getD k 0 = z at *
            clear hc3 hc4
            go_wp2
            go_quiet (fail)
            go_wp2
            exact ⟨⟨k + 1, by go_num, by omega, below_drewN HBK.out _⟩, by simp only [intOf]; omega⟩
          · obtain rfl : k = ul := by omega
            have hki : ¬ (k : Int) < (k : Int) := by omega
            have HBF := Lib.hid (HB12.out.trans (HBK.out.mono HB12.out.size))
            go_wp2
            go_roundw
            case rel => exact ⟨j + 1, g7, S7, U7, s6, h6, a6, c6, L6, by go_num, by omega, rfl, rfl, H7.out.quiet HBF.out, HR7.out.below HBF.out, HP6.out, HO7.out⟩
            case measure => simp only [intOf]; omega
    · have HBF := Lib.hid H.out.below
      clear H HR HL HOW
      by_cases hltn : j < n
      · have hji : (j : Int) < (n : Int) := by omega
        have hji6 : ¬ (j : Int) < (6 : Int) := by omega
        go_wp2_with fail
        refine (CW.out wr).mono ?_
        rintro e w3 ⟨rfl, hb3⟩
        go_wp2
        go_ret
        exact ⟨rfl, HBF.out.trans (hb3.mono HBF.out.size)⟩
      · have hji : ¬ (j : Int) < (n : Int) := by omega
        go_wp2_with fail
        refine (CW.out wr).mono ?_
        rintro e w3 ⟨rfl, hb3⟩
        go_wp2
        go_ret
        exact ⟨rfl, HBF.out.trans (hb3.mono HBF.out.size)⟩
end Go.Proofs.YtjcmphjjkeigjaaGreat

namespace Go.Proofs.YtjcmphjjkeigjaaGreat
open Go.RowKit
set_option linter.unusedVariables false
set_option linter.unusedSimpArgs false
set_option maxRecDepth 100000

theorem usedL_count (F : List Bool) : (usedsL F).length = F.count true := by
  have h : ∀ i, i ≤ F.length → (usedB F i).length = (F.take i).count true := by
    intro i hi
    induction i with
    | zero => simp [usedB]
    | succ i ih =>
      rw [usedB_succ, List.length_append, ih (by omega), List.take_add_one, List.count_append, List.getD]
      congr 1
      rw [List.getElem?_eq_getElem (by omega)]
      cases F[i] <;> rfl
  have := h F.length (Nat.le_refl _)
  rwa [List.take_length] at this
/-- as many pages are used as the blobs and the directory need -/
theorem used_need {h : Ht} (k : HtOk h) {L : List KD} (hL : L.Perm (kdL h)) : (usedsL h.used).length = (L.map fun b => pfor b.2.length).sum + pagesN L.length := by
  rw [usedsL_len k, k.dir, hL.length_eq, (hL.map fun b => pfor b.2.length).sum_nat]
  unfold kdL
  rw [List.map_map, List.length_map]
  show pagesN h.at_.length + (h.at_.map fun s => pfor s.data.length).sum = (h.at_.map fun s => pfor s.data.length).sum + pagesN h.at_.length
  omega

section
variable {w w' : World} {S U T : Nat → Prop} {g gd : Nat} {D : Dk} {h : Ht}
theorem HotAt.only (k : HotAt w S U g gd D h) (ho : Only T w w') (hS : ∀ q, S q → ¬ T q) (hU : ∀ q, U q → ¬ T q) (hg : ¬ T g) : HotAt w' S U g gd D h := by
  obtain ⟨mb, da, dn, dc, ba, bn, bc, M, hgx, hv⟩ := k.ex
  exact ⟨k.disk.only ho hS, ⟨mb, da, dn, dc, ba, bn, bc, M, (ho.block g k.lt hg).trans hgx, hv.only ho hU⟩, k.apart, k.offS, k.offU, k.size⟩
end
theorem HotAt.ult {w : World} {S U : Nat → Prop} {g gd : Nat} {D : Dk} {h : Ht} (k : HotAt w S U g gd D h) : ∀ q, U q → q < w.heap.size := by
  obtain ⟨mb, da, dn, dc, ba, bn, bc, M, hgx, hv⟩ := k.ex
  exact hv.lt
theorem needs_ref (n : Nat) (w : World) (hn : n ≤ 100000) : Calls Tryz.prog 35 #[.int .i64 n] w fun e w' => e = .returned (.int .i64 (pfor n : Nat)) ∧ w' = w := by
  go_enter Tryz.func35, Tryz.ntmps35
  go_wp2
  go_loopw [3] (fun s3 wr => wr = w ∧ ∃ p : Nat, s3 = .int .i64 p ∧ (p = 0 ∨ 126 * (p - 1) < n) ∧ p ≤ 1000) (fun s3 _ => 1001 - (intOf s3).toNat)
  case atStart => exact ⟨rfl, 0, rfl, .inl rfl, by omega⟩
  case round =>
    obtain ⟨rfl, p, rfl, hp, hp2⟩ := hrel
    by_cases hlt : 126 * p < n
    · have hi : (126 : Int) * (p : Int) < (n : Int) := by omega
      go_wp2
      exact ⟨⟨trivial, p + 1, by go_num, by right; omega, by omega⟩, by simp only [intOf]; omega⟩
    · have hi : ¬ (126 : Int) * (p : Int) < (n : Int) := by omega
      have hpp : p = pfor n := by unfold pfor; omega
      go_wp2
      go_ret
      exact ⟨by rw [← hpp]; rfl, rfl⟩

/-! ### octets that are written over -/
structure Mut (W w : World) (T : Nat → Prop) (v : Value) (N : List ChgM) : Prop where
  only : Only T W w
  recs : Recs chgC w 76 3 v N
  rows : ∀ x ∈ N, 0 < x.n → ∃ b cur, x.a = some ⟨b, 0, none⟩ ∧ w.heap[b]? = some (.cells cur 5 (0, 0)) ∧ x.n ≤ cur.size ∧ x.n ≤ x.cap ∧ x.cap ≤ maxLen ∧ T b
section
variable {W w : World} {T : Nat → Prop} {v : Value} {N : List ChgM}
theorem Mut.set (k : Mut W w T v N) (b i : Nat) (cur : Array Value) (hb : w.heap[b]? = some (.cells cur 5 (0, 0))) (hT : T b) (u : Value) : Mut W (w.setCell ⟨b, i, none⟩ u) T v N := by
  have hon : Only (fun q => q = b) w (w.setCell ⟨b, i, none⟩ u) := Only.setCell (S := fun q => q = b) w ⟨b, i, none⟩ _ rfl
  have hnew := heap_setCell_same w b i _ _ u hb
  refine ⟨k.only.trans hon fun q _ e => e ▸ hT, k.recs.keep fun q hq => hon.block q (k.recs.lt q hq) (k.recs.ne_of hb (by decide) q hq), fun x hx hn => ?_⟩
  obtain ⟨b2, cur2, h1, h2, h3, h4, h5, h6⟩ := k.rows x hx hn
  by_cases he : b2 = b
  · subst he
    have : cur2 = cur := by rw [hb] at h2; cases h2; rfl
    subst this
    exact ⟨b2, _, h1, hnew, by simpa using h3, h4, h5, h6⟩
  · exact ⟨b2, cur2, h1, (hon.block b2 (Array.getElem?_eq_some_iff.1 h2).1 he).trans h2, h3, h4, h5, h6⟩
theorem mut_start {B : Nat} (h : ChgsO w B v N) (hT : ∀ x ∈ N, ∀ p, x.a = some p → T p.block) : Mut w w T v N := by
  refine ⟨Only.refl _ _, h.recs, fun x hx hn => ?_⟩
  have ho := h.oct x hx
  have hl := ho.at.1
  obtain ⟨_, _, hown⟩ := ho
  rcases hown.2 with ⟨h0, _⟩ | ⟨g, cap, cur, hv, _, hg, h2, h3, h4, _⟩
  · simp only [Value.slice.injEq] at h0; omega
  · simp only [Value.slice.injEq] at hv
    obtain ⟨ha, hn2, rfl⟩ := hv
    exact ⟨g, cur, ha, hg, by omega, by omega, h3, hT x hx _ ha⟩
end
set_option maxHeartbeats 8000000 in
theorem hotwhole_any (a : Option Addr) (n cap : Nat) (P : List (List ChgM)) (w : World) (hP : GrpsC w a n cap P) : Calls Tryz.prog 5 #[.slice a n cap] w fun e w' => e = .returned (.bool true) ∧ Below w.heap.size w w' := by
  have HP := Lib.hid hP
  have CW := Lib.hid (fun u => awake07 u)
  have hnl := hP.len
  clear hP
  go_enter Tryz.func5, Tryz.ntmps5
  go_wp2_with fail
  refine (new_yes 100 w (by omega) (by omega)).mono ?_
  rintro e w1 ⟨gd, S1, rfl, hd1, hb1, hn1⟩
  have CF := Lib.hid (hs_format (w0 := w) hd1 (by omega) (by omega) hn1 hb1)
  clear hd1 hb1 hn1
  go_wp2_with fail
  refine CF.out.mono ?_
  rintro e w2 ⟨g, S, U, s, rfl, hh⟩
  have H2 := Lib.hid hh
  clear CF hh
  go_wp2
  have hfk : (fmtH 100).at_ = [] := by rfl
  have hlp : ([] : List KD).Perm (kdL (fmtH 100)) := by unfold kdL; rw [hfk]; exact List.Perm.refl _
  have HLP := Lib.hid hlp
  clear hlp hfk
  go_loopw [7, 8] (fun s7 s8 wr => ∃ (j : Nat) (S U : Nat → Prop) (s : List (List UInt8)) (h : Ht) (av : Option Addr) (cv : Nat) (L : List KD), s8 = .int .i64 j ∧ j ≤ n ∧ s7 = .slice av L.length cv ∧ Hs w wr 100 S U g gd s h ∧ Recs blobC wr 81 4 (.slice av L.length cv) L ∧ L.Perm (kdL h) ∧ (∀ q, (Value.slice av L.length cv).ownBlock = some q → ¬ S q ∧ q ≠ g ∧ w.heap.size ≤ q)) (fun _ s8 _ => n - (intOf s8).toNat)
  case atStart => exact ⟨0, S, U, s, fmtH 100, none, 0, [], rfl, Nat.zero_le _, rfl, H2.out, Recs.nil _ _ _ _, HLP.out, fun q hq => by simp [Value.ownBlock] at hq⟩
  case round =>
    clear HLP H2
    obtain ⟨j, S, U, s, h, av, cv, L, rfl, hj, rfl, hH, hR, hL, hown⟩ := hrel
    have H := Lib.hid hH
    have HR := Lib.hid hR
    have HL := Lib.hid hL
    have HOW := Lib.hid hown
    clear hH hR hL hown
    by_cases hlt : j < n ∧ j < 6
    · obtain ⟨hltn, hlt6⟩ := hlt
      have hji : (j : Int) < (n : Int) := by omega
      have hji6 : (j : Int) < (6 : Int) := by omega
      obtain ⟨b, off, rfl, hbl, hcs⟩ := (HP.out.below H.out.below).at [] (by omega)
      obtain ⟨⟨ra, rn, rc⟩, hcell, hE⟩ := hcs j hltn
      dsimp only at hcell hE
      generalize P.getD j [] = M at *
      have CFW := Lib.hid (few7_any ra rn rc M wr hE)
      have hfc : (fewC (M.map (·.c))).length ≤ 12 := by unfold fewC; rw [List.length_map, List.length_take]; omega
      have hcap := HP.out.caps
      have hcm := hcap.2
      unfold maxLen at hcm
      generalize hfe : fewC (M.map (·.c)) = C at *
      clear hcs
      go_wp2_with fail
      refine CFW.out.mono ?_
      rintro e w3 ⟨ca, cc, N, rfl, hNC, hNO, hb3⟩
      have HR3 := Lib.hid (HR.out.below hb3)
      have H3 := Lib.hid (H.out.quiet hb3)
      have HN3 := Lib.hid hNO
      have HNC := Lib.hid hNC
      have hn12 : N.length ≤ 12 := by rw [← hNC, List.length_map] at hfc; exact hfc
      have hcell3 : w3.cell? ⟨b, off + j, none⟩ = some (.slice ra rn rc) := by rw [hb3.cell (by exact hbl)]; exact hcell
      have CFW2 := Lib.hid (few7_any ra rn rc M w3 (hE.below hb3))
      rw [hfe] at CFW2
      have HSZ3 := Lib.hid hb3.size
      have HOW3 := Lib.hid (show ∀ q, w3.heap.size ≤ q → ¬ (q = g ∨ S q) from fun q hq e => by
        have := hb3.size
        rcases e with e | e
        · have := H.out.hot.lt; omega
        · have := H.out.hot.disk.lt q e; omega)
      have HW3 := Lib.hid (show w.heap.size ≤ w3.heap.size by have := H.out.below.size; have := hb3.size; omega)
      have HUW := Lib.hid (show ∀ q, U q → q < w3.heap.size from fun q hq => by have := H.out.hot.ult q hq; have := hb3.size; omega)
      have HOWL := Lib.hid (show ∀ q, (Value.slice av L.length cv).ownBlock = some q → q < w3.heap.size from fun q hq => by have := HR.out.lt q hq; have := hb3.size; omega)
      have HOW3' := Lib.hid (show ∀ q, wr.heap.size ≤ q → ¬ (q = g ∨ S q) from fun q hq e => by
        rcases e with e | e
        · have := H.out.hot.lt; omega
        · have := H.out.hot.disk.lt q e; omega)
      clear hNO hNC hb3 CFW hcell hfc hE
      go_wp2_with fail
      refine CFW2.out.mono ?_
      rintro e w4 ⟨oa, oc, N2, rfl, hNC2, hNO2, hb4⟩
      have HR4 := Lib.hid (HR3.out.below hb4)
      have H4 := Lib.hid (H3.out.quiet hb4)
      have HN4 := Lib.hid (HN3.out.below hb4)
      have hn22 : N2.length = N.length := by have h1 := congrArg List.length hNC2; have h2 := congrArg List.length HNC.out; simp only [List.length_map] at h1 h2; omega
      have CB := Lib.hid (hs_batch H4.out (hNO2.into rfl) (by omega) (by intro c hc; obtain ⟨x, hx, rfl⟩ := List.mem_map.1 hc; exact hNO2.id x hx))
      rw [hNC2, ← HNC.out] at CB
      have HO2 := Lib.hid hNO2
      have HSZ4 := Lib.hid hb4.size
      clear HR3 H3 HN3 hNO2 hb4 CFW2 hcell3 hNC2 HNC H HR
      rw [hn22]
      rw [hn22] at HO2 CB
      generalize N.length = m at *
      go_wp2_with fail
      refine CB.out.mono ?_
      rintro e w5 ⟨r, s5, h5, S5, U5, rfl, hbo, hH5, hon, hs5, hu5, hor⟩
      go_upto_if 60 with (fail)
      have H5 := Lib.hid hH5
      have HON := Lib.hid hon
      have hw45 : w4.heap.size ≤ w5.heap.size := hon.size
      have hw34 := HSZ4.out
      have hR5 : Recs blobC w5 81 4 (.slice av L.length cv) L := HR4.out.keep fun q hq => hon.block q (HR4.out.lt q hq) (by rintro (e | e); exact (HOW.out q hq).2.1 e; exact (HOW.out q hq).1 e)
      have hown5 : ∀ q, (Value.slice av L.length cv).ownBlock = some q → ¬ S5 q ∧ q ≠ g ∧ w.heap.size ≤ q := fun q hq => ⟨fun e => by
        rcases hs5 q e with e | e
        · exact (HOW.out q hq).1 e
        · have := HR4.out.lt q hq; omega, (HOW.out q hq).2⟩
      have hS5 : ∀ q, S5 q → ¬ (w3.heap.size ≤ q ∧ q < w4.heap.size) := fun q hq hh => by
        rcases hs5 q hq with e | e
        · exact HOW3.out q hh.1 (.inr e)
        · omega
      have hU5 : ∀ q, U5 q → ¬ (w3.heap.size ≤ q ∧ q < w4.heap.size) := fun q hq hh => by
        rcases hu5 q hq with e | e
        · have := HUW.out q e; omega
        · omega
      have HR5 := Lib.hid hR5
      have HOW5 := Lib.hid hown5
      have HS5 := Lib.hid hS5
      have HU5 := Lib.hid hU5
      have HGT := Lib.hid (show ¬ (w3.heap.size ≤ g ∧ g < w4.heap.size) from fun hh => HOW3.out g hh.1 (.inl rfl))
      have HO5 := Lib.hid (HO2.out.keepOnly hon HOW3.out)
      have HOT := Lib.hid (show ∀ x ∈ N2, ∀ p, x.a = some p → w3.heap.size ≤ p.block ∧ p.block < w4.heap.size from fun x hx p hp => ⟨HO2.out.octB x hx p.block (by rw [hp]; rfl), (HO2.out.oct x hx).lt p.block (by rw [hp]; rfl)⟩)
      clear CB hbo hH5 hs5 hu5 hR5 hown5 hS5 hU5
      go_cut [7] (fun s7 wx => ∃ (s' : List (List UInt8)) (h' : Ht) (S' U' : Nat → Prop) (a' : Option Addr) (c' : Nat) (L' : List KD), s7 = .slice a' L'.length c' ∧ Hs w wx 100 S' U' g gd s' h' ∧ Recs blobC wx 81 4 (.slice a' L'.length c') L' ∧ L'.Perm (kdL h') ∧ (∀ q, (Value.slice a' L'.length c').ownBlock = some q → (¬ S' q ∧ q ≠ g ∧ w.heap.size ≤ q) ∧ ¬ (w3.heap.size ≤ q ∧ q < w4.heap.size)) ∧ (∀ q, S' q → ¬ (w3.heap.size ≤ q ∧ q < w4.heap.size)) ∧ (∀ q, U' q → ¬ (w3.heap.size ≤ q ∧ q < w4.heap.size)) ∧ ChgsO wx w3.heap.size (.slice oa m oc) N2)
      case first =>
        rcases hor with ⟨rfl, hmy, hno, Pp, qq, hpl⟩ | ⟨hr0, rfl, rfl, _⟩
        · have CH := Lib.hid (hasB_any av cv L ca m cc N w5 HR5.out (has_few H4.out.lies.ok HL.out) ((HN4.out.keepOnly HON.out HOW3'.out).read rfl) hn12)
          have HPM := Lib.hid (has_planned hpl hmy HL.out)
          clear hmy hno hpl hon
          generalize hasOf L (N.map (·.c)) = L' at *
          go_wp2_with fail
          refine CH.out.mono ?_
          rintro e w6 ⟨a6, c6, rfl, hr6, hb6, hw6⟩
          go_wp2
          go_meet
          refine ⟨s5, h5, S5, U5, a6, c6, L', rfl, H5.out.quiet hb6, hr6, HPM.out, fun q hq => ?_, HS5.out, HU5.out, HO5.out.below hb6⟩
          rcases hw6 q hq with e | e
          · refine ⟨⟨fun e1 => ?_, ?_, ?_⟩, fun hh => by omega⟩
            · have := H5.out.hot.disk.lt q e1; omega
            · have := H5.out.hot.lt; omega
            · have := H5.out.below.size; omega
          · exact ⟨HOW5.out q e, fun hh => by have := HOWL.out q e; omega⟩
        · clear hon
          go_wp2
          go_meet
          exact ⟨s5, h5, S5, U5, av, cv, L, rfl, H5.out, HR5.out, HL.out, fun q e => ⟨HOW5.out q e, fun hh => by have := HOWL.out q e; omega⟩, HS5.out, HU5.out, HO5.out⟩
      case rest =>
        obtain ⟨s6, h6, S6, U6, a6, c6, L6, rfl, hH6, hR6, hP6, hO6, hS6, hU6, hM6⟩ := hcut
        have H6 := Lib.hid hH6
        have HR6 := Lib.hid hR6
        have HP6 := Lib.hid hP6
        have HO6 := Lib.hid hO6
        have HS6 := Lib.hid hS6
        have HU6 := Lib.hid hU6
        have hm0 := mut_start (T := fun q => w3.heap.size ≤ q ∧ q < w4.heap.size) hM6 HOT.out
        have HM6 := Lib.hid hm0
        obtain ⟨wm, hwm⟩ : ∃ x : World, x = wc := ⟨_, rfl⟩
        rw [← hwm] at H6 HR6 HM6 ⊢
        clear hH6 hR6 hP6 hO6 hS6 hU6 hM6 hm0 hor hon H5 HR5 HOW5 HS5 HU5 HO5 HOT HON H4 HR4 HN4 HO2 HOW3 HOW3' HOWL HUW HL HOW HSZ3 HSZ4 hw45 hw34 hwm
        have hnm : N2.length = m := hn22
        have HNM := Lib.hid hnm
        have hcam := HM6.out.recs.came
        have hmc := hcam.2.1
        have hmc2 := hcam.2.2.1
        unfold maxLen at hmc2
        clear hcam hnm
        go_wp2
        go_loopw [11] (fun s11 wx => ∃ (k : Nat), s11 = .int .i64 k ∧ k ≤ m ∧ Mut wm wx (fun q => w3.heap.size ≤ q ∧ q < w4.heap.size) (.slice oa m oc) N2) (fun s11 _ => m - (intOf s11).toNat)
        case atStart => exact ⟨0, rfl, Nat.zero_le _, HM6.out⟩
        case round =>
          clear HM6
          obtain ⟨k, rfl, hk, hM⟩ := hrel
          have HM := Lib.hid hM
          clear hM
          by_cases hltk : k < m
          · have hki : (k : Int) < (m : Int) := by omega
            have hxk : N2[k]? = some (N2.getD k default) := by rw [List.getD, List.getElem?_eq_getElem (by rw [HNM.out]; exact hltk)]; rfl
            generalize N2.getD k default = x at *
            have HXK := Lib.hid hxk
            have HXM := Lib.hid (List.mem_of_getElem? hxk)
            clear hxk
            obtain ⟨xch, xa, xn, xc⟩ := x
            go_wp2
            go_loopw [12] (fun s12 wx => ∃ (q : Nat), s12 = .int .i64 q ∧ q ≤ xn ∧ Mut wm wx (fun q => w3.heap.size ≤ q ∧ q < w4.heap.size) (.slice oa m oc) N2) (fun s12 _ => xn - (intOf s12).toNat)
            case atStart => exact ⟨0, rfl, Nat.zero_le _, HM.out⟩
            case round =>
              clear HM
              obtain ⟨q, rfl, hq, hM⟩ := hrel
              have HM := Lib.hid hM
              clear hM
              obtain ⟨bo, oo, rfl, _, hco⟩ := HM.out.recs.came.at (by omega) (by omega)
              have k1 : wr.cell? ⟨bo, oo + k * 3 + 1, none⟩ = some (.slice xa xn xc) := by rw [Nat.add_assoc]; exact hco k 1 _ HXK.out (by omega)
              clear hco
              by_cases hltq : q < xn
              · have hqi : (q : Int) < (xn : Int) := by omega
                obtain ⟨b2, cur, ha, hb2, hcs, hcc, hcm3, hT⟩ := HM.out.rows _ HXM.out (by show 0 < xn; omega)
                dsimp only at ha hcs hcc hcm3
                obtain ⟨u0, y1⟩ : ∃ u0, wr.cell? ⟨b2, q, none⟩ = some u0 := ⟨cur[q]'(by omega), by rw [cell_of_row _ _ _ _ _ _ hb2]; exact Array.getElem?_eq_getElem (by omega)⟩
                have yf : wr.frozen? ⟨b2, q, none⟩ = false := frozen_of_row _ _ _ _ _ hb2
                have HMS := Lib.hid (HM.out.set b2 q cur hb2 hT (.int .u8 99))
                subst ha
                have hxc : ¬ xc = 0 := by omega
                unfold maxLen at hcm3
                clear hb2 HM HXK HXM
                go_wp2
                exact ⟨⟨q + 1, by go_num, by omega, HMS.out⟩, by simp only [intOf]; omega⟩
              · obtain rfl : q = xn := by omega
                have hqi : ¬ (q : Int) < (q : Int) := by omega
                go_wp2
                go_roundw
                case rel => exact ⟨k + 1, by go_num, by omega, HM.out⟩
                case measure => simp only [intOf]; omega
          · obtain rfl : k = m := by omega
            have hki : ¬ (k : Int) < (k : Int) := by omega
            have hH7 : Hs w wr 100 S6 U6 g gd s6 h6 := ⟨H6.out.hot.only HM.out.only HS6.out HU6.out HGT.out, H6.out.lies, H6.out.nS, H6.out.nU, H6.out.nG, H6.out.below.trans (HM.out.only.below H6.out.below.size fun i hi hh => by have := HW3.out; omega)⟩
            have hR7 : Recs blobC wr 81 4 (.slice a6 L6.length c6) L6 := HR6.out.keep fun q hq => HM.out.only.block q (HR6.out.lt q hq) (HO6.out q hq).2
            have H7 := Lib.hid hH7
            have HR7 := Lib.hid hR7
            have HO7 := Lib.hid (show ∀ q, (Value.slice a6 L6.length c6).ownBlock = some q → ¬ S6 q ∧ q ≠ g ∧ w.heap.size ≤ q from fun q hq => (HO6.out q hq).1)
            clear hH7 hR7 H6 HR6 HM HS6 HU6 HGT HO6 HNM
            obtain ⟨w7, hw7⟩ : ∃ x : World, x = wr := ⟨_, rfl⟩
            rw [← hw7] at H7 HR7 ⊢
            clear hw7
            have hln := has_few H7.out.lies.ok HP6.out
            have hneed := used_need H7.out.lies.ok HP6.out
            have hpl : ∀ b ∈ L6, b.2.length ≤ 4032 := fun b hb => by
              have h1 := HP6.out.mem_iff.1 hb
              unfold kdL at h1
              obtain ⟨s, hs, rfl⟩ := List.mem_map.1 h1
              exact (H7.out.lies.ok.each s hs).size
            have HPL := Lib.hid hpl
            have HNEED := Lib.hid hneed
            clear hpl hneed
            go_wp2
            go_loopw [13, 14] (fun s13 s14 wx => ∃ (k : Nat) (nd : Nat), s14 = .int .i64 k ∧ k ≤ L6.length ∧ s13 = .int .i64 nd ∧ nd = ((L6.take k).map fun b => pfor b.2.length).sum ∧ nd ≤ 40 * k ∧ Below w7.heap.size w7 wx) (fun _ s14 _ => L6.length - (intOf s14).toNat)
            case atStart => exact ⟨0, 0, rfl, Nat.zero_le _, rfl, rfl, by omega, Below.refl _ _⟩
            case round =>
              obtain ⟨k, nd, rfl, hk, rfl, hnd, hn40, hbk⟩ := hrel
              have HND := Lib.hid hnd
              have HBK := Lib.hid hbk
              clear hnd hbk
              by_cases hltk : k < L6.length
              · have hki : (k : Int) < (L6.length : Int) := by omega
                obtain ⟨bk, ok, rfl, hbl, hck⟩ := (HR7.out.below HBK.out).came.at (by omega) (by omega)
                have hkg : L6[k]? = some (L6.getD k default) := by rw [List.getD, List.getElem?_eq_getElem hltk]; rfl
                have HLC := (HR7.out.came).2.1
                have HLC2 := (HR7.out.came).2.2.1
                unfold maxLen at HLC2
                generalize L6.getD k default = kb at *
                have k1 : wr.cell? ⟨bk, ok + k * 4 + 1, none⟩ = some (.string ⟨kb.2.toArray⟩) := by rw [Nat.add_assoc]; exact hck k 1 _ hkg (by omega)
                have hle := HPL.out kb (List.mem_of_getElem? hkg)
                have HTS := Lib.hid (show ((L6.take (k + 1)).map fun b => pfor b.2.length).sum = nd + pfor kb.2.length by rw [List.take_add_one, hkg, Option.toList_some, List.map_append, List.sum_append, ← HND.out]; simp)
                have CN := Lib.hid (fun u => needs_ref kb.2.length u (by omega))
                have hpf : pfor kb.2.length ≤ 32 := by unfold pfor; omega
                generalize pfor kb.2.length = pf at *
                clear hck hkg
                go_wp2_with (go_at_call 35; refine (CN.out _).mono ?_; rintro e w9 ⟨rfl, hw9⟩; rw [hw9]; clear hw9)
                go_roundw
                case rel => exact ⟨k + 1, nd + pf, by go_num, by omega, by go_num, HTS.out.symm, by omega, HBK.out⟩
                case measure => simp only [intOf]; omega
              · obtain rfl : k = L6.length := by omega
                have hki : ¬ (L6.length : Int) < (L6.length : Int) := by omega
                have hnd := HND.out
                rw [List.take_length] at hnd
                have HNDF := Lib.hid hnd
                have hql : (L6.length + 6) / 7 ≤ 144 := by omega
                clear hnd
                obtain ⟨q, hq⟩ : ∃ q, q = (L6.length + 6) / 7 := ⟨_, rfl⟩
                have hqe : ((L6.length : Int) + 6) / 7 = (q : Int) := by omega
                have HPN := Lib.hid (show finN (max 1 q, max 1 q) = pagesN L6.length from by rw [hq]; rfl)
                have hq144 : q ≤ 144 := by omega
                have HQE := Lib.hid hqe
                clear hq hqe hql
                go_upto_if 107 with (fail)
                go_cut [15] (fun s15 wx => wx = wr ∧ s15 = .int .i64 ((max 1 q : Nat) : Int))
                case first =>
                  by_cases hq0 : q = 0
                  · have hqi : ((L6.length : Int) + 6) / 7 = 0 := by rw [HQE.out, hq0]; rfl
                    go_wp2
                    go_meet
                    exact ⟨rfl, by rw [hq0]; rfl⟩
                  · have hqi : ¬ ((L6.length : Int) + 6) / 7 = 0 := by rw [HQE.out]; omega
                    go_wp2
                    go_meet
                    exact ⟨rfl, by rw [HQE.out, Nat.max_eq_right (by omega)]⟩
                case rest =>
                  obtain ⟨hwc, rfl⟩ := hcut
                  rw [hwc]
                  clear hwc
                  obtain ⟨r, hr⟩ : ∃ r, r = max 1 q := ⟨_, rfl⟩
                  rw [← hr] at HPN ⊢
                  have hr1 : 1 ≤ r := by omega
                  have hr2 : r ≤ 144 := by omega
                  clear hr
                  go_wp2
                  go_loopw [13, 15] (fun s13 s15 wx => ∃ (lv al : Nat), s15 = .int .i64 lv ∧ s13 = .int .i64 ((nd + al : Nat) : Int) ∧ 1 ≤ lv ∧ lv ≤ 144 ∧ al + 2 * lv ≤ 500 ∧ finN (al, lv) = pagesN L6.length ∧ Below w7.heap.size w7 wx) (fun _ s15 _ => (intOf s15).toNat)
                  case atStart => exact ⟨r, r, rfl, by go_num, hr1, hr2, by omega, HPN.out, HBK.out⟩
                  case round =>
                    clear HBK
                    obtain ⟨lv, al, rfl, rfl, hl1, hl144, hal, hf, hbk⟩ := hrel
                    have HF := Lib.hid hf
                    have HBK := Lib.hid hbk
                    clear hbk hf
                    by_cases hlt : 1 < lv
                    · have hli : (1 : Int) < (lv : Int) := by omega
                      have HFS := Lib.hid (show finN (al + (lv + 11) / 12, (lv + 11) / 12) = pagesN L6.length from by rw [← HF.out]; exact (finN_step (al, lv) hlt).symm)
                      have hq2 : (lv + 11) / 12 < lv := by omega
                      have hq3 : 1 ≤ (lv + 11) / 12 := by omega
                      have hq4 : 3 * ((lv + 11) / 12) ≤ 2 * lv := by omega
                      have hqe : ((lv : Int) + 11) / 12 = (((lv + 11) / 12 : Nat) : Int) := by omega
                      generalize (lv + 11) / 12 = q2 at *
                      go_wp2
                      exact ⟨⟨q2, al + q2, by first | rfl | rw [hqe], by go_num, by omega, by omega, by omega, HFS.out, HBK.out⟩, by simp only [intOf]; omega⟩
                    · have hli : ¬ (1 : Int) < (lv : Int) := by omega
                      have hfs := finN_done (al, lv) (by simp only []; omega)
                      rw [HF.out] at hfs
                      dsimp only at hfs
                      have HNF := Lib.hid (show nd + al = (usedsL h6.used).length by rw [HNEED.out, HNDF.out, hfs])
                      have H8 := Lib.hid (H7.out.quiet HBK.out)
                      have HR8 := Lib.hid (HR7.out.below HBK.out)
                      have CU := Lib.hid (fun u (hu : Below wr.heap.size wr u) => used7_any (H8.out.hot.below hu))
                      have CFR := Lib.hid (fun u (hu : Below wr.heap.size wr u) => free7_any (H8.out.hot.below hu))
                      have CT := Lib.hid (fun u (hu : Below wr.heap.size wr u) => total_any (H8.out.hot.below hu))
                      have CRD := Lib.hid (fun u (hu : Below wr.heap.size wr u) => reads_any (H8.out.hot.below hu) H8.out.lies.ok a6 c6 L6 (HR8.out.below hu) (has_few H8.out.lies.ok HP6.out) (key_lt H8.out.lies.ok HP6.out))
                      rw [reads_lies H8.out.lies HP6.out] at CRD
                      have huc := usedL_count h6.used
                      rw [← huc] at CFR
                      rw [← HNF.out] at CFR
                      have hut : nd + al ≤ h6.used.length := by rw [HNF.out, huc]; exact List.count_le_length
                      have hfl := H8.out.lies.len
                      have hlow := H8.out.lies.low
                      clear huc hfs H7 HR7
                      generalize h6.used.length = ut at *
                      go_wp2_with fail
                      refine (CU.out wr (Below.refl _ _)).mono ?_
                      rintro e w8 ⟨x1, y1, rfl, _, hb8⟩
                      have HB8 := Lib.hid hb8
                      rw [← HNF.out]
                      clear hb8
                      go_wp2_with fail
                      refine (CFR.out w8 HB8.out).mono ?_
                      rintro e w9 ⟨rfl, hb9⟩
                      have HB9 := Lib.hid (HB8.out.trans (hb9.mono HB8.out.size))
                      clear hb9 HB8
                      go_wp2_with fail
                      refine (CT.out w9 HB9.out).mono ?_
                      rintro e w10 ⟨rfl, hw10⟩
                      rw [hw10]
                      clear hw10
                      have hsub : ((ut - (nd + al) : Nat) : Int) = (ut : Int) - ((nd : Int) + (al : Int)) := by omega
                      go_wp2_with fail
                      refine (CRD.out w9 HB9.out).mono ?_
                      rintro e w10 ⟨rfl, hb10⟩
                      have HB10 := Lib.hid (HB9.out.trans (hb10.mono HB9.out.size))
                      clear hb10 HB9
                      go_wp2
                      go_roundw
                      case rel => exact ⟨j + 1, S6, U6, s6, h6, a6, c6, L6, by go_num, by omega, rfl, H8.out.quiet HB10.out, HR8.out.below HB10.out, HP6.out, HO7.out⟩
                      case measure => simp only [intOf]; omega
    · have HBF := Lib.hid H.out.below
      clear H HR HL HOW
      by_cases hltn : j < n
      · have hji : (j : Int) < (n : Int) := by omega
        have hji6 : ¬ (j : Int) < (6 : Int) := by omega
        go_wp2_with fail
        refine (CW.out wr).mono ?_
        rintro e w3 ⟨rfl, hb3⟩
        go_wp2
        go_ret
        exact ⟨rfl, HBF.out.trans (hb3.mono HBF.out.size)⟩
      · have hji : ¬ (j : Int) < (n : Int) := by omega
        go_wp2_with fail
        refine (CW.out wr).mono ?_
        rintro e w3 ⟨rfl, hb3⟩
        go_wp2
        go_ret
        exact ⟨rfl, HBF.out.trans (hb3.mono HBF.out.size)⟩
end Go.Proofs.YtjcmphjjkeigjaaGreat
