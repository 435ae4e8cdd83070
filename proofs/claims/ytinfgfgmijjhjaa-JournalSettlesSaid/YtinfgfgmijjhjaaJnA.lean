/-
  Contracts of package journal: numbers, heads' puts, steps that write, run.
-/
import Derived.Test.YtinfgfgmijjhjaaJnRep
import Derived.Test.YtinfgfgmijjhjaaOctCon
import Derived.Test.YtinfgfgmijjhjaaDiskF
namespace Go.Proofs.Ytinfgfgmijjhjaa
open Go.RowKit
set_option linter.unusedVariables false
set_option linter.unusedSimpArgs false

theorem number_ok (v wd : Nat) (w : World) (h1 : 1 ≤ wd) (h2 : wd ≤ 8) (hv : v < 256 ^ wd) :
    Calls Try.prog 69 #[.int .u64 v, .int .i64 wd] w (FreshB id wd (leB wd v) w) := by
  have CP := Lib.hid (put_ok v wd w h1 h2 hv)
  clear hv
  go_enter Try.func69, Try.ntmps69
  go_wp2_with (go_at_call 81; refine (CP.out).mono ?_; rintro e w1 ⟨a, cap, rfl, ho, hb⟩)
  go_ret
  exact ⟨a, cap, rfl, ho, hb⟩

theorem equal_any (a : Option Addr) (n cap : Nat) (l : List UInt8) (a' : Option Addr) (n' cap' : Nat) (l' : List UInt8) (w : World) (h : BytesAt w a n cap l) (h' : BytesAt w a' n' cap' l') :
    Calls Try.prog 51 #[.slice a n cap, .slice a' n' cap'] w fun e w' => e = .returned (.bool (l == l')) ∧ w = w' := by
  have c1 := h.conv
  have c2 := h'.conv
  clear h h'
  go_enter Try.func51, Try.ntmps51
  go_wp2
  go_ret
  exact ⟨rfl, rfl⟩

theorem home_yes (g : Nat) (D : Dk) (S : Nat → Prop) (w : World) (h : DiskAt w S g D) (hs : 41 < D.secs.length) :
    Calls Try.prog 49 #[.pointer (some ⟨g, 0, none⟩)] w fun e w' => e = .returned (.bool true) ∧ w = w' := by
  have CS := Lib.hid (size_any g D S w h)
  have hi : (41 : Int) < (D.secs.length : Int) := by omega
  clear h hs
  go_enter Try.func49, Try.ntmps49
  go_wp2_with (go_at_call 43; refine (CS.out).mono ?_; rintro e w1 ⟨rfl, rfl⟩)
  go_ret
  exact ⟨rfl, rfl⟩
theorem home_no (g : Nat) (D : Dk) (S : Nat → Prop) (w : World) (h : DiskAt w S g D) (hs : ¬ 41 < D.secs.length) :
    Calls Try.prog 49 #[.pointer (some ⟨g, 0, none⟩)] w fun e w' => e = .returned (.bool false) ∧ w = w' := by
  have CS := Lib.hid (size_any g D S w h)
  have hi : decide ((41 : Int) < (D.secs.length : Int)) = false := by simp; omega
  clear h hs
  go_enter Try.func49, Try.ntmps49
  go_wp2_with (go_at_call 43; refine (CS.out).mono ?_; rintro e w1 ⟨rfl, rfl⟩)
  go_ret
  exact ⟨rfl, rfl⟩

/-- a step that writes -/
def WriteTo (g : Nat) (a : Option Addr) (n cap : Nat) (w : World) (e : Ending) (w' : World) : Prop :=
  ∃ bl bd, e = .returned (.func (.func 75) #[] #[.pointer (some ⟨bl, 0, none⟩), .pointer (some ⟨bd, 0, none⟩)]) ∧
    w'.heap[bl]? = some (.cells #[.slice a n cap] 22 (0, 0)) ∧ w'.heap[bd]? = some (.cells #[.pointer (some ⟨g, 0, none⟩)] 33 (0, 0)) ∧
    Below w.heap.size w w' ∧ w.heap.size ≤ bl ∧ bl < w'.heap.size ∧ w.heap.size ≤ bd ∧ bd < w'.heap.size
theorem write_step (g : Nat) (a : Option Addr) (n cap : Nat) (w : World) :
    Calls Try.prog 45 #[.pointer (some ⟨g, 0, none⟩), .slice a n cap] w (WriteTo g a n cap w) := by
  go_enter Try.func45, Try.ntmps45
  go_wp2
  go_ret
  refine ⟨_, _, rfl, heap_alloc2_new _ _ _, heap_alloc2_old _ _ _, ((Below.refl _ _).alloc (Nat.le_refl _) _).alloc (by simp) _, ?_, ?_, Nat.le_refl _, ?_⟩
  all_goals (simp; try omega)

theorem infoPut : (Try.prog.info? 69).map (fun i => (i.zero, i.size, i.bytes)) = some (some (.agg #[.int .i64 0, .slice none 0 0]), 2, 32) := by kernel_rfl
theorem sizePut : (Try.prog.info? 69).map (·.size) = some 2 := by kernel_rfl

/-- a put by value -/
def putV (i : Int) (a : Option Addr) (n cap : Nat) : Array Value := #[.int .i64 i, .slice a n cap]
theorem putV_one (i : Int) (a : Option Addr) (n cap : Nat) : (putV i a n cap).all (·.oneCell') = true := by simp [putV, Value.oneCell']

theorem head_any (a : Option Addr) (n cap : Nat) (w : World) :
    Calls Try.prog 47 #[.slice a n cap] w fun e w' => e = .returned (.agg (putV 0 a n cap)) ∧ Below w.heap.size w w' := by
  go_enter Try.func47, Try.ntmps47
  go_wp2
  exact bodyPost_ret (v := .agg (putV 0 a n cap)) (by simp [results, Try.results47, go_sem, putV]) rfl ⟨rfl, (Below.refl _ _).alloc (Nat.le_refl _) _⟩

/-- a put of noughts, in new memory -/
def EmptyTo (w : World) (e : Ending) (w' : World) : Prop :=
  ∃ b, e = .returned (.agg (putV 0 (some ⟨b, 0, none⟩) 128 128)) ∧ BytesAt w' (some ⟨b, 0, none⟩) 128 128 (sec 0) ∧ Below w.heap.size w w' ∧ w.heap.size ≤ b ∧ b < w'.heap.size
theorem empty_any (w : World) : Calls Try.prog 48 #[] w (EmptyTo w) := by
  obtain ⟨i0, hi, hz0, hz1, hz2⟩ := info_parts infoU8
  have hmk : ∀ u, (Instr.makeSlice 24 (.int .i64 128) (.int .i64 128)).run Try.prog u = .ok (.slice (some ⟨u.heap.size, 0, none⟩) 128 128) (u.alloc (.cells (madeCells #[.int .u8 0] 128) 5)) := fun u => by
    have := run_make u 24 5 i0 _ Try.underlying24 hi hz0 .i64 .i64 128 128 (by omega) (by omega) (by rw [hz2]; omega) (by omega)
    rw [hz1] at this
    simpa [Value.cells] using this
  have hl : (madeCells #[.int .u8 0] 128).toList = vals (sec 0) := by
    rw [toList_madeCells_one]
    unfold sec vals
    rw [List.map_replicate]; rfl
  have HL := Lib.hid hl
  clear hl hi hz0 hz1 hz2
  generalize madeCells #[.int .u8 0] 128 = C at *
  go_enter Try.func48, Try.ntmps48
  go_wp2_with fail
  refine (head_any _ _ _ _).mono ?_
  rintro e w1 ⟨rfl, hb1⟩
  have t1 := (hb1.block w.heap.size (by simp only [World.size_alloc]; omega)).trans (heap_alloc2_old w _ _)
  have t2 := (hb1.block (w.heap.size + 1) (by simp only [World.size_alloc]; omega)).trans (heap_alloc2_new w _ _)
  have hsz := hb1.size
  simp only [World.size_alloc] at hsz
  have T2 := Lib.hid t2
  have HSZ := Lib.hid hsz
  have HB := Lib.hid ((((Below.refl w.heap.size w).alloc (Nat.le_refl _) _).alloc (by simp) _).trans (hb1.mono (by simp; omega)))
  clear t2 hsz hb1
  go_wp2_with (refine wpList_store_row rfl _ _ _ rfl w.heap.size (putV 0 (some ⟨w.heap.size + 1, 0, none⟩) 128 128) rfl rfl 69 _ t1 sizePut rfl (putV_one _ _ _ _) ?_)
  refine bodyPost_ret (v := .agg (putV 0 (some ⟨w.heap.size + 1, 0, none⟩) 128 128)) (results_cell_row rfl _ _ w.heap.size 69 (putV 0 (some ⟨w.heap.size + 1, 0, none⟩) 128 128) (0, 0) _ rfl (heap_setRow_same _ _ _ _ _ t1) Try.underlying69 rfl sizePut) rfl ⟨w.heap.size + 1, rfl, ?_, below_setRow HB.out (Nat.le_refl _) _, by omega, by rw [size_setRow]; have := HSZ.out; omega⟩
  refine BytesAt.of_cells (sec_length 0) (Nat.le_refl _) (by unfold maxLen; omega) fun i hi => ?_
  rw [Nat.zero_add, cell_of_row _ _ i _ _ _ ((heap_setRow_other _ _ _ _ (by omega)).trans T2.out), ← Array.getElem?_toList, HL.out, vals_at _ _ (by rw [sec_length]; exact hi)]

/-! ### a step that writes puts, by their order -/
set_option maxHeartbeats 1000000 in
set_option maxRecDepth 100000 in
theorem wr1_any (g : Nat) (D : Dk) (S U : Nat → Prop) (bl bd : Nat) (a : Option Addr) (n cap : Nat) (M : List PutM) (w : World) (h : DiskAt w S g D) (hU : ∀ k, U k → ¬ S k) (hl : U bl) (hd : U bd)
    (hbl : w.heap[bl]? = some (.cells #[.slice a n cap] 22 (0, 0))) (hbd : w.heap[bd]? = some (.cells #[.pointer (some ⟨g, 0, none⟩)] 33 (0, 0))) (hp : PutsIn w U a n cap M) (hf : D.waits.length + n ≤ 1073741824) :
    Calls Try.prog 75 #[.pointer (some ⟨bl, 0, none⟩), .pointer (some ⟨bd, 0, none⟩)] w (DiskTo (.int .i64 (wrsOf D (M.map PutM.pt)).1) S g (wrsOf D (M.map PutM.pt)).2 w) := by
  have hn := hp.len
  have HP := Lib.hid hp
  have HU := Lib.hid hU
  have HW := Lib.hid h
  have HBD := Lib.hid hbd
  have cl : w.cell? ⟨bl, 0, none⟩ = some (.slice a n cap) := by rw [cell_of_row _ _ _ _ _ _ hbl]; rfl
  clear hp hU h hbl hbd
  go_enter Try.func75, Try.ntmps75
  go_wp2
  go_loopw [8] (fun i wr => ∃ (k : Nat) (D' : Dk) (S' : Nat → Prop), k ≤ n ∧ i = .int .i64 k ∧ DiskAt wr S' g D' ∧ Only S w wr ∧ (∀ j, S' j → S j ∨ w.heap.size ≤ j) ∧ wrsOf D (M.map PutM.pt) = wrsOf D' ((M.map PutM.pt).drop k) ∧ D'.waits.length ≤ D.waits.length + k) (fun i _ => n - (intOf i).toNat)
  case atStart => exact ⟨0, D, S, Nat.zero_le _, rfl, HW.out, Only.refl _ _, fun j hj => .inl hj, rfl, Nat.le_refl _⟩
  case round =>
    obtain ⟨k, D', S', hk, rfl, hd', ho, hs, he, hw'⟩ := hrel
    have HD' := Lib.hid hd'
    have HO := Lib.hid ho
    have HS := Lib.hid hs
    have HE := Lib.hid he
    have HPr := Lib.hid (HP.out.only ho HU.out)
    clear hd' ho hs he
    by_cases hlt : k < n
    · obtain ⟨b, off, rfl, hUb, hcell⟩ := HPr.out.at (by omega)
      obtain ⟨_, _, hr⟩ := hcell k hlt
      have HR := Lib.hid hr
      have cd : wr.cell? ⟨bd, 0, none⟩ = some (.pointer (some ⟨g, 0, none⟩)) := by
        rw [cell_of_row _ _ _ _ _ _ ((HO.out.block bd (HP.out.lt bd hd) (HU.out bd hd)).trans HBD.out)]; rfl
      have hbdl : bd < wr.heap.size := HPr.out.lt bd hd
      have HB := Lib.hid (HPr.out.bytes _ (HPr.out.mem k hlt))
      have hki : (k : Int) < (n : Int) := by omega
      have HDR := Lib.hid (pts_drop M k (by rw [HP.out.mlen]; exact hlt))
      have HIN := Lib.hid (HPr.out.inB _ (HPr.out.mem k hlt))
      clear hcell hr
      generalize M.getD k default = x at *
      obtain ⟨xi, xa, xn, xc, xb⟩ := x
      dsimp only [PutM.pt] at HB HDR HIN
      have hxn := HB.out.1
      subst hxn
      have hst : ∀ r : Int × Dk, wrOf D' xi xb.length xb = r → wrsOf D (M.map PutM.pt) = if r.1 = 0 then wrsOf r.2 ((M.map PutM.pt).drop (k + 1)) else r := fun r hr => by rw [HE.out, HDR.out]; simp only [wrsOf, hr]
      have hrl := wrOf_waits D' xi xb.length xb
      have CW := Lib.hid (fun u (hb : Below wr.heap.size wr u) => write_all g xi D' S' xa xb.length xc xb u (HD'.out.below hb) (HB.out.below hb) (by omega) (fun p hp hS => by
        have hUp := HIN.out p hp
        rcases HS.out _ hS with h1 | h1
        · exact HU.out _ hUp h1
        · have := HP.out.lt _ hUp; omega))
      generalize wrOf D' xi xb.length xb = r at *
      obtain ⟨r1, r2⟩ := r
      have hst := hst _ rfl
      dsimp only at hst CW hrl
      have HST := Lib.hid hst
      clear hst
      go_upto_region 4 with (refine wpList_load_mid rfl 69 _ rfl b (off + k * 2) rfl [.int .i64 xi, .slice xa xb.length xc] _ HR.out Try.underlying69 rfl sizePut ?_)
      by_cases h0 : r1 = 0
      · subst h0
        have HST2 := Lib.hid (by simpa using HST.out : wrsOf D (M.map PutM.pt) = wrsOf r2 ((M.map PutM.pt).drop (k + 1)))
        go_wp2_with fail
        refine (CW.out _ ((Below.refl _ _).alloc (Nat.le_refl _) _)).mono ?_
        rintro e w2 ⟨rfl, S2, hd2, ho2, hs2⟩
        have HD2 := Lib.hid hd2
        have HO2 := Lib.hid (HO.out.trans ((Only.alloc (S := S') _ _).trans ho2 (fun _ _ h => h)) (fun i hi h => (HS.out i h).resolve_right (by omega)))
        have HS2 := Lib.hid (fun j hj => (hs2 j hj).elim (fun h => HS.out j h) (fun h => Or.inr (by have := HO.out.size; simp at h; omega)) : ∀ j, S2 j → S j ∨ w.heap.size ≤ j)
        clear hd2 ho2 hs2
        go_wp2
        go_roundw
        case rel => exact ⟨k + 1, r2, S2, by omega, by go_num, HD2.out, HO2.out, HS2.out, HST2.out, by omega⟩
        case measure => simp [intOf]; omega
      · have hst2 := HST.out
        rw [if_neg h0] at hst2
        have HST2 := Lib.hid hst2
        have hb0 : (r1 == 0) = false := by simpa using h0
        have hb1 : (r1 != 0) = true := by simpa using h0
        clear h0
        go_wp2_with fail
        refine (CW.out _ ((Below.refl _ _).alloc (Nat.le_refl _) _)).mono ?_
        rintro e w2 ⟨rfl, S2, hd2, ho2, hs2⟩
        have HD2 := Lib.hid hd2
        have HO2 := Lib.hid (HO.out.trans ((Only.alloc (S := S') _ _).trans ho2 (fun _ _ h => h)) (fun i hi h => (HS.out i h).resolve_right (by omega)))
        have HS2 := Lib.hid (fun j hj => (hs2 j hj).elim (fun h => HS.out j h) (fun h => Or.inr (by have := HO.out.size; simp at h; omega)) : ∀ j, S2 j → S j ∨ w.heap.size ≤ j)
        clear hd2 ho2 hs2
        go_wp2
        go_ret
        rw [HST2.out]
        exact ⟨rfl, S2, HD2.out, HO2.out, HS2.out⟩
    · obtain rfl : k = n := by omega
      have he := HE.out
      rw [List.drop_of_length_le (by rw [List.length_map, HP.out.mlen]; omega)] at he
      have HE2 := Lib.hid he
      clear he
      go_wp2
      go_ret
      rw [HE2.out]
      exact ⟨rfl, S', HD'.out, HO.out, HS.out⟩

end Go.Proofs.Ytinfgfgmijjhjaa
