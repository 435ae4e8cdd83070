/-
  run: steps by their order, up to the first that fails.
-/
import Derived.Test.YtinfgfgmijjhjaaJnA
namespace Go.Proofs.Ytinfgfgmijjhjaa
open Go.RowKit
set_option linter.unusedVariables false
set_option linter.unusedSimpArgs false

theorem enterFlush (args : Array Value) (u : World) : (callFunc 28 args).run Try.prog u = .ok (.enter 28 args) u := by
  simp [callFunc, Try.func28, Try.f28, go_sem]
theorem enterWrite (args : Array Value) (u : World) : (callFunc 75 args).run Try.prog u = .ok (.enter 75 args) u := by
  simp [callFunc, Try.func75, Try.f75, go_sem]

def oneC (v : Value) : List Value := [v]

/-- steps in a slice -/
structure StepsIn (w : World) (U : Nat → Prop) (g : Nat) (a : Option Addr) (n cap : Nat) (ts : List Stp) : Prop where
  len : ts.length = n
  lt : ∀ k, U k → k < w.heap.size
  ex : ∃ vs : List Value, CameAt oneC 1 w a n cap vs ∧ (∀ p, a = some p → U p.block) ∧ ∀ k, k < n → StepIs w U g (vs.getD k undef) (ts.getD k .flush)

theorem StepsIn.keep {w w' : World} {U : Nat → Prop} {g : Nat} {a : Option Addr} {n cap : Nat} {ts : List Stp} (h : StepsIn w U g a n cap ts) (hs : w.heap.size ≤ w'.heap.size) (hk : ∀ k, U k → w'.heap[k]? = w.heap[k]?) : StepsIn w' U g a n cap ts := by
  obtain ⟨h1, h2, vs, h3, h4, h5⟩ := h
  exact ⟨h1, fun k hU => Nat.lt_of_lt_of_le (h2 k hU) hs, vs, h3.keep (by omega) fun p hp _ _ => hk _ (h4 p hp), h4, fun k hkn => (h5 k hkn).keep hs hk⟩
theorem StepsIn.at {w : World} {U : Nat → Prop} {g : Nat} {a : Option Addr} {n cap : Nat} {ts : List Stp} (h : StepsIn w U g a n cap ts) (hn : 0 < n) :
    ∃ b off, a = some ⟨b, off, none⟩ ∧ ∀ k, k < n → ∃ v, w.cell? ⟨b, off + k, none⟩ = some v ∧ StepIs w U g v (ts.getD k .flush) := by
  obtain ⟨h1, h2, vs, h3, h4, h5⟩ := h
  obtain ⟨b, off, rfl, hb, hc⟩ := h3.at hn (by omega)
  refine ⟨b, off, rfl, fun k hk => ⟨vs.getD k undef, ?_, h5 k hk⟩⟩
  have hx : vs[k]? = some (vs.getD k undef) := by rw [List.getD, List.getElem?_eq_getElem (by rw [h3.1]; exact hk)]; rfl
  have := hc k 0 _ hx (by omega)
  simpa [oneC] using this

theorem stp_drop (ts : List Stp) (k : Nat) (hk : k < ts.length) : ts.drop k = ts.getD k .flush :: ts.drop (k + 1) := by
  rw [List.drop_eq_getElem_cons hk]
  congr 1
  rw [List.getD, List.getElem?_eq_getElem hk]; rfl

set_option maxHeartbeats 1000000 in
set_option maxRecDepth 100000 in
theorem run_any (g : Nat) (D : Dk) (S U : Nat → Prop) (a : Option Addr) (n cap : Nat) (ts : List Stp) (w : World) (h : DiskAt w S g D) (hU : ∀ k, U k → ¬ S k) (hp : StepsIn w U g a n cap ts) (hn : n ≤ 1000) (hf : D.waits.length + costs ts ≤ 1073741824) :
    Calls Try.prog 44 #[.slice a n cap] w (DiskTo (.int .i64 (plays ts D).1) S g (plays ts D).2 w) := by
  have HP := Lib.hid hp
  have HU := Lib.hid hU
  have HW := Lib.hid h
  have HL := Lib.hid hp.len
  have enF := enterFlush
  have enW := enterWrite
  clear hp hU h
  go_enter Try.func44, Try.ntmps44
  go_wp2
  go_loopw [8] (fun i wr => ∃ (k : Nat) (D' : Dk) (S' : Nat → Prop), k ≤ n ∧ i = .int .i64 k ∧ DiskAt wr S' g D' ∧ Only S w wr ∧ (∀ j, S' j → S j ∨ w.heap.size ≤ j) ∧ plays ts D = plays (ts.drop k) D' ∧ D'.waits.length + costs (ts.drop k) ≤ 1073741824) (fun i _ => n - (intOf i).toNat)
  case atStart => exact ⟨0, D, S, Nat.zero_le _, rfl, HW.out, Only.refl _ _, fun j hj => .inl hj, rfl, hf⟩
  case round =>
    obtain ⟨k, D', S', hk, rfl, hd', ho, hs, he, hw'⟩ := hrel
    have HD' := Lib.hid hd'
    have HO := Lib.hid ho
    have HS := Lib.hid hs
    have HPr := Lib.hid (HP.out.keep ho.size fun k hk => ho.block k (HP.out.lt k hk) (HU.out k hk))
    have HUS := Lib.hid (fun j hj hS => (hs j hS).elim (fun h => HU.out j hj h) (fun h => by have := HP.out.lt j hj; omega) : ∀ j, U j → ¬ S' j)
    by_cases hlt : k < n
    · obtain ⟨b, off, rfl, hcell⟩ := HPr.out.at (by omega)
      obtain ⟨v, cv, hst⟩ := hcell k hlt
      have hdr := stp_drop ts k (by rw [HL.out]; exact hlt)
      rw [hdr] at he hw'
      rw [costs_cons] at hw'
      generalize ts.getD k .flush = s at *
      have hki : (k : Int) < (n : Int) := by omega
      have hpl := play_waits s D'
      have CW := Lib.hid (show ∃ F fs cs, v = .func (.func F) fs cs ∧ (∀ args u, (callFunc F args).run Try.prog u = .ok (.enter F args) u) ∧ Calls Try.prog F (fs ++ #[] ++ cs) wr (DiskTo (.int .i64 (s.play D').1) S' g (s.play D').2 wr) by
        cases s with
        | flush =>
          obtain rfl := hst
          exact ⟨_, _, _, rfl, enF, by simpa [Stp.play] using flush_all g D' S' wr HD'.out⟩
        | write L =>
          obtain ⟨bl, bd, a1, n1, c1, M, rfl, h2, h3, h4, h5, h6, rfl⟩ := hst
          exact ⟨_, _, _, rfl, enW, by simpa [Stp.play] using wr1_any g D' S' U bl bd a1 n1 c1 M wr HD'.out HUS.out h2 h3 h4 h5 h6 (by simp only [Stp.cost, List.length_map, h6.mlen] at hw'; omega)⟩)
      have he2 : ∀ r : Int × Dk, s.play D' = r → plays ts D = if r.1 = 0 then plays (ts.drop (k + 1)) r.2 else r := fun r hr => by rw [he]; simp only [plays, hr]
      obtain ⟨F, fs, cs, hv, hE, CC⟩ := CW.out
      subst hv
      have CC := Lib.hid CC
      clear hd' ho hs he hcell hst hdr CW enF enW
      generalize s.play D' = r at *
      obtain ⟨r1, r2⟩ := r
      have he2 := he2 _ rfl
      dsimp only at he2 hpl CC
      have HE := Lib.hid he2
      clear he2
      by_cases h0 : r1 = 0
      · subst h0
        have HE2 := Lib.hid (by simpa using HE.out : plays ts D = plays (ts.drop (k + 1)) r2)
        go_wp2_with fail
        refine (CC.out).mono ?_
        rintro e w2 ⟨rfl, S2, hd2, ho2, hs2⟩
        have HD2 := Lib.hid hd2
        have HO2 := Lib.hid (HO.out.trans ho2 (fun i hi h => (HS.out i h).resolve_right (by omega)))
        have HS2 := Lib.hid (fun j hj => (hs2 j hj).elim (fun h => HS.out j h) (fun h => Or.inr (by have := HO.out.size; omega)) : ∀ j, S2 j → S j ∨ w.heap.size ≤ j)
        clear hd2 ho2 hs2
        go_wp2
        go_roundw
        case rel => exact ⟨k + 1, r2, S2, by omega, by go_num, HD2.out, HO2.out, HS2.out, HE2.out, by omega⟩
        case measure => simp [intOf]; omega
      · have HE2 := Lib.hid (by simpa [h0] using HE.out : plays ts D = (r1, r2))
        have hb0 : (r1 == 0) = false := by simpa using h0
        have hb1 : (r1 != 0) = true := by simpa using h0
        clear h0
        go_wp2_with fail
        refine (CC.out).mono ?_
        rintro e w2 ⟨rfl, S2, hd2, ho2, hs2⟩
        have HD2 := Lib.hid hd2
        have HO2 := Lib.hid (HO.out.trans ho2 (fun i hi h => (HS.out i h).resolve_right (by omega)))
        have HS2 := Lib.hid (fun j hj => (hs2 j hj).elim (fun h => HS.out j h) (fun h => Or.inr (by have := HO.out.size; omega)) : ∀ j, S2 j → S j ∨ w.heap.size ≤ j)
        clear hd2 ho2 hs2
        go_wp2
        go_ret
        rw [HE2.out]
        exact ⟨rfl, S2, HD2.out, HO2.out, HS2.out⟩
    · obtain rfl : k = n := by omega
      have he := he
      rw [List.drop_of_length_le (by rw [HL.out]; omega)] at he
      have HE2 := Lib.hid he
      clear he hd' ho hs hw'
      go_wp2
      go_ret
      rw [HE2.out]
      exact ⟨rfl, S', HD'.out, HO.out, HS.out⟩

end Go.Proofs.Ytinfgfgmijjhjaa
