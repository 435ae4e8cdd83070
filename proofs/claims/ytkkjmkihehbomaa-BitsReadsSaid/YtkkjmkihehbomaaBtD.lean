/-
  Contracts of package bits: Octets of a Writer.
-/
import Derived.Test.YtkkjmkihehbomaaBtC
namespace Go.Proofs.Ytkkjmkihehbomaa
open Go.RowKit
set_option linter.unusedVariables false
set_option linter.unusedSimpArgs false
set_option maxRecDepth 100000

/-- behind whole octets: the box anew -/
theorem wr_whole {w w' : World} {B : Nat} {v v' : Value} {F : List Bool} {l : List UInt8} {q : Nat} (h : WrV w B v F) (hr : BytO w' v' (packB F ++ l)) (hg : w.grownBy w' v.ownBlock) (hk : v'.ownBlock = v.ownBlock ∨ v'.ownBlock = some w.heap.size)
    (hq : q = octN F.length + l.length) :
    WrTo B v (wholeL F ++ ofL l) w ((w'.setCell ⟨B, 0, none⟩ v').setCell ⟨B, 1, none⟩ (.int .i64 ((q : Int) * 8))) := by
  have hB0 : w'.heap[B]? = w.heap[B]? := hg.block B h.lt (fun e => h.ne B e.symm rfl)
  have hB := hB0.trans h.1
  refine ⟨v', ⟨?_, ?_⟩, ?_, ?_⟩
  · have e1 := heap_setCell_same w' B 0 _ _ v' hB
    rw [heap_setCell_same _ B 1 _ _ _ e1, wholeOf_length, ← hq]
    simp
  · rw [pack_octets]
    have hn := hr.ne_of hB ne_wr_byte
    exact hr.keep fun k hk => (heap_setCell_other _ _ _ _ (hn k hk)).trans (heap_setCell_other _ _ _ _ (hn k hk))
  · exact ((Only.of_grown (S := fun k => k = B ∨ v.ownBlock = some k) hg fun k hk => .inr hk).trans (Only.setCell _ _ _ (.inl rfl)) (fun i hi hS => hS)).trans (Only.setCell _ _ _ (.inl rfl)) (fun i hi hS => hS)
  · rcases hk with hk | hk
    · exact .inl hk
    · exact .inr ⟨_, hk, by simp⟩

set_option maxHeartbeats 1000000 in
theorem octsW_any (B : Nat) (v : Value) (F : List Bool) (sa : Option Addr) (sn sc : Nat) (l : List UInt8) (w : World) (h : WrV w B v F) (hs : BytesAt w sa sn sc l) (hF : F.length ≤ 1099511627000) (hsn : sn ≤ 1099511627776) :
    Calls Try.prog 13 #[.pointer (some ⟨B, 0, none⟩), .slice sa sn sc] w fun e w' => e = .returned (.tuple #[]) ∧ WrTo B v (wholeL F ++ ofL l) w w' := by
  have HH := Lib.hid h
  obtain ⟨a, cap, hv, hc1, hc2⟩ := h.2.form
  have HL := Lib.hid (packB_len F)
  obtain ⟨m, hm⟩ : ∃ m, m = (packB F).length := ⟨_, rfl⟩
  rw [← hm] at hv hc1
  have hm3 : m ≤ 1099511627776 := by rw [hm, packB_len]; unfold octN; omega
  have HM := Lib.hid hm
  subst hv
  have hb := h.1
  obtain ⟨c0, c1, f0, f1⟩ := two_cells h.1
  have HO := Lib.hid h.2
  obtain ⟨i0, hi, hz0, hz1, hz2⟩ := info_parts infoU8
  have hsl := hs.1
  subst hsl
  have HS := Lib.hid hs
  clear h hm hb
  have HQ := Lib.hid (show m + l.length = octN F.length + l.length by rw [HM.out, HL.out])
  cases sa with
  | none =>
    have hl0 : l = [] := by
      rcases hs.2.2.2 with ⟨_, h0, _⟩ | ⟨x, hx, _⟩
      · exact List.eq_nil_of_length_eq_zero h0
      · cases hx
    obtain ⟨_, hc, hd⟩ := hs.2
    have hsc : sc = 0 := by
      rcases hd with ⟨_, _, h0⟩ | ⟨x, hx, _⟩
      · exact h0
      · cases hx
    subst hl0 hsc
    clear hs hc hd
    go_enter Try.func13, Try.ntmps13
    go_wp2_with (at_builtin; refine wpList_append_own_none rfl _ _ 27 rfl 0 5 i0 1 Try.underlying27 hi _ _ _ rfl HO.out.2.2 rfl ?_)
    go_end0
    have := wr_whole (q := m + ([] : List UInt8).length) HH.out (l := []) (by rw [List.append_nil]; exact HO.out) (World.grownBy.refl _ _) (.inl rfl) HQ.out
    simp at this
    exact ⟨rfl, this⟩
  | some ad =>
    have HN := Lib.hid (show ∀ j u, (l.flatMap bytC)[j]? = some u → w.cell? (ad.add j) = some u from fun j u hj => by
      rw [bytC_vals] at hj
      rcases hs.2.2.2 with ⟨hx, _⟩ | ⟨x, hx, hc⟩
      · cases hx
      · injection hx with hx
        subst hx
        have hj2 : j < l.length := by have := (List.getElem?_eq_some_iff.1 hj).1; simpa [vals_length] using this
        rw [hc j hj2, ← vals_at l j hj2, hj])
    have HLA := Lib.hid (show (packB F ++ l).length = m + l.length by rw [List.length_append, ← HM.out])
    clear hs
    obtain ⟨sn, hsn2⟩ : ∃ sn, sn = l.length := ⟨_, rfl⟩
    rw [← hsn2] at hsn HLA HQ ⊢
    have HSN := Lib.hid hsn2
    clear hsn2
    go_enter Try.func13, Try.ntmps13
    go_wp2_with (at_builtin; refine wpList_append_recs (f := bytC) rfl _ _ 27 rfl 5 i0 (.int .u8 0) 1 1 Try.underlying27 hi hz0 hz1 hz2 rfl (by omega) _ (packB F) rfl HO.out ad sn sc l rfl HSN.out.symm (fun _ _ => rfl) (fun y _ => bytC_one y) HN.out (by rw [← HM.out]; unfold maxLen; omega) (by rw [← HM.out]; omega) ?_; intro v' w' hr hg hbk; obtain ⟨a', cap', hv', hc3, hc4⟩ := hr.form; rw [HLA.out] at hv' hc3; subst hv'; obtain ⟨d0, d1, e0, e1⟩ := two_cells ((hg.block B HH.out.lt (fun e => HH.out.ne B e.symm rfl)).trans HH.out.1); have HR := Lib.hid hr; have HG := Lib.hid hg; have HOB := Lib.hid hbk; clear hr hg hbk)
    go_end0
    have := wr_whole (q := m + sn) HH.out HR.out HG.out HOB.out (by rw [HQ.out, HSN.out])
    simp at this
    exact ⟨rfl, this⟩
end Go.Proofs.Ytkkjmkihehbomaa
