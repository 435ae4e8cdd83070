/-
  Contracts of package bits: Octets of a Reader.
-/
import Derived.Test.YtkkjmkihehbomaaBtF
namespace Go.Proofs.Ytkkjmkihehbomaa
open Go.RowKit
set_option linter.unusedVariables false
set_option linter.unusedSimpArgs false
set_option maxRecDepth 100000

/-- what Octets answers, and how far it is read -/
def octsR (l : List UInt8) (at_ : Nat) (n : Int) : List UInt8 × Int × Nat :=
  if n < 0 then ([], 1, octN at_ * 8) else if l.length < octN at_ + n.toNat then ([], 2, octN at_ * 8) else ((l.drop (octN at_)).take n.toNat, 0, (octN at_ + n.toNat) * 8)
/-- octets that are handed out, and the reader -/
def OctsTo (B : Nat) (a : Option Addr) (cap : Nat) (l : List UInt8) (r : List UInt8 × Int × Nat) (w : World) (e : Ending) (w' : World) : Prop :=
  ∃ a2 cap2, e = .returned (.tuple #[.slice a2 r.1.length cap2, .int .i64 r.2.1]) ∧ w'.ownsRow w.heap.size 5 1 (.slice a2 r.1.length cap2) r.1.length (vals r.1) ∧ RdTo B a cap l r.2.2 w w'

/-- a part of octets -/
theorem BytesAt.cutIf {w : World} {a : Option Addr} {n cap at_ m : Nat} {l : List UInt8} (h : BytesAt w a n cap l) (hm : at_ + m ≤ n) :
    BytesAt w (if cap = at_ then a else Option.map (fun x => x.add at_) a) m (cap - at_) ((l.drop at_).take m) := by
  obtain ⟨h1, h2, h3, h4⟩ := h
  refine ⟨by simp; omega, by omega, by omega, ?_⟩
  by_cases hc : cap = at_
  · have : m = 0 := by omega
    subst this
    rw [if_pos hc]
    rcases h4 with ⟨rfl, _, _⟩ | ⟨x, rfl, hx⟩
    · exact .inl ⟨rfl, rfl, by omega⟩
    · exact .inr ⟨x, rfl, fun i hi => by omega⟩
  · rw [if_neg hc]
    rcases h4 with ⟨rfl, h5, h6⟩ | ⟨x, rfl, hx⟩
    · omega
    · refine .inr ⟨_, rfl, fun i hi => ?_⟩
      have e : (x.add at_).add i = x.add (at_ + i) := by
        unfold Addr.add
        by_cases h0 : at_ = 0 <;> by_cases h1 : i = 0 <;> simp [h0, h1, Nat.add_assoc]
      rw [e, hx _ (by omega)]
      simp [List.getD, List.getElem?_take, List.getElem?_drop, hi]

theorem owned_lower {w : World} {base base' sz n : Nat} {e : TypeId} {v : Value} {xs : List Value} (h : w.ownsRow base e sz v n xs) (hb : base' ≤ base) : w.ownsRow base' e sz v n xs := by
  refine ⟨h.1, ?_⟩
  rcases h.2 with hn | ⟨g, cap, cur, e1, hbg, rest⟩
  · exact .inl hn
  · exact .inr ⟨g, cap, cur, e1, Nat.le_trans hb hbg, rest⟩

set_option maxHeartbeats 1000000 in
theorem octsR_any (B : Nat) (a : Option Addr) (cap : Nat) (l : List UInt8) (at_ : Nat) (n : Int) (w : World) (h : RdV w B a cap l at_) (hl : l.length ≤ 1099511627776) (hat : at_ ≤ 8 * l.length) :
    Calls Try.prog 24 #[.pointer (some ⟨B, 0, none⟩), .int .i64 n] w (OctsTo B a cap l (octsR l at_ n) w) := by
  have CA := Lib.hid (alignR_any B a cap l at_ w h (by omega))
  have hoc : octN at_ ≤ l.length := by unfold octN; omega
  have HH := Lib.hid h
  clear h
  by_cases hn : n < 0
  · have HR := Lib.hid (show octsR l at_ n = ([], 1, octN at_ * 8) by unfold octsR; rw [if_pos hn])
    rw [HR.out]
    clear HR
    go_enter Try.func24, Try.ntmps24
    go_wp2_with fail
    refine CA.out.mono ?_
    rintro e w1 ⟨rfl, hw1⟩
    have HW := Lib.hid hw1
    clear hw1
    go_wp2
    go_ret2
    exact ⟨none, 0, rfl, World.ownsRow_nil _ _ _ _, HW.out⟩
  · obtain ⟨m, rfl⟩ : ∃ m : Nat, n = m := ⟨n.toNat, by omega⟩
    by_cases hs : l.length < octN at_ + m
    · have HR := Lib.hid (show octsR l at_ m = ([], 2, octN at_ * 8) by unfold octsR; rw [if_neg hn, Int.toNat_natCast, if_pos hs])
      rw [HR.out]
      clear HR
      have CL := Lib.hid (fun (u : World) (hu : RdV u B a cap l (octN at_ * 8)) => leftR_any B a cap l (octN at_ * 8) u hu hl (by omega))
      have hq : (((8 * l.length - octN at_ * 8 : Nat) : Int) / 8) = ((l.length - octN at_ : Nat) : Int) := by omega
      have hgt : l.length - octN at_ < m := by omega
      have hgt2 : (8 * l.length - octN at_ * 8) / 8 < m := by omega
      have hb : 8 * l.length - octN at_ * 8 ≤ 8796093022208 := by omega
      clear hs hn hq
      generalize 8 * l.length - octN at_ * 8 = q at *
      go_enter Try.func24, Try.ntmps24
      go_wp2_with fail
      refine CA.out.mono ?_
      rintro e w1 ⟨rfl, hw1⟩
      have HW := Lib.hid hw1
      clear hw1
      go_wp2_with fail
      refine (CL.out w1 HW.out.1).mono ?_
      rintro e w2 ⟨rfl, nq, rfl⟩
      have hd : decide ((q : Int) / 8 < (m : Int)) = true := by simp; omega
      go_wp2
      go_ret2
      exact ⟨none, 0, rfl, World.ownsRow_nil _ _ _ _, HW.out.1.drewN nq, HW.out.2.trans (Only.drewN (S := fun i => i = B) _ _) fun _ _ hs => hs⟩
    · have HR := Lib.hid (show octsR l at_ m = ((l.drop (octN at_)).take m, 0, (octN at_ + m) * 8) by unfold octsR; rw [if_neg hn, Int.toNat_natCast, if_neg hs])
      rw [HR.out]
      clear HR
      have CL := Lib.hid (fun (u : World) (hu : RdV u B a cap l (octN at_ * 8)) => leftR_any B a cap l (octN at_ * 8) u hu hl (by omega))
      have hb : 8 * l.length - octN at_ * 8 ≤ 8796093022208 := by omega
      have hle : m ≤ (8 * l.length - octN at_ * 8) / 8 := by omega
      have hom : octN at_ + m ≤ l.length := by omega
      clear hs hn
      generalize 8 * l.length - octN at_ * 8 = q at *
      generalize octN at_ = o at *
      have hd : decide ((q : Int) / 8 < (m : Int)) = false := by simp; omega
      go_enter Try.func24, Try.ntmps24
      go_wp2_with fail
      refine CA.out.mono ?_
      rintro e w1 ⟨rfl, hw1⟩
      have HW := Lib.hid hw1
      clear hw1
      go_wp2_with fail
      refine (CL.out w1 HW.out.1).mono ?_
      rintro e w2 ⟨rfl, nq, rfl⟩
      obtain ⟨c0, c1, f0, f1⟩ := two_cells (HW.out.1.drewN nq).1
      rw [Int.natCast_mul] at c1
      have e8 : (o : Int) * 8 / 8 = (o : Int) := by omega
      have hcp : l.length ≤ cap := HH.out.2.2.1
      have hto := (HW.out.1.drewN nq).to ((o + m) * 8)
      rw [show (((o + m) * 8 : Nat) : Int) = (o : Int) * 8 + (m : Int) * 8 by omega] at hto
      have hcut := BytesAt.cutIf (at_ := o) (m := m) hto.1.2 hom
      have HTO := Lib.hid (show RdTo B a cap l ((o + m) * 8) w _ from ⟨hto.1, (HW.out.2.trans (Only.drewN (S := fun i => i = B) _ nq) fun _ _ hs => hs).trans hto.2 fun _ _ hs => hs⟩)
      have HC := Lib.hid hcut
      have hlm := hcut.1
      have HLM := Lib.hid hlm
      clear hto hcut hlm
      generalize hL : (l.drop o).take m = L at *
      clear hL
      go_wp2_with fail
      · have heq : cap = o := by assumption
        have CC := wclone_any a m 0 L _ (by have := HC.out; rw [if_pos heq, heq, Nat.sub_self] at this; exact this) (by omega)
        refine CC.mono ?_
        rintro e w3 ⟨a3, cap3, rfl, ho, hb⟩
        have HO := Lib.hid ho
        have HB := Lib.hid hb
        clear ho hb
        dsimp only [id]
        go_wp2
        go_ret2
        refine ⟨a3, cap3, by rw [HLM.out]; rfl, ?_, ?_⟩
        · rw [HLM.out]; exact owned_lower HO.out (HTO.out.2.size)
        · exact ⟨HTO.out.1.keep (Only.of_below (S := fun _ => False) HB.out) (fun h => h) (fun _ _ h => h), HTO.out.2.trans (Only.of_below HB.out) fun _ _ hs => hs⟩
      · have hne : ¬ cap = o := by assumption
        have CC := wclone_any (Option.map (fun x => x.add o) a) m (cap - o) L _ (by have := HC.out; rw [if_neg (by first | exact hne | omega)] at this; exact this) (by omega)
        refine CC.mono ?_
        rintro e w3 ⟨a3, cap3, rfl, ho, hb⟩
        have HO := Lib.hid ho
        have HB := Lib.hid hb
        clear ho hb
        dsimp only [id]
        go_wp2
        go_ret2
        refine ⟨a3, cap3, by rw [HLM.out]; rfl, ?_, ?_⟩
        · rw [HLM.out]; exact owned_lower HO.out (HTO.out.2.size)
        · exact ⟨HTO.out.1.keep (Only.of_below (S := fun _ => False) HB.out) (fun h => h) (fun _ _ h => h), HTO.out.2.trans (Only.of_below HB.out) fun _ _ hs => hs⟩
end Go.Proofs.Ytkkjmkihehbomaa
