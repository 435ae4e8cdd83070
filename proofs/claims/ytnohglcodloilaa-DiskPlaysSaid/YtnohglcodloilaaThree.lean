/-
  A row that is written behind the disks; an elder disk beside its clone.
-/
import Derived.Test.YtnohglcodloilaaTwo
import Derived.Test.YtnohglcodloilaaDiskD
import Derived.Test.YtnohglcodloilaaDiskE
namespace Go.Proofs.Ytnohglcodloilaa
open Go.RowKit
set_option linter.unusedVariables false
set_option linter.unusedSimpArgs false

structure Pad (w0 w : World) (S T : Nat → Prop) (B b : Nat) : Prop where
  row : Row8 w b
  offS : ¬ S b
  offT : ¬ T b
  ne : b ≠ B
  new : w0.heap.size ≤ b
theorem Row8.lt {w : World} {b : Nat} (h : Row8 w b) : b < w.heap.size := by
  obtain ⟨cur, h1, h2⟩ := h
  exact (Array.getElem?_eq_some_iff.1 h2).1
section
variable {w0 w w' : World} {S T S' T' : Nat → Prop} {g r B b : Nat} {D E D' E' : Dk} {x : ActM}
theorem Pad.mk' (h : Scene w0 w S T g r B D E x) (hlo : w.heap.size ≤ b) (hrow : Row8 w' b) : Pad w0 w' S T B b :=
  ⟨hrow, fun hS => by have := h.run.disk.lt b hS; omega, fun hT => by have := h.ref.lt b hT; omega, fun he => by have := h.ltB; omega, Nat.le_trans h.run.below.size hlo⟩
theorem Pad.quiet (h : Pad w0 w S T B b) (hb : Below w.heap.size w w') : Pad w0 w' S T B b := ⟨h.row.below hb h.row.lt, h.offS, h.offT, h.ne, h.new⟩
theorem Pad.disk (h : Pad w0 w S T B b) (ho : Only S w w') (hs : ∀ k, S' k → S k ∨ w.heap.size ≤ k) : Pad w0 w' S' T B b :=
  ⟨h.row.only ho h.offS h.row.lt, fun hS => by rcases hs b hS with h1 | h1; exact h.offS h1; have := h.row.lt; omega, h.offT, h.ne, h.new⟩
theorem Pad.refd (h : Pad w0 w S T B b) (ho : Only T w w') (hs : ∀ k, T' k → T k ∨ w.heap.size ≤ k) : Pad w0 w' S T' B b :=
  ⟨h.row.only ho h.offT h.row.lt, h.offS, fun hS => by rcases hs b hS with h1 | h1; exact h.offT h1; have := h.row.lt; omega, h.ne, h.new⟩
theorem Pad.set (h : Pad w0 w S T B b) (k : Nat) (v : Value) : Pad w0 (w.setCell ⟨b, k, none⟩ v) S T B b := ⟨h.row.set k v, h.offS, h.offT, h.ne, h.new⟩
theorem Scene.padSet (h : Scene w0 w S T g r B D E x) (p : Pad w0 w S T B b) (k : Nat) (v : Value) : Scene w0 (w.setCell ⟨b, k, none⟩ v) S T g r B D E x :=
  h.other (U := fun i => i = b) (Only.setCell _ _ _ rfl) fun i hi => by subst hi; exact ⟨p.new, p.offS, p.offT, p.ne⟩

structure Old (w0 w : World) (U S T : Nat → Prop) (o B : Nat) (F : Dk) : Prop where
  disk : DiskAt w U o F
  off : ∀ k, U k → w0.heap.size ≤ k ∧ ¬ S k ∧ ¬ T k ∧ k ≠ B
theorem Old.quiet {U : Nat → Prop} {o : Nat} (h : Old w0 w U S T o B D) (hb : Below w.heap.size w w') : Old w0 w' U S T o B D := ⟨h.disk.below hb, h.off⟩
theorem Scene.clone {o : Nat} {U : Nat → Prop} (h : Scene w0 w U T o r B D E x) (hd : DiskAt w' S g D) (hb : Below w.heap.size w w') (hn : ∀ k, S k → w.heap.size ≤ k) : Scene w0 w' S T g r B D E x ∧ Old w0 w' U S T o B D := by
  refine ⟨⟨⟨hd, h.run.below.trans (hb.mono h.run.below.size), fun k hk => Nat.le_trans h.run.below.size (hn k hk)⟩, h.ref.below hb, h.newT, fun k hS hT => ?_, (hb.block B h.ltB).trans h.box, fun hS => ?_, h.offT, h.newB⟩, h.run.disk.below hb, fun k hk => ⟨h.run.new k hk, fun hS => ?_, h.apart k hk, fun he => ?_⟩⟩
  · have := hn k hS; have := h.ref.lt k hT; omega
  · have := hn B hS; have := h.ltB; omega
  · have := hn k hS; have := h.run.disk.lt k hk; omega
  · subst he; exact h.offS hk
theorem Scene.old {o : Nat} {U U' : Nat → Prop} {F F' : Dk} (h : Scene w0 w S T g r B D E x) (k : Old w0 w U S T o B F) (hd : DiskAt w' U' o F') (ho : Only U w w') (hs : ∀ i, U' i → U i ∨ w.heap.size ≤ i) : Scene w0 w' S T g r B D E x ∧ Old w0 w' U' S T o B F' := by
  refine ⟨h.other ho k.off, hd, fun i hi => ?_⟩
  rcases hs i hi with h1 | h1
  · exact k.off i h1
  · refine ⟨Nat.le_trans h.run.below.size h1, fun hS => ?_, fun hT => ?_, fun he => ?_⟩
    · have := h.run.disk.lt i hS; omega
    · have := h.ref.lt i hT; omega
    · have := h.ltB; omega
end

theorem power_is (g : Nat) (D : Dk) (S : Nat → Prop) (w : World) (p : Bool) (h : DiskAt w S g D) (hp : D.power = p) :
    Calls Try.prog 10 #[.pointer (some ⟨g, 0, none⟩)] w fun e w' => e = .returned (.bool p) ∧ w = w' := by
  subst hp; exact power_any g D S w h

end Go.Proofs.Ytnohglcodloilaa
