/-
  Package match: a new table; the token at a place; Best.
-/
import Derived.Test.YtonfppbijofapaaMkG
import Derived.Test.YtonfppbijofapaaMkC
import Derived.WideMake
namespace Go.Proofs.Ytonfppbijofapaa
open Go.RowKit
set_option linter.unusedVariables false
set_option linter.unusedSimpArgs false
set_option maxRecDepth 100000

theorem sizeFinder : (Try.prog.info? 46).map (·.size) = some 2 := by kernel_rfl
theorem build_fin (a : Option Addr) (n cap M : Nat) (w : World) : (Instr.build 46 #[(0, .slice a n cap), (1, .map (some M))]).run Try.prog w = .ok (.agg #[.slice a n cap, .map (some M)]) w := by
  refine run_build w _ _ _ ?_
  kernel_rfl

theorem TabS.made2 (n0 : Nat) (w w' : World) (h : n0 ≤ w.heap.size) (hk : w'.heap[w.heap.size]? = (w.alloc (.map #[] 0)).heap[w.heap.size]?) : TabS n0 w' w.heap.size (fun _ => []) :=
  ⟨⟨[], (MapBAt.made w).keep hk, ⟨fun k => Recs.nil _ _ _ _, fun k q hq => by simp [rowK, getK, Value.ownBlock] at hq, fun k k' q hq => by simp [rowK, getK, Value.ownBlock] at hq⟩⟩, h⟩
set_option maxHeartbeats 2000000 in
theorem mkNew_any (a : Option Addr) (n cap : Nat) (w : World) :
    Calls Try.prog 18 #[.slice a n cap] w fun e w' => ∃ M, e = .returned (finC a n cap M) ∧ TabS w.heap.size w' M (fun _ => []) ∧ Below w.heap.size w w' := by
  have HB := Lib.hid (build_fin a n cap)
  go_enter Try.func18, Try.ntmps18
  obtain ⟨w1, hw1⟩ : ∃ u, u = w.alloc (.cells #[.slice none 0 0, .map none] 46) := ⟨_, rfl⟩
  have hs1 : w1.heap.size = w.heap.size + 1 := by rw [hw1]; simp
  have HW1 := Lib.hid (show Below w.heap.size w w1 by rw [hw1]; exact (Below.refl _ _).alloc (Nat.le_refl _) _)
  have HRES := Lib.hid (show (w1.alloc (.map #[] 0)).heap[w.heap.size]? = some (.cells #[.slice none 0 0, .map none] 46 (0, 0)) by
    rw [hw1]; exact (((Below.refl _ (w.alloc _)).alloc (Nat.le_refl _) _).block w.heap.size (by simp)).trans (heap_alloc_new w _))
  have HT := Lib.hid (TabS.made w.heap.size w1 (by omega))
  have HB1 := Lib.hid (HW1.out.alloc (by omega) (.map #[] 0))
  have HMS := Lib.hid hs1
  go_upto_region 1 with (fail)
  rw [← hw1]
  clear hw1 hs1
  have hbu := fun u => HB.out w1.heap.size u
  obtain ⟨M, hM⟩ : ∃ M, M = w1.heap.size := ⟨_, rfl⟩
  go_wp2_with (first
    | rw [run_makeMap_plain]
    | (refine wpList_store_row rfl _ _ _ rfl w.heap.size #[.slice a n cap, .map (some w1.heap.size)] rfl rfl 46 #[.slice none 0 0, .map none] HRES.out sizeFinder rfl (by simp [Value.oneCell']) ?_))
  refine bodyPost_ret (v := finC a n cap w1.heap.size) (results_cell_row rfl _ _ w.heap.size 46 #[.slice a n cap, .map (some w1.heap.size)] (0, 0) _ rfl (heap_setRow_same _ _ _ _ _ HRES.out) Try.underlying46 rfl sizeFinder) rfl ⟨_, rfl, TabS.made2 _ w1 _ (by have := HMS.out; omega) (heap_setRow_other _ _ _ _ (by have := HMS.out; omega)), below_setRow HB1.out (Nat.le_refl _) _⟩

/-- the token at a place -/
def tokE (b : List UInt8) (p : Nat) : Tok := if (bestM b p).1 = 0 then ⟨b.getD p 0, 0, 0⟩ else ⟨0, (bestM b p).1, (bestM b p).2⟩

set_option maxHeartbeats 2000000 in
theorem mkToken_any (n0 : Nat) (a : Option Addr) (n cap : Nat) (b : List UInt8) (M lo c p : Nat) (w : World) (h : BytesAt w a n cap b) (hn : n ≤ 65536) (hp : p < n)
    (hT : TabS n0 w M (fun k => offsM b k lo c)) (hc : lo + c = p) (hlo : lo ≤ p - 32768) :
    Calls Try.prog 21 #[finC a n cap M, .int .i64 p] w fun e w' => e = .returned (.agg (tokC (tokE b p)).toArray) ∧ Below w.heap.size w w' := by
  have HL := Lib.hid h
  have CB := Lib.hid (fun u (hu : Below w.heap.size w u) => mkBest_any n0 a n cap b M lo c p u (h.below hu) hn hp (hT.below hu) hc hlo)
  have HE := Lib.hid (show tokE b p = if (bestM b p).1 = 0 then ⟨b.getD p 0, 0, 0⟩ else ⟨0, (bestM b p).1, (bestM b p).2⟩ from rfl)
  clear h hT hlo
  generalize hT : tokE b p = T at *
  clear hT
  obtain ⟨B, hB⟩ : ∃ B, B = bestM b p := ⟨_, rfl⟩
  rw [← hB] at CB HE
  clear hB
  obtain ⟨m, d⟩ := B
  dsimp only at CB HE
  unfold finC at *
  go_enter Try.func21, Try.ntmps21
  go_wp2_with fail
  obtain ⟨q, hq⟩ : ∃ q, q = w.heap.size := ⟨_, rfl⟩
  have HQ := Lib.hid hq
  obtain ⟨w1, hw1⟩ : ∃ u, u = (w.alloc (.cells #[.slice a n cap, .map (some M)] 46)).alloc (.cells #[.int .u8 0, .int .i64 0, .int .i64 0] 51) := ⟨_, rfl⟩
  have HW1 := Lib.hid (show Below w.heap.size w w1 by rw [hw1]; exact ((Below.refl _ _).alloc (Nat.le_refl _) _).alloc (by simp) _)
  have HROW := Lib.hid (show w1.heap[q]? = some (.cells #[.slice a n cap, .map (some M)] 46 (0, 0)) by
    rw [hw1, hq]; exact (((Below.refl _ (w.alloc _)).alloc (Nat.le_refl _) _).block w.heap.size (by simp)).trans (heap_alloc_new w _))
  have HRES := Lib.hid (show w1.heap[q + 1]? = some (.cells #[.int .u8 0, .int .i64 0, .int .i64 0] 51 (0, 0)) by rw [hw1, hq]; exact heap_new2 w _ _)
  rw [← hw1, ← hq]
  clear hw1 hq
  refine (CB.out _ HW1.out).mono ?_
  rintro e w2 ⟨rfl, hb2⟩
  have HB2 := Lib.hid (HW1.out.trans (hb2.mono HW1.out.size))
  have hrow := (hb2.block q (Array.getElem?_eq_some_iff.1 HROW.out).1).trans HROW.out
  have hres := (hb2.block (q + 1) (Array.getElem?_eq_some_iff.1 HRES.out).1).trans HRES.out
  have y0 := cell_of_row _ q 0 _ _ _ hrow
  change World.cell? _ ⟨q, 0, none⟩ = some (.slice a n cap) at y0
  have HS2 := Lib.hid hres
  clear hb2 hrow hres CB HROW HRES
  by_cases hm : m = 0
  · subst hm
    rw [if_pos rfl] at HE
    obtain ⟨g, off, rfl, hcc⟩ := (HL.out.below HB2.out).at (by omega)
    have x1 := hcc p hp
    obtain ⟨X, hX⟩ : ∃ X, X = b.getD p 0 := ⟨_, rfl⟩
    rw [← hX] at x1 HE
    clear hcc hX
    have hbl := fun u => build_lit (X.toNat : Int) u
    have hpi : (p : Int) < n := by omega
    go_wp2_with (refine wpList_store_row rfl _ _ _ rfl (q + 1) #[.int .u8 (X.toNat : Int), .int .i64 0, .int .i64 0] rfl rfl 51 #[.int .u8 0, .int .i64 0, .int .i64 0] HS2.out sizeTok rfl (by simp [Value.oneCell']) ?_)
    exact bodyPost_ret (v := .agg (tokC T).toArray) (by rw [HE.out]; exact results_cell_row rfl _ _ (q + 1) 51 #[.int .u8 (X.toNat : Int), .int .i64 0, .int .i64 0] (0, 0) _ rfl (heap_setRow_same _ _ _ _ _ HS2.out) Try.underlying51 rfl sizeTok) rfl ⟨rfl, below_setRow HB2.out (by have := HQ.out; omega) _⟩
  · have hmb : ((m : Int) == 0) = false := by rw [beq_eq_false_iff_ne]; omega
    rw [if_neg hm] at HE
    have hbl := fun u => build_way (m : Int) (d : Int) u
    go_wp2_with (refine wpList_store_row rfl _ _ _ rfl (q + 1) #[.int .u8 0, .int .i64 (m : Int), .int .i64 (d : Int)] rfl rfl 51 #[.int .u8 0, .int .i64 0, .int .i64 0] HS2.out sizeTok rfl (by simp [Value.oneCell']) ?_)
    exact bodyPost_ret (v := .agg (tokC T).toArray) (by rw [HE.out]; exact results_cell_row rfl _ _ (q + 1) 51 #[.int .u8 0, .int .i64 (m : Int), .int .i64 (d : Int)] (0, 0) _ rfl (heap_setRow_same _ _ _ _ _ HS2.out) Try.underlying51 rfl sizeTok) rfl ⟨rfl, below_setRow HB2.out (by have := HQ.out; omega) _⟩
end Go.Proofs.Ytonfppbijofapaa
