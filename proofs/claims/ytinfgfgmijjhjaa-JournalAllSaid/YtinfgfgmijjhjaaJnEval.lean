/-
  Commits and recoverings on disks that are known: the chapter's examples.
-/
import Derived.Test.YtinfgfgmijjhjaaJnRefE
namespace Go.Proofs.Ytinfgfgmijjhjaa
set_option linter.unusedVariables false
set_option linter.unusedSimpArgs false

def pay (b : Int) : Int := if b = -1 then -1 else b - 1
theorem can_rec (s : List (List UInt8)) (ws : List (Nat × List UInt8)) (b : Int) : (⟨s, ws, true, b⟩ : Dk).can = !(b == 0) := by simp [Dk.can]
theorem wr_rec (s : List (List UInt8)) (ws : List (Nat × List UInt8)) (b : Int) (i : Int) (l : List UInt8) (h0 : 0 ≤ i) (h1 : i < (s.length : Int)) (hl : l.length = 128) (hb : b ≠ 0) :
    wrOf ⟨s, ws, true, b⟩ i l.length l = (0, ⟨s, ws ++ [(i.toNat, l)], true, pay b⟩) := by
  unfold wrOf
  rw [if_neg (by show ¬ (i < 0 ∨ (s.length : Int) ≤ i); omega), if_neg (by omega), if_pos (by rw [can_rec]; simpa using hb)]
  rfl
theorem wr_rec_off (s : List (List UInt8)) (ws : List (Nat × List UInt8)) (b : Int) (i : Int) (l : List UInt8) (h0 : 0 ≤ i) (h1 : i < (s.length : Int)) (hl : l.length = 128) (p : Bool) (hc : p = false ∨ b = 0) :
    wrOf ⟨s, ws, p, b⟩ i l.length l = (10, ⟨s, ws, false, b⟩) := by
  unfold wrOf
  rw [if_neg (by show ¬ (i < 0 ∨ (s.length : Int) ≤ i); omega), if_neg (by omega), if_neg (by
    rcases hc with rfl | rfl
    · simp [Dk.can]
    · simp [Dk.can])]
  rfl
theorem fl_rec (s : List (List UInt8)) (ws : List (Nat × List UInt8)) (b : Int) (hb : b ≠ 0) : flOf ⟨s, ws, true, b⟩ = (0, ⟨Dk.laid (fun _ => true) ws s, [], true, pay b⟩) := by
  unfold flOf
  rw [if_pos (by rw [can_rec]; simpa using hb)]
  rfl
theorem fl_rec_off (s : List (List UInt8)) (ws : List (Nat × List UInt8)) (b : Int) (p : Bool) (hc : p = false ∨ b = 0) : flOf ⟨s, ws, p, b⟩ = (10, ⟨s, ws, false, b⟩) := by
  unfold flOf
  rw [if_neg (by
    rcases hc with rfl | rfl
    · simp [Dk.can]
    · simp [Dk.can])]
  rfl
theorem pay_one : pay (-1) = -1 := rfl

/-- where a list of puts lies -/
def asW (L : List Pt) : List (Nat × List UInt8) := L.map fun p => (p.1.toNat, p.2)
def Fits (L : List Pt) (n : Nat) : Prop := ∀ p ∈ L, 0 ≤ p.1 ∧ p.1 < (n : Int) ∧ p.2.length = 128

/-- all writes are done where no budget is -/
theorem wrs_free : ∀ (L : List Pt) (s : List (List UInt8)) (ws : List (Nat × List UInt8)), Fits L s.length → wrsOf ⟨s, ws, true, -1⟩ L = (0, ⟨s, ws ++ asW L, true, -1⟩)
  | [], s, ws, _ => by simp [wrsOf, asW]
  | p :: L, s, ws, h => by
    have hp := h p (by simp)
    have hw := wr_rec s ws (-1) p.1 p.2 hp.1 hp.2.1 hp.2.2 (by omega)
    simp only [wrsOf]
    rw [hw, if_pos rfl, pay_one, wrs_free L s _ (fun q hq => h q (by simp [hq]))]
    simp [asW]

theorem laid_len (ws : List (Nat × List UInt8)) (s : List (List UInt8)) : (Dk.laid (fun _ => true) ws s).length = s.length := Dk.laid_length _ _ _

theorem fits_may {L : List Pt} {n : Nat} (h : MayP L n) : Fits L n := fun p hp => by have := h.at p hp; omega
theorem fits_copies {L : List Pt} {n : Nat} (h : MayP L n) (hn : 41 < n) : Fits (copiesL L) n := fun p hp => by
  obtain ⟨x, hx, rfl⟩ := List.mem_map.1 hp
  have hk := List.mem_zipIdx hx
  have := h.few
  have hx1 := List.fst_mem_of_mem_zipIdx hx
  have := h.at x.1 hx1
  refine ⟨by dsimp only; omega, by dsimp only; omega, this.2.2⟩
theorem fits_head (L : List Pt) (n : Nat) (h : L.length ≤ 40) (hn : 41 < n) : Fits [((0 : Int), hdL L)] n := fun p hp => by
  simp only [List.mem_singleton] at hp; subst hp
  exact ⟨by dsimp only; omega, by dsimp only; omega, hdL_length L h⟩
theorem fits_zero (n : Nat) (hn : 41 < n) : Fits [((0 : Int), sec 0)] n := fun p hp => by
  simp only [List.mem_singleton] at hp; subst hp
  exact ⟨by dsimp only; omega, by dsimp only; omega, sec_length 0⟩

def lay (L : List Pt) (s : List (List UInt8)) : List (List UInt8) := Dk.laid (fun _ => true) (asW L) s
theorem lay_len (L : List Pt) (s : List (List UInt8)) : (lay L s).length = s.length := Dk.laid_length _ _ _

theorem play_write_free (L : List Pt) (ts : List Stp) (s : List (List UInt8)) (h : Fits L s.length) : plays (.write L :: .flush :: ts) ⟨s, [], true, -1⟩ = plays ts ⟨lay L s, [], true, -1⟩ := by
  have hw : (Stp.write L).play ⟨s, [], true, -1⟩ = (0, ⟨s, asW L, true, -1⟩) := by show wrsOf _ _ = _; rw [wrs_free L s [] h]; rfl
  have hf : (Stp.flush).play ⟨s, asW L, true, -1⟩ = (0, ⟨lay L s, [], true, -1⟩) := by show flOf _ = _; rw [fl_rec _ _ _ (by omega)]; rfl
  rw [plays_yes _ (by rw [hw]), hw, plays_yes _ (by rw [hf]), hf]

/-- a commit, where no budget is -/
theorem commit_free (L : List Pt) (s : List (List UInt8)) (h : mayB L s.length = true) (hn : 41 < s.length) :
    commitOf ⟨s, [], true, -1⟩ L = (0, ⟨lay [((0 : Int), sec 0)] (lay L (lay [((0 : Int), hdL L)] (lay (copiesL L) s))), [], true, -1⟩) := by
  have hm := (may_iff _ _).1 h
  unfold commitOf
  rw [if_pos h]
  unfold commitR
  rw [play_write_free _ _ _ (fits_copies hm hn), play_write_free _ _ _ (by rw [lay_len]; exact fits_head L _ hm.few hn), play_write_free _ _ _ (by rw [lay_len, lay_len]; exact fits_may hm), play_write_free _ _ _ (by rw [lay_len, lay_len, lay_len]; exact fits_zero _ hn)]
  rfl
theorem format_free (s : List (List UInt8)) (hn : 41 < s.length) : formatOf ⟨s, [], true, -1⟩ = (0, ⟨lay [((0 : Int), sec 0)] s, [], true, -1⟩) := by
  unfold formatOf
  rw [if_pos hn]
  unfold formatR
  rw [play_write_free _ _ _ (fits_zero _ hn)]
  rfl
theorem format_new (n : Nat) (h1 : 41 < n) : formatOf (Dk.new n) = (0, Dk.new n) := by
  have := format_free (List.replicate n (List.replicate 128 0)) (by simpa using h1)
  unfold Dk.new
  rw [this]
  congr 2
  unfold lay asW
  simp only [List.map_cons, List.map_nil, Dk.laid, List.zipIdx_cons, List.zipIdx_nil, List.foldl_cons, List.foldl_nil, if_true]
  apply List.ext_getElem?
  intro i
  rw [List.getElem?_set]
  simp only [Int.toNat_zero, List.length_replicate, List.getElem?_replicate, sec]
  split
  · rename_i h; subst h; simp [show 0 < n by omega]
  · rfl

theorem placesL_append (a b : List Pt) : placesL (a ++ b) = placesL a ++ placesL b := by simp [placesL]
theorem hdL_split (L : List Pt) : hdL L = markL ++ (leB 2 L.length ++ (leB 4 (sumL (bytesL L)) ++ (placesL L ++ (leB 4 (sumL (hdRaw L)) ++ List.replicate (128 - (hdRaw L).length - 4) 0)))) := by
  unfold hdL sealL
  conv => lhs; rw [show hdRaw L = markL ++ (leB 2 L.length ++ (leB 4 (sumL (bytesL L)) ++ placesL L)) from rfl]
  simp only [List.append_assoc]
  rfl
theorem take_left2 (a b : List UInt8) (n : Nat) (h : a.length = n) : (a ++ b).take n = a := by rw [← h, List.take_left]
theorem drop_left2 (a b : List UInt8) (n : Nat) (h : a.length = n) : (a ++ b).drop n = b := by rw [← h, List.drop_left]

theorem head_count (L : List Pt) (h : L.length ≤ 40) : le (((hdL L).drop 4).take 2) = L.length := by
  rw [hdL_split, drop_left2 _ _ 4 rfl, take_left2 _ _ 2 (leB_length _ _)]
  exact le_leB 2 _ (by omega)
theorem head_place (L : List Pt) (k : Nat) (hk : k < L.length) (h0 : 0 ≤ (L.getD k (0, [])).1) (h1 : (L.getD k (0, [])).1 < 65536) :
    ((le (((hdL L).drop (10 + 2 * k)).take 2) : Nat) : Int) = (L.getD k (0, [])).1 := by
  rw [hdL_split, show 10 + 2 * k = 4 + (2 + (4 + 2 * k)) by omega, ← List.drop_drop, drop_left2 _ _ 4 rfl, ← List.drop_drop, drop_left2 _ _ 2 (leB_length _ _), ← List.drop_drop, drop_left2 _ _ 4 (leB_length _ _)]
  have hs : placesL L = placesL (L.take k) ++ (leB 2 (L.getD k (0, [])).1.toNat ++ placesL (L.drop (k + 1))) := by
    conv => lhs; rw [← List.take_append_drop k L, placesL_append]
    congr 1
    rw [List.drop_eq_getElem_cons hk]
    have : L.getD k (0, []) = L[k] := by rw [List.getD, List.getElem?_eq_getElem hk]; rfl
    rw [this]
    rfl
  rw [hs, List.append_assoc, drop_left2 _ _ (2 * k) (by rw [placesL_length, List.length_take]; omega), List.append_assoc, take_left2 _ _ 2 (leB_length _ _), le_leB 2 _ (by omega)]
  omega

theorem named_of (L : List Pt) (size : Int) (R : List (List UInt8)) (hm : MayP L size) (hs : size ≤ 65536) (h0 : R.getD 0 [] = hdL L) (hR : ∀ k, k < L.length → R.getD (1 + k) [] = (L.getD k (0, [])).2) : namedL R = L := by
  unfold namedL
  rw [h0, head_count L hm.few, if_neg (by have := hm.few; omega)]
  apply List.ext_getElem?
  intro k
  by_cases hk : k < L.length
  · rw [List.getElem?_map, List.getElem?_range hk]
    have hx : L.getD k (0, []) ∈ L := by rw [List.getD, List.getElem?_eq_getElem hk]; exact List.getElem_mem hk
    have hb := hm.at _ hx
    simp only [Option.map_some]
    rw [head_place L k hk (by omega) (by omega), hR k hk]
    rw [List.getElem?_eq_getElem hk]
    have : L.getD k (0, []) = L[k] := by rw [List.getD, List.getElem?_eq_getElem hk]; rfl
    rw [this]
  · rw [List.getElem?_eq_none (by simp; omega), List.getElem?_eq_none (by omega)]
theorem begun_of (L : List Pt) (size : Int) (R : List (List UInt8)) (hm : mayB L size = true) (hs : size ≤ 65536) (h0 : R.getD 0 [] = hdL L) (hR : ∀ k, k < L.length → R.getD (1 + k) [] = (L.getD k (0, [])).2) : begunL R size = L := by
  unfold begunL
  rw [named_of L size R ((may_iff _ _).1 hm) hs h0 hR, hm, h0]
  simp

theorem rowsL_getD (D : Dk) (k : Nat) (hk : k < 41) : (rowsL D).getD k [] = D.content k := by simp [rowsL, List.getD, hk]
theorem content_still (s : List (List UInt8)) (p : Bool) (b : Int) (k : Nat) : (⟨s, [], p, b⟩ : Dk).content k = s.getD k [] := rfl

theorem may_ne {L : List Pt} {n : Int} (h : mayB L n = true) : L ≠ [] := by
  intro e; subst e; have := ((may_iff _ _).1 h).one; simp at this

/-- recovering what was begun, where no budget is -/
theorem recover_free (L : List Pt) (s : List (List UInt8)) (hm : mayB L s.length = true) (hn : 41 < s.length) (hs : s.length ≤ 2048) (h0 : s.getD 0 [] = hdL L) (hR : ∀ k, k < L.length → s.getD (1 + k) [] = (L.getD k (0, [])).2) :
    recoverOf ⟨s, [], true, -1⟩ = ((L.length : Int), 0, ⟨lay [((0 : Int), sec 0)] (lay L s), [], true, -1⟩) := by
  have hmp := (may_iff _ _).1 hm
  have hb : begunL (rowsL ⟨s, [], true, -1⟩) s.length = L := begun_of L _ _ hm (by omega) (by rw [rowsL_getD _ _ (by omega)]; exact h0) (fun k hk => by rw [rowsL_getD _ _ (by have := hmp.few; omega)]; exact hR k hk)
  have hA : recR L = [.write L, .flush, .write [((0 : Int), sec 0)], .flush] := by unfold recR; rw [if_neg (may_ne hm)]; rfl
  have hpl : plays (recR L) ⟨s, [], true, -1⟩ = (0, ⟨lay [((0 : Int), sec 0)] (lay L s), [], true, -1⟩) := by
    rw [hA, play_write_free _ _ _ (fits_may hmp), play_write_free _ _ _ (by rw [lay_len]; exact fits_zero _ hn)]
    rfl
  rw [recoverOf_some hn rfl (by rw [content_still, h0]; exact hdL_ne L)]
  show (if (plays (recR (begunL (rowsL ⟨s, [], true, -1⟩) s.length)) ⟨s, [], true, -1⟩).1 = 0 then ((begunL (rowsL ⟨s, [], true, -1⟩) s.length).length : Int) else 0, plays (recR (begunL (rowsL ⟨s, [], true, -1⟩) s.length)) ⟨s, [], true, -1⟩) = _
  rw [hb, hpl]
  rfl

theorem lay_getD (L : List Pt) (s : List (List UInt8)) (j : Nat) (hj : j < s.length) : (lay L s).getD j [] = Dk.over (asW L) j (s.getD j []) := Dk.laid_getD _ _ _ hj

/-! ### the examples -/
def bothL : List Pt := [(41, sec 7), (42, sec 8)]
theorem may_both : mayB bothL ((Dk.new 43).secs.length : Nat) = true := by
  rw [may_iff]
  refine ⟨by simp [bothL], by simp [bothL], fun k hk => ?_⟩
  have hk2 : k < 2 := hk
  rw [okAt_iff _ _ _ hk]
  match k, hk2 with
  | 0, _ => exact ⟨fun j hj => by omega, by simp [bothL], by simp [bothL, Dk.new], by simp [bothL, sec]⟩
  | 1, _ =>
    refine ⟨fun j hj => ?_, by simp [bothL], by simp [bothL, Dk.new], by simp [bothL, sec]⟩
    obtain rfl : j = 0 := by omega
    simp [bothL]
theorem new_len (n : Nat) : (Dk.new n).secs.length = n := by simp [Dk.new]
theorem new_getD (n k : Nat) (hk : k < n) : (Dk.new n).secs.getD k [] = sec 0 := by simp [Dk.new, List.getD, hk, sec]

def s0 : List (List UInt8) := (Dk.new 43).secs
theorem s0_len : s0.length = 43 := new_len 43
theorem s0_at (k : Nat) (hk : k < 43) : s0.getD k [] = sec 0 := new_getD 43 k hk
theorem may_s0 : mayB bothL (s0.length : Nat) = true := may_both
theorem copies_both : copiesL bothL = [(1, sec 7), (2, sec 8)] := rfl

/-- the three disks -/
def exA : Dk := ⟨lay [((0 : Int), sec 0)] (lay bothL (lay [((0 : Int), hdL bothL)] (lay (copiesL bothL) s0))), [], true, -1⟩
def exB : Dk := ⟨lay (copiesL bothL) s0, [(0, hdL bothL)], false, 0⟩
def exR : Dk := ⟨lay [((0 : Int), hdL bothL)] (lay (copiesL bothL) s0), [], true, -1⟩
def exS : Dk := ⟨lay [((0 : Int), sec 0)] (lay bothL (lay [((0 : Int), hdL bothL)] (lay (copiesL bothL) s0))), [], true, -1⟩
def exC : Dk := ⟨lay (copiesL bothL) s0, [], true, -1⟩

theorem exA_commit : commitOf (Dk.new 43) bothL = (0, exA) := commit_free bothL s0 may_s0 (by rw [s0_len]; omega)
theorem exB_commit : commitOf { Dk.new 43 with budget := 4 } bothL = (10, exB) := by
  have hl : (sec 7).length = 128 := sec_length 7
  have h1 : s0.length = 43 := s0_len
  show commitOf ⟨s0, [], true, 4⟩ bothL = _
  unfold commitOf
  rw [if_pos may_s0]
  unfold commitR
  rw [copies_both]
  have w1 : (Stp.write [((1 : Int), sec 7), (2, sec 8)]).play ⟨s0, [], true, 4⟩ = (0, ⟨s0, asW (copiesL bothL), true, 2⟩) := by
    show wrsOf _ _ = _
    simp only [wrsOf]
    rw [wr_rec _ _ _ _ _ (by omega) (by rw [h1]; omega) (sec_length 7) (by omega), if_pos rfl, wr_rec _ _ _ _ _ (by omega) (by rw [h1]; omega) (sec_length 8) (by simp [pay]), if_pos rfl]
    rfl
  have w2 : (Stp.flush).play ⟨s0, asW (copiesL bothL), true, 2⟩ = (0, ⟨lay (copiesL bothL) s0, [], true, 1⟩) := by
    show flOf _ = _
    rw [fl_rec _ _ _ (by omega)]; rfl
  have w3 : (Stp.write [((0 : Int), hdL bothL)]).play ⟨lay (copiesL bothL) s0, [], true, 1⟩ = (0, ⟨lay (copiesL bothL) s0, [(0, hdL bothL)], true, 0⟩) := by
    show wrsOf _ _ = _
    rw [wrsOf_one, wr_rec _ _ _ _ _ (by dsimp only; omega) (by rw [lay_len, h1]; dsimp only; omega) (hdL_length _ (by simp [bothL])) (by omega)]
    rfl
  have w4 : (Stp.flush).play ⟨lay (copiesL bothL) s0, [(0, hdL bothL)], true, 0⟩ = (10, exB) := by
    show flOf _ = _
    rw [fl_rec_off _ _ _ _ (.inr rfl)]; rfl
  rw [plays_yes _ (by rw [w1]), w1, plays_yes _ (by rw [w2]), w2, plays_yes _ (by rw [w3]), w3, plays_no _ (by rw [w4]; simp), w4]
theorem exB_cut : (exB.cut [true]).on = exR := rfl
theorem exC_cut : (exB.cut []).on = exC := rfl
theorem ex_at (j : Nat) (hj : j < 43) : (lay (copiesL bothL) s0).getD j [] = if j = 1 then sec 7 else if j = 2 then sec 8 else sec 0 := by
  rw [lay_getD _ _ _ (by rw [s0_len]; omega), s0_at j hj, copies_both]
  show (if 2 = j then sec 8 else if 1 = j then sec 7 else sec 0) = _
  by_cases h1 : j = 1
  · subst h1; rfl
  · by_cases h2 : j = 2
    · subst h2; rfl
    · rw [if_neg (by omega), if_neg (by omega), if_neg h1, if_neg h2]
theorem exR_at (j : Nat) (hj : j < 43) : exR.secs.getD j [] = if j = 0 then hdL bothL else (lay (copiesL bothL) s0).getD j [] := by
  show (lay _ _).getD j [] = _
  rw [lay_getD _ _ _ (by rw [lay_len, s0_len]; omega)]
  show (if 0 = j then hdL bothL else _) = _
  by_cases h : j = 0
  · subst h; rfl
  · rw [if_neg (by omega), if_neg h]
theorem exR_recover : recoverOf exR = (2, 0, exS) := by
  have h := recover_free bothL (lay [((0 : Int), hdL bothL)] (lay (copiesL bothL) s0)) (by rw [lay_len, lay_len]; exact may_s0) (by rw [lay_len, lay_len, s0_len]; omega) (by rw [lay_len, lay_len, s0_len]; omega)
    (by have := exR_at 0 (by omega); exact this) (fun k hk => by
      have hk2 : k < 2 := hk
      have := exR_at (1 + k) (by omega)
      rw [if_neg (by omega), ex_at (1 + k) (by omega)] at this
      match k, hk2 with
      | 0, _ => exact this
      | 1, _ => exact this)
  exact h
theorem exC_recover : recoverOf exC = (0, 0, exC) := recoverOf_none (by show 41 < (lay _ _).length; rw [lay_len, s0_len]; omega) rfl (by
  have h := ex_at 0 (by omega)
  rw [if_neg (by omega), if_neg (by omega)] at h
  exact h)
theorem exA_read (i : Nat) (hi : i < 2) : exA.content (41 + i) = sec (if i = 0 then 7 else 8) := by
  show (lay _ _).getD (41 + i) [] = _
  rw [lay_getD _ _ _ (by rw [lay_len, lay_len, lay_len, s0_len]; omega), lay_getD _ _ _ (by rw [lay_len, lay_len, s0_len]; omega)]
  match i, hi with
  | 0, _ => rfl
  | 1, _ => rfl
theorem exC_read (i : Nat) (hi : i < 2) : exC.content (41 + i) = sec 0 := by
  show (lay _ _).getD (41 + i) [] = _
  rw [ex_at (41 + i) (by omega), if_neg (by omega), if_neg (by omega)]
theorem exA_len : exA.secs.length = 43 := by show (lay _ _).length = 43; rw [lay_len, lay_len, lay_len, lay_len, s0_len]
theorem exC_len : exC.secs.length = 43 := by show (lay _ _).length = 43; rw [lay_len, s0_len]
theorem exA_arg : commitOf exA [(40, sec 1)] = (1, exA) := by
  unfold commitOf
  rw [if_neg]
  rw [may_not _ _ (fun h => by
    have := h.2.2 0 (by simp)
    rw [okAt_iff _ _ _ (by simp)] at this
    have := this.2.1
    simp at this)]
  simp

end Go.Proofs.Ytinfgfgmijjhjaa
