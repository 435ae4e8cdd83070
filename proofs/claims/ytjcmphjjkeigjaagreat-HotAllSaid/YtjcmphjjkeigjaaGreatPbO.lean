/-
  A piece of the proof, laid together by program: HtW Hd2.
-/
import Derived.Test.YtjcmphjjkeigjaaGreatPbB
import Derived.Test.YtjcmphjjkeigjaaGreatPbL
import Derived.Test.YtjcmphjjkeigjaaGreatPbM
import Derived.Test.YtjcmphjjkeigjaaGreatPbN

namespace Go.Proofs.YtjcmphjjkeigjaaGreat
set_option linter.unusedVariables false
set_option linter.unusedSimpArgs false

/-- what the sectors have, by their numbers -/
structure StoredB (C : Nat → List UInt8) (h : Ht) : Prop where
  blob : ∀ s ∈ h.at_, ∀ k, k < s.pages.length → C (42 + s.pages.getD k 0) = (blobPut s.data s.pages k).2
  sum : ∀ s ∈ h.at_, s.sum = sumL s.data
structure Stored (C : Nat → List UInt8) (h : Ht) : Prop where
  b : StoredB C h
  super : C 41 = superL h.dir
  dir : ∀ k, k < h.dir.length → C (42 + h.dir.getD k 0) = (buildL (pairsL h.at_)).getD k []
  few : h.dir.length ≤ 59

/-! ### the superblock -/
theorem nums_at : ∀ (dir : List Nat) (Z : List UInt8) (k : Nat), k < dir.length → ((dir.flatMap (leB 2) ++ Z).drop (2 * k)).take 2 = leB 2 (dir.getD k 0)
  | [], Z, k, h => by simp at h
  | p :: r, Z, 0, h => by
    rw [List.flatMap_cons, List.append_assoc]
    simp only [Nat.mul_zero, List.drop_zero]
    exact List.take_left' (leB_length 2 p)
  | p :: r, Z, k + 1, h => by
    rw [List.flatMap_cons, List.append_assoc, show 2 * (k + 1) = (leB 2 p).length + 2 * k by rw [leB_length]; omega, ← List.drop_drop, List.drop_left, nums_at r Z k (by simpa using h)]
    rfl
theorem super_form (dir : List Nat) (h : dir.length ≤ 59) : ∃ Z, superL dir = markH ++ (leB 2 dir.length ++ (dir.flatMap (leB 2) ++ Z)) := by
  unfold superL
  rw [if_pos h]
  unfold padL sealL superRaw
  exact ⟨leB 4 (sumL (markH ++ (leB 2 dir.length ++ dir.flatMap (leB 2)))) ++ List.replicate (128 - (markH ++ (leB 2 dir.length ++ dir.flatMap (leB 2)) ++ leB 4 (sumL (markH ++ (leB 2 dir.length ++ dir.flatMap (leB 2))))).length) 0, by simp only [List.append_assoc]⟩
theorem super_nums (dir : List Nat) (h : dir.length ≤ 59) (hp : ∀ p ∈ dir, p < 65536) : dirNums (superL dir) = dir := by
  obtain ⟨Z, hZ⟩ := super_form dir h
  unfold dirNums
  rw [hZ]
  have h4 : (markH ++ (leB 2 dir.length ++ (dir.flatMap (leB 2) ++ Z))).drop 4 = leB 2 dir.length ++ (dir.flatMap (leB 2) ++ Z) := List.drop_left' (by rfl)
  rw [h4, List.take_left' (leB_length 2 _), le_leB 2 dir.length (by omega)]
  refine List.ext_getElem (by simp) fun k h1 h2 => ?_
  rw [List.getElem_map, List.getElem_range]
  have h6 : (markH ++ (leB 2 dir.length ++ (dir.flatMap (leB 2) ++ Z))).drop (6 + 2 * k) = (dir.flatMap (leB 2) ++ Z).drop (2 * k) := by
    rw [show 6 + 2 * k = 4 + (2 + 2 * k) by omega, ← List.drop_drop, h4, ← List.drop_drop, List.drop_left' (leB_length 2 _)]
  rw [h6, nums_at dir Z k h2, List.getD, List.getElem?_eq_getElem h2]
  exact le_leB 2 _ (hp _ (List.getElem_mem h2))
theorem superL_len (dir : List Nat) (h : dir.length ≤ 59) : (superL dir).length = 128 := by
  unfold superL
  rw [if_pos h]
  refine padL_length ?_
  have hf : (dir.flatMap (leB 2)).length = 2 * dir.length := flatMap_lenT (leB 2) 2 dir fun x _ => leB_length 2 x
  rw [sealL_length, superRaw, List.length_append, List.length_append, leB_length, hf]
  simp only [markH, List.length_cons, List.length_nil]
  omega

/-! ### a blob's chain -/
theorem chain_is {D : Dk} {N : Nat} (hN : N ≤ 65534) : ∀ (pages : List Nat) (f : Nat → List UInt8), (∀ k, k < pages.length → D.content (42 + pages.getD k 0) = leB 2 (linkN (pages.drop (k + 1))) ++ f k) → (∀ p ∈ pages, p < N) →
    chainOf D N pages.length (linkN pages) = some (pages, (List.range pages.length).flatMap f)
  | [], f, _, _ => rfl
  | p :: r, f, hc, hp => by
    have h0 := hc 0 (by simp)
    have hpN := hp p List.mem_cons_self
    simp only [List.getD_cons_zero, Nat.zero_add, List.drop_one, List.tail_cons] at h0
    have hl : linkN r < 65536 := by
      cases r with
      | nil => simp [linkN]
      | cons q r => have := hp q (by simp); simp [linkN]; omega
    have ih := chain_is hN r (fun k => f (k + 1)) (fun k hk => by
      have := hc (k + 1) (by simpa using hk)
      simpa using this) fun q hq => hp q (List.mem_cons_of_mem _ hq)
    rw [List.length_cons, show linkN (p :: r) = p + 1 from rfl, chainOf]
    rw [if_neg (by omega), show 41 + (p + 1) = 42 + p by omega, h0, List.take_left' (leB_length 2 _), le_leB 2 _ (by omega), ih]
    simp only [Nat.add_sub_cancel, List.drop_left' (leB_length 2 _)]
    rw [List.range_succ_eq_map, List.flatMap_cons, List.flatMap_map]

def chk (data : List UInt8) (k : Nat) : List UInt8 := (data.drop (126 * k)).take 126 ++ List.replicate (126 - ((data.drop (126 * k)).take 126).length) 0
theorem blobPut_form (data : List UInt8) (pages : List Nat) (k : Nat) : (blobPut data pages k).2 = leB 2 (linkN (pages.drop (k + 1))) ++ chk data k := by
  show padL (leB 2 (linkN (pages.drop (k + 1))) ++ (data.drop (126 * k)).take 126) = _
  unfold padL chk
  rw [List.length_append, leB_length, List.append_assoc]
  congr 3
  rw [List.length_take]
  omega
theorem blobPut_len (data : List UInt8) (pages : List Nat) (k : Nat) : (blobPut data pages k).2.length = 128 := by
  rw [blobPut_form, List.length_append, leB_length]
  unfold chk
  rw [List.length_append, List.length_replicate, List.length_take]
  omega
theorem chk_succ (data : List UInt8) (k : Nat) : chk data (k + 1) = chk (data.drop 126) k := by
  unfold chk
  rw [List.drop_drop, show 126 * (k + 1) = 126 + 126 * k by omega]
theorem chks (n : Nat) : ∀ data : List UInt8, data.length ≤ 126 * n → ((List.range n).flatMap (chk data)).take data.length = data := by
  induction n with
  | zero => intro data h; have : data = [] := List.eq_nil_of_length_eq_zero (by omega); subst this; rfl
  | succ n ih =>
    intro data h
    rw [List.range_succ_eq_map, List.flatMap_cons, List.flatMap_map]
    have h0 : chk data 0 = data.take 126 ++ List.replicate (126 - (data.take 126).length) 0 := rfl
    have hf : (fun k => chk data (Nat.succ k)) = chk (data.drop 126) := funext fun k => chk_succ data k
    rw [hf, h0]
    by_cases hl : data.length ≤ 126
    · rw [List.take_of_length_le hl, List.append_assoc]
      exact List.take_left' rfl
    · have h1 : (data.take 126).length = 126 := by rw [List.length_take]; omega
      rw [h1, Nat.sub_self, List.replicate_zero, List.append_nil]
      have h2 : data.length = (data.take 126).length + (data.drop 126).length := by rw [h1, List.length_drop]; omega
      rw [h2, List.take_append, List.take_of_length_le (by omega), Nat.add_sub_cancel_left, ih _ (by rw [List.length_drop]; omega), List.take_append_drop]

theorem chain_data {D : Dk} {s : Spt} (hs : s.pages.length = pfor s.data.length) (hc : ∀ k, k < s.pages.length → D.content (42 + s.pages.getD k 0) = (blobPut s.data s.pages k).2) : dataAt D s = s.data := by
  unfold dataAt
  have : (s.pages.flatMap fun p => (D.content (42 + p)).drop 2) = (List.range s.pages.length).flatMap (chk s.data) := by
    rw [show s.pages.flatMap (fun p => (D.content (42 + p)).drop 2) = (List.range s.pages.length).flatMap fun k => (D.content (42 + s.pages.getD k 0)).drop 2 from ?_]
    · unfold List.flatMap
      congr 1
      refine List.map_congr_left fun k hk => ?_
      rw [hc k (List.mem_range.1 hk), blobPut_form, List.drop_left' (leB_length 2 _)]
    · have he : s.pages = (List.range s.pages.length).map fun k => s.pages.getD k 0 := by
        refine List.ext_getElem (by simp) fun k h1 h2 => ?_
        rw [List.getElem_map, List.getElem_range, List.getD, List.getElem?_eq_getElem h1]
        rfl
      conv => lhs; rw [he]
      rw [List.flatMap_map]
  rw [this]
  refine chks _ _ ?_
  rw [hs]; unfold pfor; omega

/-! ### the pages are marked -/
theorem turn_mark (e : Int) (P : List Nat) : ∀ G : List Bool, P.Nodup → (∀ p ∈ P, p < G.length ∧ G.getD p false = false) → turnF false e G (P.map Int.ofNat) = (some (markF G P), 0) := by
  induction P with
  | nil => intro G _ _; rfl
  | cons p P ih =>
    intro G hn hp
    obtain ⟨h1, h2⟩ := hp p (by simp)
    rw [List.map_cons, turnF, if_neg (by simp; omega), if_neg (by simp only [Int.ofNat_eq_natCast, Int.toNat_natCast]; rw [h2]; simp)]
    show turnF false e (G.set p (!false)) (P.map Int.ofNat) = (some (markF (G.set p true) P), 0)
    rw [Bool.not_false]
    refine ih _ (List.nodup_cons.1 hn).2 fun q hq => ?_
    obtain ⟨h3, h4⟩ := hp q (by simp [hq])
    refine ⟨by rw [List.length_set]; exact h3, ?_⟩
    rw [set_getD, if_neg (fun h : p = q ∧ _ => (List.nodup_cons.1 hn).1 (h.1 ▸ hq)), h4]

theorem val_parts {s : Spt} (hk : SptOk s) (hp : ∀ p ∈ s.pages, p < 2006) : valN s % 65536 = linkN s.pages ∧ valN s / 65536 % 65536 = s.data.length ∧ valN s / 4294967296 = s.sum ∧ valN s < 18446744073709551616 := by
  have h1 := linkN_lt hp
  have h2 := hk.size
  have h3 := hk.sum
  unfold valN
  generalize linkN s.pages = a at *
  generalize s.data.length = b at *
  generalize s.sum = c at *
  omega

theorem loadBlob_of {D : Dk} {F F' : List Bool} {key v link size sum : Nat} {r : List Nat × List UInt8} (h1 : v % 65536 = link) (h2 : v / 65536 % 65536 = size) (h3 : v / 4294967296 = sum) (h4 : size ≤ 4032)
    (h5 : chainOf D F.length (pfor size) link = some r) (h6 : (turnF false 15 F (r.1.map Int.ofNat)).1 = some F') : loadBlob D F (key, v) = some (⟨key, r.1, r.2.take size, sum⟩, F') := by
  unfold loadBlob
  simp only [h1, h2, h3, h5, h6]
  rw [if_neg (by omega)]
theorem loadsStep_yes {D : Dk} {A : List Spt} {F : List Bool} {p : Nat × Nat} {r : Spt × List Bool} (h : loadBlob D F p = some r) : loadsStep D (some (A, F)) p = some (A ++ [r.1], r.2) := by
  unfold loadsStep
  simp only [h]
theorem loads_cons (D : Dk) (s : Option (List Spt × List Bool)) (p : Nat × Nat) (l : List (Nat × Nat)) : loadsOf D s (p :: l) = loadsOf D (loadsStep D s p) l := rfl
theorem pairs_cons (s : Spt) (L : List Spt) : pairsL (s :: L) = (s.key, valN s) :: pairsL L := rfl

theorem loadBlob_is {D : Dk} {F : List Bool} {s : Spt} (hk : SptOk s) (hF : F.length ≤ 2006) (hn : s.pages.Nodup) (hp : ∀ p ∈ s.pages, p < F.length ∧ F.getD p false = false)
    (hc : ∀ k, k < s.pages.length → D.content (42 + s.pages.getD k 0) = (blobPut s.data s.pages k).2) : loadBlob D F (s.key, valN s) = some (s, markF F s.pages) := by
  obtain ⟨v1, v2, v3, _⟩ := val_parts hk fun p hq => by have := (hp p hq).1; omega
  have h1 := loadBlob_of (D := D) (F := F) (key := s.key) v1 v2 v3 hk.size (r := (s.pages, (List.range s.pages.length).flatMap (chk s.data))) (by
    rw [← hk.pages]
    exact chain_is (by omega) s.pages (chk s.data) (fun k hk => by rw [hc k hk, blobPut_form]) fun p hq => (hp p hq).1) (F' := markF F s.pages) (by rw [turn_mark 15 s.pages F hn hp])
  rw [h1, chks _ _ (by rw [hk.pages]; unfold pfor; omega)]
theorem loads_is {D : Dk} : ∀ (L A : List Spt) (F : List Bool), (∀ s ∈ L, SptOk s) → F.length ≤ 2006 → (L.flatMap (·.pages)).Nodup → (∀ p ∈ L.flatMap (·.pages), p < F.length ∧ F.getD p false = false) →
    (∀ s ∈ L, ∀ k, k < s.pages.length → D.content (42 + s.pages.getD k 0) = (blobPut s.data s.pages k).2) → loadsOf D (some (A, F)) (pairsL L) = some (A ++ L, markF F (L.flatMap (·.pages)))
  | [], A, F, _, _, _, _, _ => by simp [loadsOf, pairsL, markF]
  | s :: L, A, F, hk, hF, hn, hp, hc => by
    rw [List.flatMap_cons] at hn hp ⊢
    obtain ⟨n1, n2, n3⟩ := List.nodup_append.1 hn
    rw [pairs_cons, loads_cons, loadsStep_yes (loadBlob_is (hk s List.mem_cons_self) hF n1 (fun p hq => hp p (List.mem_append_left _ hq)) (hc s List.mem_cons_self))]
    rw [loads_is L (A ++ [s]) _ (fun t ht => hk t (List.mem_cons_of_mem _ ht)) (by rw [markF_len]; exact hF) n2 (fun p hq => ⟨by rw [markF_len]; exact (hp p (List.mem_append_right _ hq)).1, by
      rw [markF_getD, (hp p (List.mem_append_right _ hq)).2, decide_eq_false fun h => n3 p h p hq rfl]; rfl⟩) (fun t ht => hc t (List.mem_cons_of_mem _ ht))]
    rw [List.append_assoc]
    congr 2
    unfold markF
    rw [List.foldl_append]

theorem pairs_fit {h : Ht} (k : HtOk h) : FitsT 1 (pairsL h.at_) := by
  intro p hp
  obtain ⟨s, hs, rfl⟩ := List.mem_map.1 hp
  exact ⟨(k.each s hs).key, (val_parts (k.each s hs) fun p hq => Nat.lt_of_lt_of_le (k.page hs hq) k.len).2.2.2⟩
theorem pairs_may {h : Ht} (k : HtOk h) : mayL (pairsL h.at_) = true := by
  refine mayL_of ?_ (by unfold pairsL; rw [List.length_map]; exact k.few)
  unfold pairsL
  rw [List.pairwise_map]
  exact k.asc
theorem dir_len {h : Ht} (k : HtOk h) : (buildL (pairsL h.at_)).length = h.dir.length := by
  rw [buildL_length, k.dir]; unfold pairsL; rw [List.length_map]

/-- what is stored is loaded -/
theorem load_stored {D : Dk} {h : Ht} (k : HtOk h) (hs : Stored D.content h) (hn : h.used.length + 42 = D.secs.length) : loadOf D = some h := by
  have hnod := List.nodup_append.1 k.nodup
  have hN : D.secs.length - 42 = h.used.length := by omega
  have hdl := dir_len k
  unfold loadOf loadDir dirOf
  rw [hs.super, super_nums h.dir hs.few fun p hp => by have := k.dirp hp; have := k.len; omega, if_pos rfl]
  dsimp only
  rw [hN, turn_mark 15 h.dir _ hnod.1 fun p hp => ⟨by rw [List.length_replicate]; exact k.dirp hp, by
    rw [List.getD, List.getElem?_replicate]; split <;> rfl⟩]
  dsimp only
  have hpg : (h.dir.map fun p => D.content (42 + p)) = buildL (pairsL h.at_) := by
    refine List.ext_getElem (by rw [List.length_map, hdl]) fun i h1 h2 => ?_
    rw [List.length_map] at h1
    have := hs.dir i h1
    rw [List.getD, List.getD, List.getElem?_eq_getElem h1, List.getElem?_eq_getElem h2] at this
    rw [List.getElem_map]
    exact this
  rw [hpg, allR_build _ (pairs_may k) (pairs_fit k)]
  dsimp only
  have hfree : ∀ p ∈ h.at_.flatMap (·.pages), p < (markF (List.replicate h.used.length false) h.dir).length ∧ (markF (List.replicate h.used.length false) h.dir).getD p false = false := fun p hp => by
    obtain ⟨s, hs1, hs2⟩ := List.mem_flatMap.1 hp
    refine ⟨by rw [markF_len, List.length_replicate]; exact k.page hs1 hs2, ?_⟩
    rw [markF_getD, decide_eq_false fun hd => hnod.2.2 p hd p hp rfl, List.getD, List.getElem?_replicate]
    split <;> rfl
  rw [loads_is h.at_ [] _ k.each (by rw [markF_len, List.length_replicate]; exact k.len) hnod.2.1 hfree hs.b.blob]
  dsimp only
  have hu : markF (markF (List.replicate h.used.length false) h.dir) (h.at_.flatMap (·.pages)) = h.used := by
    refine flags_ext _ _ (by rw [markF_len, markF_len, List.length_replicate]) fun p _ => ?_
    rw [markF_getD, markF_getD, markF_len, List.length_replicate]
    have hz : (List.replicate h.used.length false).getD p false = false := by
      rw [List.getD, List.getElem?_replicate]; split <;> rfl
    rw [hz, Bool.eq_iff_iff, k.used p, List.mem_append]
    simp only [Bool.false_or, Bool.or_eq_true, Bool.and_eq_true, decide_eq_true_eq]
    constructor
    · rintro (h1 | h1)
      · exact .inl h1.1
      · exact .inr h1.1
    · rintro (h1 | h1)
      · exact .inl ⟨h1, k.dirp h1⟩
      · obtain ⟨s, hs1, hs2⟩ := List.mem_flatMap.1 h1
        exact .inr ⟨h1, k.page hs1 hs2⟩
  rw [hu, List.nil_append]

/-- what is stored is got -/
theorem get_stored {D : Dk} {h : Ht} (k : HtOk h) (hs : StoredB D.content h) (hp : D.power = true) (q : Nat) : getOf D h q = match atL h.at_ q with
    | none => (6, [])
    | some s => (0, s.data) := by
  unfold getOf
  cases ha : atL h.at_ q with
  | none => rfl
  | some s =>
    have hm := atL_mem ha
    have hd := chain_data (D := D) (k.each s hm).pages (hs.blob s hm)
    dsimp only
    rw [hd, hs.sum s hm, hp]
    simp

/-! ### the puts of a plan -/
theorem over_mem : ∀ (ws : List (Nat × List UInt8)) (x : Nat × List UInt8) (s : List UInt8), (ws.map (·.1)).Nodup → x ∈ ws → Dk.over ws x.1 s = x.2 := by
  intro ws x s hn hx
  obtain ⟨a, b, rfl⟩ := List.append_of_mem hx
  refine Dk.over_hit a b x x.1 s rfl fun y hy e => ?_
  rw [List.map_append, List.map_cons] at hn
  have h2 := (List.nodup_append.1 hn).2.1
  exact (List.nodup_cons.1 h2).1 (e ▸ List.mem_map_of_mem (f := fun p : Nat × List UInt8 => p.1) hy)
theorem getD_range (l : List Nat) : (List.range l.length).map (fun k => l.getD k 0) = l := by
  refine List.ext_getElem (by simp) fun k h1 h2 => ?_
  rw [List.getElem_map, List.getElem_range, List.getD, List.getElem?_eq_getElem h2]
  rfl
theorem places_blob {s : Spt} (h : s.pages.length = pfor s.data.length) : (asW (blobPuts s.data s.pages)).map (·.1) = s.pages.map fun p => 42 + p := by
  unfold asW blobPuts
  rw [List.map_map, List.map_map, ← h]
  conv => rhs; rw [← getD_range s.pages]
  rw [List.map_map]
  refine List.map_congr_left fun k _ => ?_
  rfl
theorem places_blobs : ∀ L : List Spt, (∀ s ∈ L, s.pages.length = pfor s.data.length) → (asW (L.flatMap fun s => blobPuts s.data s.pages)).map (·.1) = (L.flatMap (·.pages)).map fun p => 42 + p
  | [], _ => rfl
  | s :: L, h => by
    rw [List.flatMap_cons, List.flatMap_cons, List.map_append]
    unfold asW
    rw [List.map_append, List.map_append]
    have h1 := places_blob (h s List.mem_cons_self)
    have h2 := places_blobs L fun t ht => h t (List.mem_cons_of_mem _ ht)
    unfold asW at h1 h2
    rw [h1, h2]
theorem places_dir {l : List Spt} {dir : List Nat} (h : (buildL (pairsL l)).length = dir.length) : (asW (dirPuts l dir)).map (·.1) = dir.map fun p => 42 + p := by
  unfold asW dirPuts dirPutsP
  rw [List.map_map, List.map_map, h]
  conv => rhs; rw [← getD_range dir]
  rw [List.map_map]
  refine List.map_congr_left fun k _ => ?_
  rfl

theorem Planned.places {h x : Ht} {l : List Chg} {P : List Nat} {q : List Pt} (k : Planned h l P x q) (hm : mayC l = true) : (asW q).map (·.1) = (P.map fun p => 42 + p) ++ [41] := by
  rw [k.puts]
  have h1 := places_blobs (newsL l P) fun s hs => (news_mem l P k.enough s hs).1
  have h2 := places_dir (dir_len k.ok)
  unfold asW at *
  rw [List.map_append, List.map_append, List.map_append, List.map_append, h1, h2, news_pages l P (mayC_gone hm), k.dir]
  rw [← List.append_assoc, ← List.map_append, List.take_append_drop]
  rfl
theorem Planned.places_nodup {h x : Ht} {l : List Chg} {P : List Nat} {q : List Pt} (k : Planned h l P x q) (hm : mayC l = true) : ((asW q).map (·.1)).Nodup := by
  rw [k.places hm]
  refine List.nodup_append.2 ⟨?_, by simp, ?_⟩
  · unfold List.Nodup
    rw [List.pairwise_map]
    exact k.free.1.imp fun h e => h (by omega)
  · intro a ha b hb e
    obtain ⟨p, _, rfl⟩ := List.mem_map.1 ha
    simp at hb
    omega
theorem Planned.length {h x : Ht} {l : List Chg} {P : List Nat} {q : List Pt} (k : Planned h l P x q) (hm : mayC l = true) : q.length = P.length + 1 := by
  have := congrArg List.length (k.places hm)
  unfold asW at this
  simpa using this
theorem Planned.dirfew {h x : Ht} {l : List Chg} {P : List Nat} {q : List Pt} (k : Planned h l P x q) : x.dir.length ≤ 59 := by
  rw [k.dir, List.length_drop]
  have := k.few
  omega
theorem Planned.put {h x : Ht} {l : List Chg} {P : List Nat} {q : List Pt} (k : Planned h l P x q) : ∀ p ∈ q, p.2.length = 128 ∧ 0 ≤ p.1 := by
  rw [k.puts]
  intro p hp
  rcases List.mem_append.1 hp with hp | hp
  · obtain ⟨s, hs, hp⟩ := List.mem_flatMap.1 hp
    obtain ⟨i, _, rfl⟩ := List.mem_map.1 hp
    exact ⟨blobPut_len _ _ _, Int.natCast_nonneg _⟩
  · rcases List.mem_append.1 hp with hp | hp
    · obtain ⟨i, hi, rfl⟩ := List.mem_map.1 hp
      have hi := List.mem_range.1 hi
      have hpg := (built_pages (pairsL x.at_) (mayL_asc (pairs_may k.ok)).1 (pairs_fit k.ok) (mayL_asc (pairs_may k.ok)).2).1
      refine ⟨?_, Int.natCast_nonneg _⟩
      show ((buildL (pairsL x.at_)).getD i []).length = 128
      rw [List.getD, List.getElem?_eq_getElem hi]
      exact (isP_may (hpg _ (List.getElem_mem hi))).1
    · simp at hp
      subst hp
      exact ⟨superL_len _ k.dirfew, by simp⟩
theorem Planned.may {h x : Ht} {l : List Chg} {P : List Nat} {q : List Pt} (k : Planned h l P x q) (hm : mayC l = true) : mayB q ((h.used.length + 42 : Nat) : Int) = true := by
  refine (may_iff _ _).2 ⟨by rw [k.length hm]; omega, by rw [k.length hm]; exact k.few, fun i hi => (okAt_iff _ _ _ hi).2 ?_⟩
  have hpl := k.places hm
  have hnd := k.places_nodup hm
  have hget : ∀ j (hj : j < q.length), ((asW q).map (·.1))[j]? = some (q.getD j (0, [])).1.toNat := fun j hj => by
    unfold asW
    rw [List.map_map, List.getElem?_map, List.getD, List.getElem?_eq_getElem hj]; rfl
  have hmem : q.getD i (0, []) ∈ q := by rw [List.getD, List.getElem?_eq_getElem hi]; exact List.getElem_mem hi
  obtain ⟨h128, h0⟩ := k.put _ hmem
  have hin : (q.getD i (0, [])).1.toNat ∈ (P.map fun p => 42 + p) ++ [41] := by rw [← hpl]; exact List.mem_of_getElem? (hget i hi)
  have hb : 41 ≤ (q.getD i (0, [])).1.toNat ∧ (q.getD i (0, [])).1.toNat < h.used.length + 42 := by
    rcases List.mem_append.1 hin with hp | hp
    · obtain ⟨p, hp, e⟩ := List.mem_map.1 hp
      have := (k.free.2 p hp).1
      omega
    · have hp := List.mem_singleton.1 hp
      omega
  refine ⟨fun j hj e => ?_, by omega, by omega, h128⟩
  have h1 := hget j (by omega)
  have h2 := hget i hi
  rw [e] at h1
  have hlen : ((asW q).map (·.1)).length = q.length := by unfold asW; simp
  have := (List.getElem?_inj (by omega) hnd).1 (h1.trans h2.symm)
  omega

/-- behind a batch the sectors have the next store -/
theorem Planned.stored {h x : Ht} {l : List Chg} {P : List Nat} {q : List Pt} (k : Planned h l P x q) (hk : HtPre h) (hm : mayC l = true) {C C' : Nat → List UInt8} (hs : StoredB C h) (hC : ∀ j, 41 ≤ j → j < h.used.length + 42 → C' j = Dk.over (asW q) j (C j)) : Stored C' x := by
  have hnd := k.places_nodup hm
  have hpl := k.places hm
  have hin : ∀ (p : Nat) (b : List UInt8), (((p : Nat) : Int), b) ∈ q → 41 ≤ p → p < h.used.length + 42 → C' p = b := fun p b hp h1 h2 => by
    rw [hC p h1 h2]
    have : (p, b) ∈ asW q := by
      unfold asW
      exact List.mem_map.2 ⟨_, hp, by simp⟩
    exact over_mem _ _ _ hnd this
  have hout : ∀ p, 41 ≤ p → p < h.used.length + 42 → p ≠ 41 → (∀ r ∈ P, p ≠ 42 + r) → C' p = C p := fun p h1 h2 h3 h4 => by
    rw [hC p h1 h2]
    refine Dk.over_none _ _ _ fun y hy e => ?_
    have : y.1 ∈ (P.map fun p => 42 + p) ++ [41] := by rw [← hpl]; exact List.mem_map_of_mem (f := fun p : Nat × List UInt8 => p.1) hy
    rcases List.mem_append.1 this with hp | hp
    · obtain ⟨r, hr, e2⟩ := List.mem_map.1 hp
      exact h4 r hr (by omega)
    · simp at hp; omega
  have hputs := k.puts
  have hlen := k.len
  refine ⟨⟨?_, ?_⟩, ?_, ?_, k.dirfew⟩
  · intro s hs1 i hi
    rcases List.mem_append.1 (k.at_.subset hs1) with hs2 | hs2
    · obtain ⟨hs3, hkey⟩ := kept_mem.1 hs2
      have hpi : s.pages.getD i 0 ∈ s.pages := by rw [List.getD, List.getElem?_eq_getElem hi]; exact List.getElem_mem hi
      have hu := (hk.used (s.pages.getD i 0)).2 (List.mem_append_right _ (List.mem_flatMap.2 ⟨s, hs3, hpi⟩))
      have hlt : s.pages.getD i 0 < h.used.length := by
        rcases Nat.lt_or_ge (s.pages.getD i 0) h.used.length with hh | hh
        · exact hh
        · rw [List.getD, List.getElem?_eq_none hh] at hu; cases hu
      rw [hout _ (by omega) (by omega) (by omega) fun r hr e => ?_]
      · exact hs.blob s hs3 i hi
      · have h1 := (k.free.2 r hr).2
        rw [show s.pages.getD i 0 = r by omega, h1] at hu
        cases hu
    · obtain ⟨h1, _, _⟩ := news_mem l P k.enough s hs2
      have hpi : s.pages.getD i 0 ∈ s.pages := by rw [List.getD, List.getElem?_eq_getElem hi]; exact List.getElem_mem hi
      have hlt : s.pages.getD i 0 < h.used.length := by rw [← hlen]; exact k.ok.page hs1 hpi
      refine hin _ _ ?_ (by omega) (by omega)
      rw [hputs]
      refine List.mem_append_left _ (List.mem_flatMap.2 ⟨s, hs2, ?_⟩)
      unfold blobPuts
      exact List.mem_map.2 ⟨i, List.mem_range.2 (by omega), rfl⟩
  · intro s hs1
    rcases List.mem_append.1 (k.at_.subset hs1) with hs2 | hs2
    · exact hs.sum s (kept_mem.1 hs2).1
    · exact (news_mem l P k.enough s hs2).2.1
  · refine hin 41 _ ?_ (by omega) (by omega)
    rw [hputs]
    exact List.mem_append_right _ (List.mem_append_right _ (by simp))
  · intro i hi
    have hpi : x.dir.getD i 0 ∈ x.dir := by rw [List.getD, List.getElem?_eq_getElem hi]; exact List.getElem_mem hi
    have hlt : x.dir.getD i 0 < h.used.length := by rw [← hlen]; exact k.ok.dirp hpi
    refine hin _ _ ?_ (by omega) (by omega)
    rw [hputs]
    refine List.mem_append_right _ (List.mem_append_left _ ?_)
    unfold dirPuts dirPutsP
    exact List.mem_map.2 ⟨i, List.mem_range.2 (by rw [dir_len k.ok]; exact hi), rfl⟩

end Go.Proofs.YtjcmphjjkeigjaaGreat

namespace Go.Proofs.YtjcmphjjkeigjaaGreat
open Go.RowKit
set_option linter.unusedVariables false
set_option linter.unusedSimpArgs false

section
variable {P : Program} {ops : Array Oper} {Q : Exit → Act → World → Prop} {md : Region.Mode} {S : World → Prop}

def wpHdW (P : Program) (md : Region.Mode) (ops : Array Oper) (Q : Exit → Act → World → Prop) (S : World → Prop) (m n : Nat) (L : Array Bool → Act → World → Prop) : Nat → Array Bool → Act → World → Prop
  | 0, listed, a, w => L listed a w
  | f + 1, listed, a, w => Region.ready md ops listed ≠ [] ∧ ∀ i ∈ Region.ready md ops listed, i < n ∧ wpOp P ops (NoPanic Q) i (fun a' w' => ((listed.setIfInBounds i true).getD m true = false → S w') ∧ wpHdW P md ops Q S m n L f (listed.setIfInBounds i true) a' w') a w

theorem wpAny_of_hdW {m n g : Nat} {L : Array Bool → Act → World → Prop} (hL : ∀ listed a w, L listed a w → wpAny P md ops Q g listed a w) :
    ∀ (f : Nat) (listed : Array Bool) (a : Act) (w : World), wpHdW P md ops Q S m n L f listed a w → wpAny P md ops Q (f + g) listed a w
  | 0, listed, a, w, h => by rw [Nat.zero_add]; exact hL _ _ _ h
  | f + 1, listed, a, w, h => by
    rw [show f + 1 + g = (f + g) + 1 by omega]
    exact ⟨fun h0 => absurd h0 h.1, fun i hi => wpOp_mono (fun a' w' h' => wpAny_of_hdW hL f _ a' w' h'.2) (wpOp_calm (h.2 i hi).2)⟩

theorem wpHdW_first {m n i : Nat} {oi : Oper} {v : Value} {T : World → Prop} {L : Array Bool → Act → World → Prop} (hi : ops[i]? = some oi) (hsel : ∀ (j : Nat) (o : Oper) cs b, ops[j]? = some o → o.op ≠ .select cs b)
    (him : i ≠ m) (hTS : (∀ w, T w) ∨ ((∀ w, S w → T w) ∧ Region.waitsFor md ops m i = true))
    (hin : i < n) (hT : ∀ t, n ≤ t → t < ops.size → Region.waitsFor md ops t i = true) (hdone : ∀ listed a w, L listed a w → ∀ j ∈ Region.ready md ops listed, n ≤ j) :
    ∀ (f : Nat) (listed : Array Bool) (a : Act) (w : World),
      (∀ j oj, ops[j]? = some oj → j ≠ i → listed.getD j true = false → (∀ e ∈ oj.after, Region.binds md e = true → e.on ≠ i) → oi.apart ops oj = true) →
      i ∈ Region.ready md ops listed → YieldsIf P ops T oi v a → (listed.getD m true = false → S w) → ((∀ w, T w) ∨ listed.getD m true = false) →
      wpHdW P md ops Q S m n L f (listed.setIfInBounds i true) (a.put oi.dst v) w → wpHdW P md ops Q S m n L (f + 1) listed a w := by
  have early : ∀ (listed : Array Bool), i ∈ Region.ready md ops listed → ∀ j ∈ Region.ready md ops listed, j < n := fun listed hr j hj => by
    rcases Nat.lt_or_ge j n with h | h
    · exact h
    · obtain ⟨_, oj, hoj, hall⟩ := mem_ready.1 hj
      obtain ⟨oj', hoj', e, he, hb, hon⟩ := Region.waitsFor_spec (hT j h (Array.getElem?_eq_some_iff.1 hoj).1)
      have : oj' = oj := Option.some.inj (hoj'.symm.trans hoj)
      subst this
      have h1 := hall e he hb
      rw [hon, getD_both (mem_ready.1 hr).1] at h1
      cases h1
  have hset : ∀ (listed : Array Bool), (listed.setIfInBounds i true).getD m true = listed.getD m true := fun listed => getD_set_ne true him
  have hat : ∀ (listed : Array Bool) (w : World), (listed.getD m true = false → S w) → ((∀ w, T w) ∨ listed.getD m true = false) → T w := fun listed w hS hc => by
    rcases hTS with h | ⟨h, _⟩
    · exact h w
    · rcases hc with hc | hc
      · exact hc w
      · exact h w (hS hc)
  intro f
  induction f with
  | zero =>
    intro listed a w _ hr hy hS hc H
    refine ⟨fun h => (by rw [h] at hr; cases hr), fun j hj => ⟨early listed hr j hj, ?_⟩⟩
    by_cases hji : j = i
    · subst hji; exact hy.wpOp hi (hat listed w hS hc) ⟨by rw [hset]; exact hS, H⟩
    · have := hdone _ _ _ H j (ready_mono hj hji)
      have := early listed hr j hj
      omega
  | succ f ih =>
    intro listed a w hfree hr hy hS hc H
    refine ⟨fun h => (by rw [h] at hr; cases hr), fun j hj => ⟨early listed hr j hj, ?_⟩⟩
    by_cases hji : j = i
    · subst hji; exact hy.wpOp hi (hat listed w hS hc) ⟨by rw [hset]; exact hS, H⟩
    · have h1 := (H.2 j (ready_mono hj hji)).2
      obtain ⟨hjun, oj, hoj, hall⟩ := mem_ready.1 hj
      have hnot : ∀ e ∈ oj.after, Region.binds md e = true → e.on ≠ i := fun e he hb heq => by
        have h1 := hall e he hb
        rw [heq, getD_both (mem_ready.1 hr).1] at h1
        cases h1
      have h2 := wpOp_putIf (Q := NoPanic Q) hoj (hfree j oj hoj hji hjun hnot) (fun cs b => hsel i oi cs b hi) (fun cs b => hsel j oj cs b hoj) (fun _ _ _ h => h) hy h1
      have hfree' : ∀ k ok, ops[k]? = some ok → k ≠ i → (listed.setIfInBounds j true).getD k true = false →
          (∀ e ∈ ok.after, Region.binds md e = true → e.on ≠ i) → oi.apart ops ok = true := fun k ok hk hki hun hno => by
        refine hfree k ok hk hki ?_ hno
        by_cases hjk : j = k
        · subst hjk; exact hjun
        · rw [getD_set_ne true hjk] at hun; exact hun
      have hsw : (listed.setIfInBounds i true).setIfInBounds j true = (listed.setIfInBounds j true).setIfInBounds i true := Array.setIfInBounds_comm _ _ (Ne.symm hji)
      have hc' : (∀ w, T w) ∨ (listed.setIfInBounds j true).getD m true = false := by
        rcases hTS with h | ⟨_, hw⟩
        · exact .inl h
        · have hjm : j ≠ m := by
            intro e
            subst e
            obtain ⟨oj', hoj', e, he, hb, hon⟩ := Region.waitsFor_spec hw
            have : oj' = oj := Option.some.inj (hoj'.symm.trans hoj)
            subst this
            exact hnot e he hb hon
          rw [getD_set_ne true hjm]
          exact hc
      refine wpOp_mono (fun a' w' h3 => ?_) h2
      rw [hsw] at h3
      have hS' : (listed.setIfInBounds j true).getD m true = false → S w' := fun hmu => h3.2.1 (by rw [hset]; exact hmu)
      exact ⟨hS', ih (listed.setIfInBounds j true) a' w' hfree' (ready_mono hr (Ne.symm hji)) h3.1 hS' hc' h3.2.2⟩

/-- the head in an order of our choice: W's operations yield in whatever world, m is the last that is carried out -/
def wpSeqW (P : Program) (ops : Array Oper) (Q : Exit → Act → World → Prop) (S : World → Prop) (m : Nat) (M W : List Nat) (L : Act → World → Prop) : List (Nat × Oper) → Act → World → Prop
  | [], a, w => L a w
  | (k, o) :: rest, a, w =>
    if k = m then o.wp P a w (fun a' w' => wpSeqW P ops Q S m M W L rest a' w') (NoPanic Q) ∧ Region.wanted o (yielded ops a.tmps) = true
    else if M.contains k then o.wp P a w (fun a' w' => S w' ∧ wpSeqW P ops Q S m M W L rest a' w') (NoPanic Q) ∧ Region.wanted o (yielded ops a.tmps) = true
    else ∃ v, YieldsIf P ops (fun w => W.contains k = true ∨ S w) o v a ∧ wpSeqW P ops Q S m M W L rest (a.put o.dst v) w

def lexW (md : Region.Mode) (ops : Array Oper) (m : Nat) (M W : List Nat) (g n : Nat) : List Nat → Array Bool → Bool
  | [], listed => Region.seqB md ops g n listed
  | k :: r, listed => decide (k < n) && (if k = m ∨ M.contains k = true then decide (Region.ready md ops listed = [k]) && decide (listed.getD m true = false)
      else (Region.ready md ops listed).contains k && Region.free md ops listed k && (W.contains k || (Region.waitsFor md ops m k && decide (listed.getD m true = false)))) && lexW md ops m M W g n r (listed.setIfInBounds k true)

def headW (md : Region.Mode) (ops : Array Oper) (n m : Nat) (order M W : List Nat) : Bool :=
  Region.noSelect ops && decide (n ≤ ops.size) && decide (order.length = n) && decide (m < ops.size) && ((List.range ops.size).all fun t => decide (t < n) || (List.range n).all fun i => Region.waitsFor md ops t i) && lexW md ops m M W (ops.size - n) n order (Array.replicate ops.size false)

theorem getD_set_self {listed : Array Bool} {m : Nat} (h : listed.getD m true = false) : (listed.setIfInBounds m true).getD m true = true := by
  have hm : m < listed.size := by
    rcases Nat.lt_or_ge m listed.size with hh | hh
    · exact hh
    · simp [Array.getElem?_eq_none hh] at h
  simp [hm]
theorem wpHdW_lex {n g m : Nat} {M W : List Nat} {l0 : List Oper} {Lq : Act → World → Prop} (hops : ops = l0.toArray) (hsz : n ≤ ops.size) (hsel : Region.noSelect ops = true) (hT : ∀ i, i < n → ∀ t, n ≤ t → t < ops.size → Region.waitsFor md ops t i = true) :
    ∀ (order : List Nat) (listed : Array Bool) (a : Act) (w : World), (listed.getD m true = false → S w) →
    lexW md ops m M W g n order listed = true → wpSeqW P ops Q S m M W Lq (pickO l0 order) a w →
    wpHdW P md ops Q S m n (fun listed' a' w' => Region.seqB md ops g n listed' = true ∧ Lq a' w') order.length listed a w
  | [], listed, a, w, hS, hB, h => ⟨by simpa [lexW] using hB, h⟩
  | k :: l, listed, a, w, hS, hB, h => by
    simp only [lexW, Bool.and_eq_true, decide_eq_true_eq] at hB
    obtain ⟨⟨hkn, hB1⟩, hB2⟩ := hB
    obtain ⟨o, h0⟩ : ∃ o, ops[k]? = some o := ⟨ops[k]'(by omega), Array.getElem?_eq_getElem _⟩
    have h0l : l0[k]? = some o := by rw [hops] at h0; simpa using h0
    rw [show pickO l0 (k :: l) = (k, o) :: pickO l0 l by simp [pickO, h0l]] at h
    unfold wpSeqW at h
    by_cases hkm : k = m
    · rw [if_pos (.inl hkm)] at hB1
      rw [if_pos hkm] at h
      simp only [Bool.and_eq_true, decide_eq_true_eq] at hB1
      have hr : Region.ready md ops listed = [k] := hB1.1
      refine ⟨by rw [hr]; simp, fun i hi => ?_⟩
      rw [hr] at hi
      have hik : i = k := by simpa using hi
      subst hik
      refine ⟨hkn, ?_⟩
      unfold wpOp
      simp only [h0]
      rw [if_pos h.2]
      have hself : (listed.setIfInBounds i true).getD m true = true := by rw [hkm]; exact getD_set_self hB1.2
      exact .inl (Oper.wp_mono (fun a' w' h' => ⟨fun hf => (by rw [hself] at hf; cases hf), wpHdW_lex hops hsz hsel hT l _ a' w' (fun hf => (by rw [hself] at hf; cases hf)) hB2 h'⟩) h.1)
    · rw [if_neg hkm] at h
      by_cases hm : M.contains k = true
      · rw [if_pos (.inr hm)] at hB1
        rw [if_pos hm] at h
        simp only [Bool.and_eq_true, decide_eq_true_eq] at hB1
        have hr : Region.ready md ops listed = [k] := hB1.1
        refine ⟨by rw [hr]; simp, fun i hi => ?_⟩
        rw [hr] at hi
        have hik : i = k := by simpa using hi
        subst hik
        refine ⟨hkn, ?_⟩
        unfold wpOp
        simp only [h0]
        rw [if_pos h.2]
        exact .inl (Oper.wp_mono (fun a' w' h' => ⟨fun _ => h'.1, wpHdW_lex hops hsz hsel hT l _ a' w' (fun _ => h'.1) hB2 h'.2⟩) h.1)
      · rw [if_neg (by rintro (e | e); exact hkm e; exact hm e)] at hB1
        rw [if_neg hm] at h
        simp only [Bool.and_eq_true, Bool.or_eq_true, decide_eq_true_eq] at hB1
        obtain ⟨v, hy, hK⟩ := h
        have hnext := wpHdW_lex hops hsz hsel hT l (listed.setIfInBounds k true) (a.put o.dst v) w (by rw [getD_set_ne true hkm]; exact hS) hB2 hK
        refine wpHdW_first (T := fun w => W.contains k = true ∨ S w) h0 (Region.noSelect_spec hsel) hkm ?_ hkn (hT k hkn) (fun listed' a' w' hL => seqB_ready hL.1) l.length listed a w (Region.free_spec h0 hB1.1.2) (by simpa using hB1.1.1) hy hS ?_ hnext
        · rcases hB1.2 with hw | hw
          · exact .inl fun _ => .inl hw
          · exact .inr ⟨fun _ h => .inr h, hw.1⟩
        · rcases hB1.2 with hw | hw
          · exact .inl fun _ => .inl hw
          · exact .inr hw.2

/-- THE LAW -/
theorem region_headW {id : Nat} {a : Act} {w : World} {l : List Oper} (n m : Nat) (order M W : List Nat) (S : World → Prop) (hm : P.follows .mixedOrders = true) (hB : headW .any l.toArray n m order M W = true) (hS : S w.drew)
    (h : wpSeqW P l.toArray Q S m M W (fun a' w' => wpList P l.toArray Q (l.drop n) a' w') (pickO l order) a w.drew) : (Code.region id l.toArray true).wp P Q a w := by
  simp only [headW, Bool.and_eq_true, decide_eq_true_eq, List.all_eq_true, List.mem_range, Bool.or_eq_true] at hB
  obtain ⟨⟨⟨⟨⟨hB1, hB2⟩, hlen⟩, hms⟩, hB3⟩, hB4⟩ := hB
  have hn : n ≤ l.length := by simpa using hB2
  have hg : l.toArray.size = n + (l.toArray.size - n) := by simp; omega
  have key : wpAny P .any l.toArray Q (n + (l.toArray.size - n)) (Array.replicate l.toArray.size false) a w.drew := by
    refine wpAny_of_hdW (m := m) (n := n) (S := S) (L := fun listed' a' w' => Region.seqB .any l.toArray (l.toArray.size - n) n listed' = true ∧ wpList P l.toArray Q (l.drop n) a' w') ?_ n _ a _ ?_
    · intro listed a' w' ⟨h1, h2⟩
      have hd : (l.drop n).length = l.toArray.size - n := by simp
      rw [← hd] at h1 ⊢
      exact wpAny_of_seq (l.drop n) n listed a' w' (fun j => by simp [List.getElem?_drop]) h1 h2
    · have := wpHdW_lex (P := P) (Q := Q) (S := S) (n := n) (m := m) (g := l.toArray.size - n) (M := M) (W := W) (Lq := fun a' w' => wpList P l.toArray Q (l.drop n) a' w') (md := .any) (ops := l.toArray) (l0 := l) rfl hB2 hB1
        (fun i hi t ht1 ht2 => ((hB3 t ht2).resolve_left (by omega)) i hi) order (Array.replicate l.toArray.size false) a w.drew (fun _ => hS) hB4 h
      rw [hlen] at this
      exact this
  rw [← hg] at key
  exact wp_region_any hm key

theorem seqW_nil {m : Nat} {M W : List Nat} {L : Act → World → Prop} {a : Act} {w : World} (h : L a w) : wpSeqW P ops Q S m M W L [] a w := h
theorem seqW_read {m : Nat} {M W : List Nat} {L : Act → World → Prop} {k : Nat} {o : Oper} {rest : List (Nat × Oper)} {a : Act} {w : World} (v : Value) (hk : (k = m) = False) (hm : M.contains k = false) (hw : W.contains k = false) (hg : o.guard = none)
    (hv : ∀ u, S u → (execOp a.eval o).run P u = .ok (.value v) u) (h : wpSeqW P ops Q S m M W L rest (a.put o.dst v) w) : wpSeqW P ops Q S m M W L ((k, o) :: rest) a w := by
  unfold wpSeqW
  rw [if_neg (by rw [hk]; simp), if_neg (by rw [hm]; simp)]
  exact ⟨v, .inl ⟨by simp [Region.wanted, hg], fun u hu => hv u (hu.resolve_left (by rw [hw]; simp))⟩, h⟩
theorem seqW_free {m : Nat} {M W : List Nat} {L : Act → World → Prop} {k : Nat} {o : Oper} {rest : List (Nat × Oper)} {a : Act} {w : World} (v : Value) (hk : (k = m) = False) (hm : M.contains k = false) (hg : o.guard = none)
    (hv : ∀ u, (execOp a.eval o).run P u = .ok (.value v) u) (h : wpSeqW P ops Q S m M W L rest (a.put o.dst v) w) : wpSeqW P ops Q S m M W L ((k, o) :: rest) a w := by
  unfold wpSeqW
  rw [if_neg (by rw [hk]; simp), if_neg (by rw [hm]; simp)]
  exact ⟨v, .inl ⟨by simp [Region.wanted, hg], fun u hu => hv u⟩, h⟩
theorem seqW_move {m : Nat} {M W : List Nat} {L : Act → World → Prop} {k : Nat} {o : Oper} {rest : List (Nat × Oper)} {a : Act} {w : World} (hk : (k = m) = False) (hm : M.contains k = true) (hg : o.guard = none)
    (h : ∀ K : Act → World → Prop, (∀ a' w', S w' → wpSeqW P ops Q S m M W L rest a' w' → K a' w') → o.wp P a w K (NoPanic Q)) : wpSeqW P ops Q S m M W L ((k, o) :: rest) a w := by
  unfold wpSeqW
  rw [if_neg (by rw [hk]; simp), if_pos hm]
  exact ⟨h _ fun a' w' h1 h2 => ⟨h1, h2⟩, by simp [Region.wanted, hg]⟩
theorem seqW_last {m : Nat} {M W : List Nat} {L : Act → World → Prop} {k : Nat} {o : Oper} {rest : List (Nat × Oper)} {a : Act} {w : World} (hk : (k = m) = True) (hg : o.guard = none)
    (h : ∀ K : Act → World → Prop, (∀ a' w', wpSeqW P ops Q S m M W L rest a' w' → K a' w') → o.wp P a w K (NoPanic Q)) : wpSeqW P ops Q S m M W L ((k, o) :: rest) a w := by
  unfold wpSeqW
  rw [if_pos (by rw [hk]; trivial)]
  exact ⟨h _ fun a' w' h2 => h2, by simp [Region.wanted, hg]⟩
end

end Go.Proofs.YtjcmphjjkeigjaaGreat
