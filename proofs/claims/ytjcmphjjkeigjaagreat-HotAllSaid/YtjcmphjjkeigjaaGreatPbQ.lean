/-
  A piece of the proof, laid together by program: HtAB HtAE HtAC HtAD HtAF HtAG HtAH.
-/
import Derived.Test.YtjcmphjjkeigjaaGreatPbB
import Derived.Test.YtjcmphjjkeigjaaGreatPbG
import Derived.Test.YtjcmphjjkeigjaaGreatPbO
import Derived.Test.YtjcmphjjkeigjaaGreatPbP
import Derived.Deep.DeepCutAuto
import Derived.Deep.CutBlock
import Derived.Deep.QuietTactic
import Derived.BigQuiet

namespace Go.Proofs.YtjcmphjjkeigjaaGreat
set_option linter.unusedVariables false
set_option linter.unusedSimpArgs false

abbrev dkS (s : List (List UInt8)) : Dk := ⟨s, [], true, -1⟩
structure Lies (n : Nat) (s : List (List UInt8)) (h : Ht) : Prop where
  base : BaseS n s
  ok : HtOk h
  len : h.used.length + 42 = n
  st : Stored (fun j => s.getD j []) h
  low : 44 ≤ n
  high : n ≤ 2048

theorem lies_batch {n : Nat} {s : List (List UInt8)} {h : Ht} {l : List Chg} (hs : BaseS n s) (hp : HtPre h) (hn : h.used.length + 42 = n) (hb : StoredB (fun j => s.getD j []) h) (h44 : 44 ≤ n) (h20 : n ≤ 2048) (hid : ∀ c ∈ l, c.id < 18446744073709551616) :
    ∃ e s' h', batchOf (dkS s) h l = (e, dkS s', h') ∧ BaseS n s' ∧ ((e = 0 ∧ mayC l = true ∧ noneC h.at_ l = false ∧ ∃ P q, Planned h l P h' q ∧ Lies n s' h') ∨ (e ≠ 0 ∧ s' = s ∧ h' = h ∧ (e = 1 ∨ e = 5 ∨ e = 6))) := by
  unfold batchOf
  by_cases hm : mayC l = false
  · rw [if_pos hm]
    exact ⟨1, s, h, rfl, hs, .inr ⟨by omega, rfl, rfl, .inl rfl⟩⟩
  · rw [if_neg hm]
    have hm : mayC l = true := by simpa using hm
    by_cases hno : noneC h.at_ l = true
    · rw [if_pos hno]
      exact ⟨6, s, h, rfl, hs, .inr ⟨by omega, rfl, rfl, .inr (.inr rfl)⟩⟩
    · rw [if_neg hno]
      have hno : noneC h.at_ l = false := by simpa using hno
      cases hpl : planOf h l with
      | none => exact ⟨5, s, h, rfl, hs, .inr ⟨by omega, rfl, rfl, .inr (.inl rfl)⟩⟩
      | some x =>
        obtain ⟨h', q⟩ := x
        obtain ⟨P, hP⟩ := plan_ok hp hm hno hid hpl
        have hmay := hP.may hm
        rw [hn] at hmay
        obtain ⟨s', hc, hb'⟩ := base_commit n q s hs (by omega) hmay
        have hend := commit_end q s (-1) (by rw [hs.len]; exact hmay) (by rw [hs.len]; omega) hs.head
        rw [hc] at hend
        obtain ⟨_, hnew⟩ := hend.2 rfl
        refine ⟨0, s', h', by dsimp only; rw [hc]; rfl, hb', .inl ⟨rfl, hm, hno, P, q, hP, ⟨hb', hP.ok, by rw [hP.len]; exact hn, hP.stored hp hm hb fun j h1 h2 => ?_, h44, h20⟩⟩⟩
        exact hnew.home j h1 (by rw [hs.len, ← hn]; exact h2)

theorem lies_get {n : Nat} {s : List (List UInt8)} {h : Ht} (k : Lies n s h) (q : Nat) : getOf (dkS s) h q = match atL h.at_ q with
    | none => (6, [])
    | some x => (0, x.data) := get_stored (D := dkS s) k.ok (show StoredB (dkS s).content h from k.st.b) rfl q

theorem pagesN_zero : pagesN 0 = 1 := by decide
theorem blank_plan (m : Nat) (hm : 2 ≤ m) : planOf (blankH m) [] = some (planAt (blankH m) [] 1) := by
  have h1 : needsOf (blankH m).at_ [] = some 1 := by
    show needsOf [] [] = some 1
    unfold needsOf countC takeC
    simp [pagesN_zero]
  have h2 : ¬ (frees (blankH m).used).length < 1 := by
    have := frees_count (blankH m).used
    have hc : (blankH m).used.count true = 0 := by
      show (List.replicate m false).count true = 0
      rw [List.count_replicate]; rfl
    have hl : (blankH m).used.length = m := by show (List.replicate m false).length = m; simp
    omega
  unfold planOf
  rw [h1]
  dsimp only
  rw [if_neg h2]
theorem lies_format (n : Nat) (h44 : 44 ≤ n) (h20 : n ≤ 2048) : ∃ s h, formatH (Dk.new n) = (0, some h, dkS s) ∧ Lies n s h ∧ h.at_ = [] := by
  have hl : (Dk.new n).secs.length = n := by simp [Dk.new]
  have hf := format_new n (by omega)
  have hbase : BaseS n (List.replicate n (List.replicate 128 0)) := ⟨by simp, by
    rw [List.getD, List.getElem?_replicate, if_pos (by omega)]; rfl⟩
  obtain ⟨e, s', h', hb, hb', hor⟩ := lies_batch (l := []) hbase (blank_pre (n - 42) (by omega)) (by show (List.replicate (n - 42) false).length + 42 = n; simp; omega) ⟨(by intro s hs; cases hs), (by intro s hs; cases hs)⟩ h44 h20 (by simp)
  have he : e = 0 := by
    unfold batchOf at hb
    rw [if_neg (by simp [mayC]), if_neg (by simp [noneC]), blank_plan _ (by omega)] at hb
    rcases hor with h | ⟨h1, _, _, h4⟩
    · exact h.1
    · exfalso
      have hb1 := congrArg (·.1) hb
      dsimp only at hb1
      obtain ⟨P, hP⟩ := plan_ok (blank_pre (n - 42) (by omega)) (l := []) (by simp [mayC]) (by simp [noneC]) (by simp) (blank_plan (n - 42) (by omega))
      have hmay := hP.may (by simp [mayC])
      rw [show (blankH (n - 42)).used.length + 42 = n by show (List.replicate (n - 42) false).length + 42 = n; simp; omega] at hmay
      obtain ⟨s2, hc, _⟩ := base_commit n _ _ hbase (by omega) hmay
      have hc' : commitOf (dkS (List.replicate n (List.replicate 128 0))) (planAt (blankH (n - 42)) [] 1).2 = (0, ⟨s2, [], true, -1⟩) := hc
      rw [hc'] at hb1
      exact h1 hb1.symm
  subst he
  rcases hor with ⟨_, _, _, P, q, hP, hL⟩ | h
  · refine ⟨s', h', ?_, hL, ?_⟩
    · unfold formatH
      rw [if_neg (by rw [hl]; omega), hf]
      dsimp only
      rw [if_neg (by simp), hl]
      have : Dk.new n = dkS (List.replicate n (List.replicate 128 0)) := rfl
      rw [this, hb]
      dsimp only
      rw [if_neg (by simp)]
    · have := hP.at_
      simpa [keptL, newsL, blankH] using this
  · exact absurd rfl h.1

/-! ### what should be there -/
abbrev KD := Nat × List UInt8
def kdL (h : Ht) : List KD := h.at_.map fun s => (s.key, s.data)
def hasStep (l : List KD) (c : Chg) : List KD := if c.gone then l.filter (fun b => !(b.1 == c.id)) else l.filter (fun b => !(b.1 == c.id)) ++ [(c.id, c.data)]
def hasOf (l : List KD) (cs : List Chg) : List KD := cs.foldl hasStep l
def newsKD (cs : List Chg) : List KD := (cs.filter fun c => !c.gone).map fun c => (c.id, c.data)
theorem hasOf_perm : ∀ (cs : List Chg) (l : List KD), (idsL cs).Nodup → (hasOf l cs).Perm (l.filter (fun b => !(idsL cs).contains b.1) ++ newsKD cs)
  | [], l, _ => by
    have : l.filter (fun b => !(idsL []).contains b.1) = l := List.filter_eq_self.2 fun x _ => rfl
    rw [this]; simp [hasOf, newsKD]
  | c :: cs, l, h => by
    have hn := List.nodup_cons.1 (show (c.id :: idsL cs).Nodup from h)
    have hf : l.filter (fun b => !(idsL (c :: cs)).contains b.1) = (l.filter fun b => !(b.1 == c.id)).filter fun b => !(idsL cs).contains b.1 := by
      rw [List.filter_filter]
      refine List.filter_congr fun x _ => ?_
      unfold idsL
      rw [List.map_cons, List.contains_cons, Bool.not_or, Bool.and_comm]
    show (hasOf (hasStep l c) cs).Perm _
    rw [hf]
    unfold hasStep
    by_cases hg : c.gone = true
    · rw [if_pos hg]
      refine (hasOf_perm cs _ hn.2).trans (List.Perm.of_eq ?_)
      unfold newsKD
      rw [List.filter_cons_of_neg (by simp [hg])]
    · rw [if_neg hg]
      refine (hasOf_perm cs _ hn.2).trans ?_
      rw [List.filter_append, List.append_assoc]
      refine List.Perm.append_left _ ?_
      have h1 : [((c.id, c.data) : KD)].filter (fun b => !(idsL cs).contains b.1) = [(c.id, c.data)] := by
        rw [List.filter_cons_of_pos (by simpa using hn.1)]; rfl
      rw [h1]
      unfold newsKD
      rw [List.filter_cons_of_pos (by simp [hg])]
      exact List.Perm.refl _
theorem news_kd : ∀ (cs : List Chg) (P : List Nat), (newsL cs P).map (fun s => ((s.key, s.data) : KD)) = newsKD cs
  | [], P => rfl
  | c :: cs, P => by
    unfold newsL newsKD
    by_cases hg : c.gone = true
    · rw [if_pos hg, List.filter_cons_of_neg (by simp [hg])]
      exact news_kd cs P
    · rw [if_neg hg, List.filter_cons_of_pos (by simp [hg]), List.map_cons, List.map_cons, news_kd cs]
      rfl
theorem has_planned {h h' : Ht} {l : List Chg} {P : List Nat} {q : List Pt} (k : Planned h l P h' q) (hm : mayC l = true) {L : List KD} (hL : L.Perm (kdL h)) : (hasOf L l).Perm (kdL h') := by
  refine (hasOf_perm l L (mayC_ids hm)).trans ?_
  have h1 := (k.at_.map fun s => ((s.key, s.data) : KD)).symm
  refine List.Perm.trans ?_ h1
  rw [List.map_append, news_kd]
  refine List.Perm.append_right _ ?_
  refine (hL.filter _).trans (List.Perm.of_eq ?_)
  unfold kdL keptL
  rw [List.filter_map]
  rfl
theorem at_of_mem {h : Ht} (k : HtOk h) {s : Spt} (hs : s ∈ h.at_) : atL h.at_ s.key = some s := by
  unfold atL
  cases hf : h.at_.find? (fun q => q.key == s.key) with
  | none =>
    have := List.find?_eq_none.1 hf s hs
    simp at this
  | some t =>
    have ht := List.mem_of_find?_eq_some hf
    have hk : t.key = s.key := by have := List.find?_some hf; simpa using this
    obtain ⟨i, hi, rfl⟩ := List.mem_iff_getElem.1 hs
    obtain ⟨j, hj, rfl⟩ := List.mem_iff_getElem.1 ht
    rcases Nat.lt_trichotomy i j with hij | hij | hij
    · have := List.pairwise_iff_getElem.1 k.asc i j hi hj hij
      omega
    · subst hij; rfl
    · have := List.pairwise_iff_getElem.1 k.asc j i hj hi hij
      omega
theorem lies_reads {n : Nat} {s : List (List UInt8)} {h : Ht} (k : Lies n s h) {L : List KD} (hL : L.Perm (kdL h)) : (∀ b ∈ L, getOf (dkS s) h b.1 = (0, b.2)) ∧ L.length = h.at_.length := by
  refine ⟨fun b hb => ?_, by rw [hL.length_eq]; unfold kdL; rw [List.length_map]⟩
  obtain ⟨x, hx, rfl⟩ := List.mem_map.1 (hL.subset hb)
  rw [lies_get k]
  dsimp only
  rw [at_of_mem k.ok hx]

/-! ### how many pages are used -/
end Go.Proofs.YtjcmphjjkeigjaaGreat

namespace Go.Proofs.YtjcmphjjkeigjaaGreat
open Go.RowKit
set_option linter.unusedVariables false
set_option linter.unusedSimpArgs false

/-- a store on a disk of a call's own, since the world w0 -/
structure Hs (w0 w : World) (n : Nat) (S U : Nat → Prop) (g gd : Nat) (s : List (List UInt8)) (h : Ht) : Prop where
  hot : HotAt w S U g gd (dkS s) h
  lies : Lies n s h
  nS : ∀ k, S k → w0.heap.size ≤ k
  nU : ∀ k, U k → w0.heap.size ≤ k
  nG : w0.heap.size ≤ g
  below : Below w0.heap.size w0 w
section
variable {w0 w w' : World} {n g gd : Nat} {S U S' : Nat → Prop} {s : List (List UInt8)} {h : Ht} {D : Dk}
theorem Hs.quiet (k : Hs w0 w n S U g gd s h) (hb : Below w.heap.size w w') : Hs w0 w' n S U g gd s h := ⟨k.hot.below hb, k.lies, k.nS, k.nU, k.nG, k.below.trans (hb.mono k.below.size)⟩
theorem Hs.drewN (k : Hs w0 w n S U g gd s h) (m : Nat) : Hs w0 (w.drewN m) n S U g gd s h := k.quiet (below_drewN (Below.refl _ _) m)
theorem dir_few (k : HtOk h) : h.dir.length ≤ 100 := by
  have := pagesN_le h.at_.length k.few
  rw [k.dir]; omega
def BatchS (w0 : World) (n : Nat) (S U : Nat → Prop) (g gd : Nat) (s : List (List UInt8)) (h : Ht) (l : List Chg) (w : World) (e : Ending) (w' : World) : Prop :=
  ∃ r s' h' S' U', e = .returned (.int .i64 r) ∧ batchOf (dkS s) h l = (r, dkS s', h') ∧ Hs w0 w' n S' U' g gd s' h' ∧ Only (fun q => q = g ∨ S q) w w' ∧ (∀ k, S' k → S k ∨ w.heap.size ≤ k) ∧ (∀ k, U' k → U k ∨ w.heap.size ≤ k) ∧
    ((r = 0 ∧ mayC l = true ∧ noneC h.at_ l = false ∧ ∃ P q, Planned h l P h' q) ∨ (r ≠ 0 ∧ s' = s ∧ h' = h ∧ (r = 1 ∨ r = 5 ∨ r = 6)))
theorem hs_batch {V : Nat → Prop} {a : Option Addr} {m cap : Nat} {M : List ChgM} (k : Hs w0 w n S U g gd s h) (hM : ChgsIn w V a m cap M) (hm : m ≤ 100000) (hid : ∀ c ∈ M.map (·.c), c.id < 18446744073709551616) :
    Calls Tryz.prog 13 #[.pointer (some ⟨g, 0, none⟩), .slice a m cap] w (BatchS w0 n S U g gd s h (M.map (·.c)) w) := by
  obtain ⟨r, s', h', hb, hbase, hor⟩ := lies_batch (l := M.map (·.c)) k.lies.base k.lies.ok.pre k.lies.len k.lies.st.b k.lies.low k.lies.high hid
  refine (batch_any k.hot hM k.lies.ok.pre (dir_few k.lies.ok) hm (by show (0 : Nat) ≤ _; omega)).mono ?_
  rintro e w' ⟨rfl, S', U', hh, ho, hs, hu⟩
  rw [hb] at hh ⊢
  dsimp only at hh ⊢
  have hl : Lies n s' h' := by
    rcases hor with ⟨_, _, _, _, _, _, hl⟩ | ⟨_, rfl, rfl, _⟩
    · exact hl
    · exact k.lies
  refine ⟨r, s', h', S', U', rfl, hb, ⟨hh, hl, fun q hq => ?_, fun q hq => ?_, k.nG, k.below.trans (ho.below k.below.size fun i hi hq => ?_)⟩, ho, hs, hu, ?_⟩
  · rcases hs q hq with h1 | h1
    · exact k.nS q h1
    · have := k.below.size; omega
  · rcases hu q hq with h1 | h1
    · exact k.nU q h1
    · have := k.below.size; omega
  · rcases hq with rfl | hq
    · have := k.nG; omega
    · have := k.nS i hq; omega
  · rcases hor with ⟨h1, h2, h3, P, q, h4, _⟩ | h1
    · exact .inl ⟨h1, h2, h3, P, q, h4⟩
    · exact .inr h1
def fmtH (n : Nat) : Ht := (planAt (blankH (n - 42)) [] 1).1
theorem lies_fmt (n : Nat) (h44 : 44 ≤ n) (h20 : n ≤ 2048) : ∃ s, formatH (Dk.new n) = (0, some (fmtH n), dkS s) ∧ Lies n s (fmtH n) ∧ (fmtH n).at_ = [] := by
  obtain ⟨s, h, hf, hl, ha⟩ := lies_format n h44 h20
  have hh : h = fmtH n := by
    have h1 := hf
    unfold formatH at h1
    split at h1
    · exact absurd (congrArg (fun x => x.2.1) h1) (by simp)
    · split at h1
      · exact absurd (congrArg (fun x => x.2.1) h1) (by simp)
      · split at h1
        · exact absurd (congrArg (fun x => x.2.1) h1) (by simp)
        · rename_i _ _ hz
          have h2 := congrArg (fun x => x.2.1) h1
          dsimp only at h2
          rw [← Option.some.inj h2]
          unfold batchOf at hz ⊢
          rw [show (Dk.new n).secs.length = n by simp [Dk.new]] at hz ⊢
          rw [if_neg (by simp [mayC]), if_neg (by simp [noneC]), blank_plan _ (by omega)] at hz ⊢
          dsimp only at hz ⊢
          rw [if_pos (by simpa using hz)]
          rfl
  rw [← hh]
  exact ⟨s, hf, hl, ha⟩
def FormatS (w0 : World) (n : Nat) (gd : Nat) (w : World) (e : Ending) (w' : World) : Prop :=
  ∃ g S U s, e = .returned (.tuple #[.pointer (some ⟨g, 0, none⟩), .int .i64 0]) ∧ Hs w0 w' n S U g gd s (fmtH n)
theorem hs_format (k : DiskAt w S gd (Dk.new n)) (h44 : 44 ≤ n) (h20 : n ≤ 2048) (hS : ∀ q, S q → w0.heap.size ≤ q) (hb : Below w0.heap.size w0 w) : Calls Tryz.prog 10 #[.pointer (some ⟨gd, 0, none⟩)] w (FormatS w0 n gd w) := by
  obtain ⟨s, hf, hl, ha⟩ := lies_fmt n h44 h20
  refine (formatH_any gd (Dk.new n) S w k (by show (0 : Nat) ≤ _; omega)).mono ?_
  rintro e w' ⟨S', ho, hs, hor⟩
  rw [hf] at hor
  rcases hor with ⟨h1, _⟩ | ⟨h2, g2, U2, h1, rfl, hh, hg, hu⟩
  · cases h1
  · dsimp only at h1 hh
    obtain rfl : fmtH n = h2 := Option.some.inj h1
    have hsz := hb.size
    exact ⟨g2, S', U2, s, rfl, ⟨hh, hl, fun q hq => by
      rcases hs q hq with h1 | h1
      · exact hS q h1
      · omega, fun q hq => by have := hu q hq; omega, by omega, hb.trans (ho.below hb.size fun i hi hq => by have := hS i hq; omega)⟩⟩
/-- a batch that is planned is done -/
theorem lies_yes {l : List Chg} {x : Ht} {q : List Pt} (k : Lies n s h) (hm : mayC l = true) (hno : noneC h.at_ l = false) (hid : ∀ c ∈ l, c.id < 18446744073709551616) (hp : planOf h l = some (x, q)) : ∃ s', batchOf (dkS s) h l = (0, dkS s', x) := by
  obtain ⟨P, hP⟩ := plan_ok k.ok.pre hm hno hid hp
  have hmay := hP.may hm
  rw [k.len] at hmay
  obtain ⟨s2, hc, _⟩ := base_commit n _ _ k.base (by have := k.low; omega) hmay
  have hc' : commitOf (dkS s) q = (0, ⟨s2, [], true, -1⟩) := hc
  refine ⟨s2, ?_⟩
  unfold batchOf
  rw [if_neg (by rw [hm]; simp), if_neg (by rw [hno]; simp), hp]
  dsimp only
  rw [hc']
  rfl
end
end Go.Proofs.YtjcmphjjkeigjaaGreat

namespace Go.Proofs.YtjcmphjjkeigjaaGreat
open Go.RowKit Go.Deep
set_option linter.unusedVariables false
set_option linter.unusedSimpArgs false
set_option maxRecDepth 100000

/-- changes that are read -/
structure ChgsR (w : World) (a : Option Addr) (n cap : Nat) (M : List ChgM) : Prop where
  came : CameAt chgC 3 w a n cap M
  bytes : ∀ x ∈ M, BytesAt w x.a x.n x.cap x.c.data
  id : ∀ x ∈ M, x.c.id < 18446744073709551616
section
variable {w w' : World} {a : Option Addr} {n cap : Nat} {M : List ChgM}
theorem ChgsR.below (h : ChgsR w a n cap M) (hb : Below w.heap.size w w') : ChgsR w' a n cap M := ⟨CameAt.below h.came (by omega) hb, fun x hx => (h.bytes x hx).below hb, h.id⟩
theorem ChgsR.at (h : ChgsR w a n cap M) (hn : 0 < n) : ∃ b off, a = some ⟨b, off, none⟩ ∧ b < w.heap.size ∧ ∀ k, k < n → w.cell? ⟨b, off + k * 3, none⟩ = some (.int .u64 ((M.getD k default).c.id : Nat)) ∧ w.cell? ⟨b, off + k * 3 + 1, none⟩ = some (.slice (M.getD k default).a (M.getD k default).n (M.getD k default).cap) ∧
      w.cell? ⟨b, off + k * 3 + 2, none⟩ = some (.bool (M.getD k default).c.gone) ∧ w.rangeAt b (off + k * 3) (chgC (M.getD k default)) := by
  obtain ⟨b, off, rfl, hb, hc⟩ := CameAt.at h.came hn (by omega)
  refine ⟨b, off, rfl, hb, fun k hk => ?_⟩
  have hx : M[k]? = some (M.getD k default) := by rw [List.getD, List.getElem?_eq_getElem (by have := h.came.1; omega)]; rfl
  refine ⟨hc k 0 _ hx (by omega), by rw [Nat.add_assoc]; exact hc k 1 _ hx (by omega), by rw [Nat.add_assoc]; exact hc k 2 _ hx (by omega), fun j v hj => ?_⟩
  have hjl : j < 3 := by have := (List.getElem?_eq_some_iff.1 hj).1; simpa [chgC] using this
  rw [Nat.add_assoc, hc k j _ hx hjl, hj]
theorem ChgsR.mem (h : ChgsR w a n cap M) (k : Nat) (hk : k < n) : M.getD k default ∈ M ∧ (M.map (·.c))[k]? = some (M.getD k default).c := by
  have hl : k < M.length := by rw [h.came.1]; exact hk
  rw [List.getD, List.getElem?_map, List.getElem?_eq_getElem hl]
  exact ⟨List.getElem_mem hl, rfl⟩
end

/-! ### how they come in -/
section
variable {H : Type} {enc : TypeId × Value → H} {W : World} {base : Nat} {sp : Nat → Bool} {held : Bool}
theorem slice_trod {fuel : Nat} {t e : TypeId} {cs : List Value} {y : DataW H × List MemPlace} (ht : Tryz.prog.underlying t = some (.slice e)) (hf : DataW.trod enc Tryz.prog W base sp held fuel t cs = some y) :
    cs = [.slice none 0 0] ∨ ∃ (x : Addr) (len cap : Nat), cs = [.slice (some x) len cap] ∧ len ≤ cap ∧ cap ≤ maxLen ∧
      ∀ i, i < len → ∃ (cs : List Value) (n : Nat) (y : DataW H × List MemPlace), cs.length = Tryz.prog.cellsOf e ∧ (∀ j, j < cs.length → W.cell? (x.add (i * Tryz.prog.cellsOf e + j)) = cs[j]?) ∧ DataW.trod enc Tryz.prog W base sp held n e cs = some y := by
  rcases open_slice ht hf with ⟨hcs, _⟩ | ⟨x, l, c, m, n, D, Pl, hcs, _, hl, hm, hmm, _, hx⟩
  · exact .inl hcs
  · right
    refine ⟨x, l, c, hcs, hl, hm, fun i hi => ?_⟩
    obtain ⟨cs', h1, h2⟩ := hx i (by split at hmm <;> omega)
    obtain ⟨_, hlen, hat⟩ := World.cells?_some h1
    refine ⟨cs', n, _, hlen, fun j hj => ?_, h2⟩
    have := hat j (by omega)
    rw [← this, Go.Deep.add_add]
theorem chg_of {fuel : Nat} {cs : List Value} {y : DataW H × List MemPlace} (h : DataW.trod enc Tryz.prog W 0 (fun _ => true) held fuel 76 cs = some y) : ∃ x : ChgM, cs = chgC x ∧ BytesAt W x.a x.n x.cap x.c.data ∧ x.c.id < 18446744073709551616 := by
  obtain ⟨xs, n, _, _, hlen, hxl, hf⟩ := DataW.trod_struct Tryz.underlying76 h
  have h3 : cs.length = 3 := hlen.trans (by kernel_rfl)
  have hx3 : xs.length = 3 := hxl.trans (by simp)
  have c1 : Tryz.prog.cellsOf 36 = 1 := by kernel_rfl
  have c2 : Tryz.prog.cellsOf 49 = 1 := by kernel_rfl
  have c3 : Tryz.prog.cellsOf 4 = 1 := by kernel_rfl
  match cs, h3, xs, hx3 with
  | [v0, v1, v2], _, [y0, y1, y2], _ =>
    have g0 := hf 0 _ rfl
    have g1 := hf 1 _ rfl
    have g2 := hf 2 _ rfl
    simp only [c1, c2, c3, List.drop_zero, List.drop_succ_cons, List.take_succ_cons, List.take_zero, List.getElem?_cons_zero, List.getElem?_cons_succ] at g0 g1 g2
    obtain ⟨n0, e0, _, w0⟩ := DataW.trod_int Tryz.underlying36 g0
    obtain ⟨a, len, cap, l, e1, hb⟩ := trod_bytes g1
    obtain ⟨b, e2, _⟩ := DataW.trod_bool Tryz.underlying4 g2
    obtain ⟨rfl, _⟩ := List.cons.inj e0
    obtain ⟨rfl, _⟩ := List.cons.inj e1
    obtain ⟨rfl, _⟩ := List.cons.inj e2
    have r0 : 0 ≤ n0 ∧ n0 ≤ 18446744073709551615 := by
      simpa [Lit.wf, IntKind.min, IntKind.max, IntKind.signed, IntKind.bits] using w0
    refine ⟨⟨⟨n0.toNat, l, b⟩, a, len, cap⟩, ?_, hb, by dsimp only; omega⟩
    have : ((n0.toNat : Nat) : Int) = n0 := by omega
    simp only [chgC, this]
theorem chgs_of {fuel : Nat} {cs : List Value} {y : DataW H × List MemPlace} (h : DataW.trod enc Tryz.prog W 0 (fun _ => true) held fuel 37 cs = some y) : ∃ a n cap M, cs = [.slice a n cap] ∧ ChgsR W a n cap M := by
  have c5 : Tryz.prog.cellsOf 76 = 3 := by kernel_rfl
  rcases slice_trod Tryz.underlying37 h with rfl | ⟨x, len, cap, rfl, hl, hm, hx⟩
  · exact ⟨_, _, _, [], rfl, CameAt.nil _ _ _, by simp, by simp⟩
  · obtain ⟨B, hB⟩ := choose_lt (α := ChgM) (n := len) (p := fun i y => (∀ j, j < 3 → W.cell? (x.add (i * 3 + j)) = (chgC y)[j]?) ∧ BytesAt W y.a y.n y.cap y.c.data ∧ y.c.id < 18446744073709551616) (fun i hi => by
      obtain ⟨cs, n, y, h1, h2, h3⟩ := hx i hi
      obtain ⟨z, rfl, hz⟩ := chg_of h3
      rw [c5] at h2
      exact ⟨z, fun j hj => h2 j (by simpa [chgC] using hj), hz⟩)
    refine ⟨_, _, _, (List.range len).map B, rfl, ⟨by simp, hl, hm, fun _ _ => rfl, .inr ⟨x, rfl, fun i j y hi hj => ?_⟩⟩, fun y hy => ?_, fun y hy => ?_⟩
    · have hil : i < len := by simpa using (List.getElem?_eq_some_iff.1 hi).1
      simp [hil] at hi
      rw [← hi]
      exact (hB i hil).1 j hj
    · simp only [List.mem_map, List.mem_range] at hy
      obtain ⟨i, hi, rfl⟩ := hy
      exact (hB i hi).2.1
    · simp only [List.mem_map, List.mem_range] at hy
      obtain ⟨i, hi, rfl⟩ := hy
      exact (hB i hi).2.2
/-- rows of changes -/
abbrev GrpsC := Rows2 ChgsR
theorem grps_of {fuel : Nat} {cs : List Value} {y : DataW H × List MemPlace} (h : DataW.trod enc Tryz.prog W 0 (fun _ => true) held fuel 66 cs = some y) : ∃ a n cap P, cs = [.slice a n cap] ∧ GrpsC W a n cap P := by
  have c5 : Tryz.prog.cellsOf 37 = 1 := by kernel_rfl
  rcases slice_trod Tryz.underlying66 h with rfl | ⟨x, len, cap, rfl, hl, hm, hx⟩
  · exact ⟨_, _, _, [], rfl, [], CameAt.nil _ _ _, rfl, fun i h b hi _ => by simp at hi⟩
  · obtain ⟨B, hB⟩ := choose_lt (α := Hd × List ChgM) (n := len) (p := fun i y => W.cell? (x.add i) = some (.slice y.1.1 y.1.2.1 y.1.2.2) ∧ ChgsR W y.1.1 y.1.2.1 y.1.2.2 y.2) (fun i hi => by
      obtain ⟨cs, n, y, h1, h2, h3⟩ := hx i hi
      obtain ⟨a, m, c, M, rfl, hM⟩ := chgs_of h3
      rw [c5] at h2
      have h4 := h2 0 (by simp)
      rw [show i * 1 + 0 = i by omega] at h4
      exact ⟨((a, m, c), M), h4, hM⟩)
    refine ⟨some x, len, cap, (List.range len).map fun i => (B i).2, rfl, (List.range len).map fun i => (B i).1, ⟨by simp, hl, hm, fun _ _ => rfl, .inr ⟨x, rfl, fun i j y hi hj => ?_⟩⟩, by simp, fun i y b hi hb => ?_⟩
    · have hil : i < len := by simpa using (List.getElem?_eq_some_iff.1 hi).1
      obtain rfl : j = 0 := by omega
      rw [List.getElem?_map, List.getElem?_range hil] at hi
      obtain rfl : (B i).1 = y := by simpa using hi
      rw [show i * 1 + 0 = i by omega, (hB i hil).1]
      rfl
    · have hil : i < len := by simpa using (List.getElem?_eq_some_iff.1 hi).1
      rw [List.getElem?_map, List.getElem?_range hil] at hi hb
      obtain rfl : (B i).1 = y := by simpa using hi
      obtain rfl : (B i).2 = b := by simpa using hb
      exact (hB i hil).2
end
theorem GrpsC.below {w w' : World} {a : Option Addr} {n cap : Nat} {P : List (List ChgM)} (h : GrpsC w a n cap P) (hb : Below w.heap.size w w') : GrpsC w' a n cap P := Rows2.below (E := ChgsR) (fun w w' a n c b h hb => ChgsR.below h hb) h hb

/-! ### changes of a call's own -/
structure ChgsO (w : World) (B : Nat) (v : Value) (M : List ChgM) : Prop where
  recs : Recs chgC w 76 3 v M
  own : ∀ q, v.ownBlock = some q → B ≤ q
  oct : ∀ x ∈ M, OctO w (.slice x.a x.n x.cap) x.c.data
  octB : ∀ x ∈ M, ∀ q, (Value.slice x.a x.n x.cap).ownBlock = some q → B ≤ q
  id : ∀ x ∈ M, x.c.id < 18446744073709551616
def chgsU (v : Value) (M : List ChgM) (k : Nat) : Prop := v.ownBlock = some k ∨ ∃ x ∈ M, (Value.slice x.a x.n x.cap).ownBlock = some k
theorem chgC_one (x : ChgM) : ∀ u ∈ chgC x, u.oneCell' = true := by
  intro u hu
  simp [chgC] at hu
  rcases hu with rfl | rfl | rfl <;> rfl
theorem infoChg : (Tryz.prog.info? 76).map (fun i => (i.zero, i.size, i.bytes)) = some (some (.agg #[.int .u64 0, .slice none 0 0, .bool false]), 3, 40) := by kernel_rfl
theorem sizeChg : (Tryz.prog.info? 76).map (·.size) = some 3 := by kernel_rfl
section
variable {w w' : World} {B : Nat} {v : Value} {M : List ChgM}
theorem ChgsO.below (h : ChgsO w B v M) (hb : Below w.heap.size w w') : ChgsO w' B v M := ⟨h.recs.below hb, h.own, fun x hx => (h.oct x hx).below hb, h.octB, h.id⟩
theorem ChgsO.into (h : ChgsO w B v M) {a : Option Addr} {n cap : Nat} (hv : v = .slice a n cap) : ChgsIn w (chgsU v M) a n cap M := by
  subst hv
  refine ⟨h.recs.came, fun k hk => ?_, fun p hp => .inl (by rw [hp]; rfl), fun x hx => (h.oct x hx).at, fun x hx p hp => .inr ⟨x, hx, by rw [hp]; rfl⟩, h.id⟩
  rcases hk with hk | ⟨x, hx, hk⟩
  · exact h.recs.lt k hk
  · exact (h.oct x hx).lt k hk
theorem ChgsO.read (h : ChgsO w B v M) {a : Option Addr} {n cap : Nat} (hv : v = .slice a n cap) : ChgsR w a n cap M := by
  subst hv
  exact ⟨h.recs.came, fun x hx => (h.oct x hx).at, h.id⟩
theorem ne_chg_octet : (5 : TypeId) ≠ 76 := by decide
theorem ChgsO.more (h : ChgsO w B v M) {x : ChgM} {v' : Value} (ho : OctO w (.slice x.a x.n x.cap) x.c.data) (hob : ∀ q, (Value.slice x.a x.n x.cap).ownBlock = some q → B ≤ q) (hid : x.c.id < 18446744073709551616)
    (hr : Recs chgC w' 76 3 v' (M ++ [x])) (hg : w.grownBy w' v.ownBlock) (hv : v'.ownBlock = v.ownBlock ∨ v'.ownBlock = some w.heap.size) (hB : B ≤ w.heap.size) : ChgsO w' B v' (M ++ [x]) := by
  have hk : ∀ y : ChgM, OctO w (.slice y.a y.n y.cap) y.c.data → OctO w' (.slice y.a y.n y.cap) y.c.data := fun y ho => ho.keep fun q hq => hg.block q (ho.lt q hq) fun e => ho.typed ne_chg_octet h.recs q hq e.symm
  refine ⟨hr, fun q hq => ?_, fun y hy => ?_, fun y hy => ?_, fun y hy => ?_⟩
  · rcases hv with e | e
    · exact h.own q (e ▸ hq)
    · rw [e] at hq; simp at hq; omega
  · rcases List.mem_append.1 hy with hy | hy
    · exact hk y (h.oct y hy)
    · rw [List.mem_singleton.1 hy]; exact hk x ho
  · rcases List.mem_append.1 hy with hy | hy
    · exact h.octB y hy
    · rw [List.mem_singleton.1 hy]; exact hob
  · rcases List.mem_append.1 hy with hy | hy
    · exact h.id y hy
    · rw [List.mem_singleton.1 hy]; exact hid
end

def fewD (c : Chg) : Chg := { c with data := c.data.take 4040 }
def fewC (l : List Chg) : List Chg := (l.take 12).map fewD
def FewCTo (l : List Chg) (w : World) (e : Ending) (w' : World) : Prop :=
  ∃ a cap M, e = .returned (.slice a M.length cap) ∧ M.map (·.c) = l ∧ ChgsO w' w.heap.size (.slice a M.length cap) M ∧ Below w.heap.size w w'

theorem came_take {α : Type} {f : α → List Value} {size : Nat} {w : World} {a : Option Addr} {n cap m : Nat} {L : List α} (h : CameAt f size w a n cap L) (hm : m ≤ n) : CameAt f size w a m cap (L.take m) := by
  obtain ⟨h1, h2, h3, h4, h5⟩ := h
  refine ⟨by rw [List.length_take]; omega, by omega, h3, fun x hx => h4 x (List.mem_of_mem_take hx), ?_⟩
  rcases h5 with ⟨rfl, h5, h6⟩ | ⟨p, rfl, h5⟩
  · exact .inl ⟨rfl, by omega, h6⟩
  · refine .inr ⟨p, rfl, fun i j x hx hj => h5 i j x ?_ hj⟩
    rw [List.getElem?_take] at hx
    split at hx
    · exact hx
    · cases hx
theorem built_chg (X : Array Value) (hX : X.size = 3) : ∀ w : World, (Instr.buildSlice 37 1 #[(0, .agg X)]).run Tryz.prog w = .ok (.slice (some ⟨w.heap.size, 0, none⟩) 1 1) (w.alloc (.cells X 76)) := fun w => by
  obtain ⟨i0, hi, hz0, hz1, hz2⟩ := info_parts infoChg
  exact run_buildSlice_one w _ _ _ i0 _ 3 Tryz.underlying37 hi hz0 hz1 hX (by omega) (by omega)

theorem built_noneH : ∀ u : World, (Instr.buildSlice 49 0 #[]).run Tryz.prog u = .ok (.slice (some ⟨u.heap.size, 0, none⟩) 0 0) (u.alloc (.cells #[] 5)) := fun u => by
  obtain ⟨i0, hi, hz0, hz1, hz2⟩ := info_parts infoU8
  simp [Instr.buildSlice, run_underlying Tryz.underlying49, sizeOf, typeInfo, hi, Instr.fill, newRow, Array.range_zero']
theorem empty_rowH (w : World) : (w.alloc (.cells #[] 5)).ownsRow w.heap.size 5 1 (.slice (some ⟨w.heap.size, 0, none⟩) 0 0) 0 [] :=
  ⟨rfl, .inr ⟨w.heap.size, 0, #[], rfl, Nat.le_refl _, heap_alloc_new w _, Nat.le_refl _, by unfold maxLen; omega, rfl, rfl⟩⟩

set_option maxHeartbeats 4000000 in
theorem few7_any (a : Option Addr) (n cap : Nat) (M : List ChgM) (w : World) (h : ChgsR w a n cap M) : Calls Tryz.prog 12 #[.slice a n cap] w (FewCTo (fewC (M.map (·.c))) w) := by
  have HM := Lib.hid h
  have hcap := h.came.2.1
  have hcm := h.came.2.2.1
  unfold maxLen at hcm
  have hL : fewC (M.map (·.c)) = ((M.take 12).map (·.c)).map fewD := by
    show ((M.map (·.c)).take 12).map fewD = _
    rw [← List.map_take]
  rw [hL]
  obtain ⟨T, hT⟩ : ∃ T, T = M.take 12 := ⟨_, rfl⟩
  have HT := Lib.hid hT
  rw [← hT]
  clear h hL hT
  go_enter Tryz.func12, Tryz.ntmps12
  go_upto_if 8 with (fail)
  go_cut [0] (fun s0 wx => wx = w ∧ ∃ a' n' c', s0 = .slice a' n' c' ∧ n' ≤ 12 ∧ ChgsR w a' n' c' T)
  case first =>
    by_cases hn : 12 < n
    · obtain ⟨b, off, rfl, _, _⟩ := HM.out.at (by omega)
      have hni : (12 : Int) < (n : Int) := by omega
      have hci : (12 : Int) ≤ (cap : Int) := by omega
      have hc0 : ¬ cap = 0 := by omega
      have H := Lib.hid (show ChgsR w (some ⟨b, off, none⟩) 12 cap T from HT.out ▸ ⟨came_take HM.out.came (by omega), fun x hx => HM.out.bytes x (List.mem_of_mem_take hx), fun x hx => HM.out.id x (List.mem_of_mem_take hx)⟩)
      go_wp2
      go_meet
      exact ⟨rfl, _, _, _, rfl, Nat.le_refl _, H.out⟩
    · have hni : ¬ (12 : Int) < (n : Int) := by omega
      have H := Lib.hid (show ChgsR w a n cap T from by rw [HT.out, List.take_of_length_le (by rw [HM.out.came.1]; omega)]; exact HM.out)
      go_wp2
      go_meet
      exact ⟨rfl, _, _, _, rfl, by omega, H.out⟩
  case rest =>
    obtain ⟨hwc, a', m, c', rfl, hm, hR⟩ := hcut
    have HR := Lib.hid hR
    have HTL := Lib.hid hR.came.1
    obtain ⟨w0, hw0⟩ : ∃ x : World, x = wc := ⟨_, rfl⟩
    rw [← hw0] at hwc ⊢
    subst hwc
    clear hR HM HT hcap hcm hw0
    go_wp2
    go_loopw [3, 4] (fun s3 s4 wr => ∃ (j : Nat) (av : Option Addr) (cv : Nat) (N : List ChgM), s4 = .int .i64 j ∧ j ≤ m ∧ s3 = .slice av j cv ∧ N.length = j ∧ N.map (·.c) = ((T.map (·.c)).take j).map fewD ∧ ChgsO wr w0.heap.size (.slice av j cv) N ∧ Below w0.heap.size w0 wr) (fun _ s4 _ => m - (intOf s4).toNat)
    case atStart => exact ⟨0, none, 0, [], rfl, Nat.zero_le _, rfl, rfl, rfl, ⟨Recs.nil _ _ _ _, fun q hq => by simp [Value.ownBlock] at hq, by simp, by simp, by simp⟩, Below.refl _ _⟩
    case round =>
      obtain ⟨j, av, cv, N, rfl, hj, rfl, hNl, hNc, hO, hb⟩ := hrel
      have HNL := Lib.hid hNl
      have HNC := Lib.hid hNc
      have HO := Lib.hid hO
      have HB := Lib.hid hb
      clear hNl hNc hO hb
      by_cases hlt : j < m
      · have hji : (j : Int) < (m : Int) := by omega
        obtain ⟨b, off, rfl, hbl, hcs⟩ := (HR.out.below HB.out).at (by omega)
        obtain ⟨x0, x1, x2, hrg⟩ := hcs j hlt
        obtain ⟨hmem, hget⟩ := (HR.out.below HB.out).mem j hlt
        have hid := HR.out.id _ hmem
        have hby := (HR.out.below HB.out).bytes _ hmem
        have HTK := Lib.hid (show ((T.map (·.c)).take (j + 1)).map fewD = ((T.map (·.c)).take j).map fewD ++ [fewD (T.getD j default).c] by rw [List.take_add_one, hget, Option.toList_some, List.map_append]; rfl)
        generalize T.getD j default = y at *
        obtain ⟨⟨id, dat, gone⟩, ya, yn, yc⟩ := y
        dsimp only at *
        have HBY := Lib.hid hby
        clear hcs hmem hget hby hrg
        have hbx : Below wr.heap.size wr (wr.alloc (.cells #[.int .u64 (id : Nat), .slice ya yn yc, .bool gone] 76)) := (Below.refl _ _).alloc (Nat.le_refl _) _
        have hbox := heap_alloc_new wr (.cells #[.int .u64 (id : Nat), .slice ya yn yc, .bool gone] 76)
        obtain ⟨Bc, hBc⟩ : ∃ B, B = wr.heap.size := ⟨_, rfl⟩
        have HBX := Lib.hid hbx
        have HBOX := Lib.hid hbox
        have HBC := Lib.hid hBc
        have hyb : 0 < yn → ∀ p, ya = some p → p.block < wr.heap.size := fun h0 p hp => by
          obtain ⟨b1, o1, e1, hc1⟩ := HBY.out.at h0
          have := block_lt (hc1 0 h0)
          rw [hp] at e1; cases e1; exact this
        have HYB := Lib.hid hyb
        have hyc := HBY.out.2.1
        have hym := HBY.out.2.2.1
        have hyl := HBY.out.1
        unfold maxLen at hym
        rw [← hBc] at hbox
        have y1 : (wr.alloc (.cells #[.int .u64 (id : Nat), .slice ya yn yc, .bool gone] 76)).cell? ⟨Bc, 1, none⟩ = some (.slice ya yn yc) := by rw [cell_of_row _ _ _ _ _ _ hbox]; rfl
        have yf : (wr.alloc (.cells #[.int .u64 (id : Nat), .slice ya yn yc, .bool gone] 76)).frozen? ⟨Bc, 1, none⟩ = false := frozen_of_row _ _ _ _ _ hbox
        have HYL := Lib.hid hyl
        clear hbx hbox hyb hyl
        go_upto_region 8 with (fail)
        clear x0 x1 x2
        rw [← hBc]
        generalize wr.alloc (.cells #[.int .u64 (id : Nat), .slice ya yn yc, .bool gone] 76) = w8 at *
        rw [← hBc] at HBOX
        clear hBc
        go_upto_if 24 with (fail)
        go_cut [] (fun wx => Below wr.heap.size wr wx ∧ ∃ za zn zc, wx.heap[Bc]? = some (.cells #[.int .u64 (id : Nat), .slice za zn zc, .bool gone] 76 (0, 0)) ∧ BytesAt wx za zn zc (dat.take 4040) ∧ zn ≤ 4040)
        case first =>
          by_cases h40 : 4040 < yn
          · obtain ⟨b1, o1, rfl, hc1⟩ := HBY.out.at (by omega)
            have hki : (4040 : Int) < (yn : Int) := by omega
            have hci : (4040 : Int) ≤ (yc : Int) := by omega
            have hc0 : ¬ yc = 0 := by omega
            have H := Lib.hid (HBY.out.head (m := 4040) (by omega))
            clear hc1
            go_wp2
            go_meet
            have hon : Only (fun q => q = Bc) w8 (w8.setCell ⟨Bc, 1, none⟩ (.slice (some ⟨b1, o1, none⟩) 4040 yc)) := Only.setCell (S := fun q => q = Bc) w8 ⟨Bc, 1, none⟩ _ rfl
            have hbl : Below wr.heap.size wr (w8.setCell ⟨Bc, 1, none⟩ (.slice (some ⟨b1, o1, none⟩) 4040 yc)) := HBX.out.setCell (by rw [← HBC.out]; exact Nat.le_refl _) _
            exact ⟨hbl, _, 4040, _, heap_setCell_same _ _ _ _ _ _ HBOX.out, H.out.below hbl, Nat.le_refl _⟩
          · have hki : ¬ (4040 : Int) < (yn : Int) := by omega
            have H := Lib.hid (show BytesAt w8 ya yn yc (dat.take 4040) from by rw [List.take_of_length_le (by rw [HYL.out]; omega)]; exact HBY.out.below HBX.out)
            go_wp2
            go_meet
            exact ⟨HBX.out, _, yn, _, HBOX.out, H.out, by omega⟩
        case rest =>
          obtain ⟨hb9, za, zn, zc, hbox9, hzb, hz4⟩ := hcut
          have HB9 := Lib.hid hb9
          have HZB := Lib.hid hzb
          have HX9 := Lib.hid hbox9
          have hblt : Bc < wc.heap.size := (Array.getElem?_eq_some_iff.1 hbox9).1
          obtain ⟨w9, hw9⟩ : ∃ x : World, x = wc := ⟨_, rfl⟩
          rw [← hw9] at HB9 HZB HX9 hblt ⊢
          clear hb9 hzb hbox9 hw9 HBX HBOX y1 yf HBY hyc hym HYL HYB
          have y1 : w9.cell? ⟨Bc, 1, none⟩ = some (.slice za zn zc) := by rw [cell_of_row _ _ _ _ _ _ HX9.out]; rfl
          have yf : w9.frozen? ⟨Bc, 1, none⟩ = false := frozen_of_row _ _ _ _ _ HX9.out
          have hba : Below w9.heap.size w9 (w9.alloc (.cells #[] 5)) := (Below.refl _ _).alloc (Nat.le_refl _) _
          have HBA := Lib.hid hba
          have HER := Lib.hid (empty_rowH w9)
          have HZA := Lib.hid (HZB.out.below hba)
          have yfa : (w9.alloc (.cells #[] 5)).frozen? ⟨Bc, 1, none⟩ = false := frozen_of_row _ _ _ _ _ ((hba.block Bc hblt).trans HX9.out)
          clear hba
          go_upto_region 11 with (first
            | (refine wpList_buildSliceV rfl 49 0 _ rfl #[] (by simp [go_sem]) _ _ (built_noneH _) ?_)
            | (at_builtin; refine wpList_append_bytes rfl _ _ rfl w9.heap.size (.slice (some ⟨w9.heap.size, 0, none⟩) 0 0) 0 [] rfl HER.out za zn zc (dat.take 4040) rfl HZA.out zn (by omega) (by omega) (by simp) ?_; intro a5 c5 w5 ho5 hg5; have hx5 := (hg5.block Bc (by simp; omega) (by simp [Value.ownBlock]; omega)).trans ((HBA.out.block Bc hblt).trans HX9.out); have s5 : w5.cell? ⟨Bc, 1, none⟩ = some (.slice za zn zc) := (by rw [cell_of_row _ _ _ _ _ _ hx5]; rfl); have f5 : w5.frozen? ⟨Bc, 1, none⟩ = false := frozen_of_row _ _ _ _ _ hx5))
          have hon6 : Only (fun q => q = Bc) w5 (w5.setCell ⟨Bc, 1, none⟩ (.slice a5 zn c5)) := Only.setCell (S := fun q => q = Bc) w5 ⟨Bc, 1, none⟩ _ rfl
          have hx6 := heap_setCell_same w5 Bc 1 _ _ (.slice a5 zn c5) hx5
          have hb5 : Below wr.heap.size wr w5 := (HB9.out.trans (HBA.out.mono HB9.out.size)).grown hg5 (by have := HB9.out.size; simp; omega) fun q hq => by simp [Value.ownBlock] at hq; have := HB9.out.size; omega
          have hb6 : Below wr.heap.size wr (w5.setCell ⟨Bc, 1, none⟩ (.slice a5 zn c5)) := hb5.setCell (by rw [← HBC.out]; exact Nat.le_refl _) _
          have ho6 : OctO (w5.setCell ⟨Bc, 1, none⟩ (.slice a5 zn c5)) (.slice a5 zn c5) (dat.take 4040) := by
            have h1 := (octO_of (by simpa using ho5)).1
            exact h1.only hon6 fun q hq e => h1.ne_of hx5 (by decide) q hq e
          have hob6 : ∀ q, (Value.slice a5 zn c5).ownBlock = some q → w0.heap.size ≤ q := fun q hq => by
            have h1 := (ho5.lt q (by simpa using hq)).1
            have := HB9.out.size
            have := HB.out.size
            omega
          have hO6 : ChgsO (w5.setCell ⟨Bc, 1, none⟩ (.slice a5 zn c5)) w0.heap.size (.slice av j cv) N := HO.out.below hb6
          have hrng : (w5.setCell ⟨Bc, 1, none⟩ (.slice a5 zn c5)).rangeAt Bc 0 [.int .u64 (id : Nat), .slice a5 zn c5, .bool gone] := fun i v hi => by
            rw [Nat.zero_add, cell_of_row _ _ _ _ _ _ hx6]
            simpa using hi
          have HB6 := Lib.hid hb6
          have HO6 := Lib.hid hO6
          have HOC6 := Lib.hid ho6
          have HOB6 := Lib.hid hob6
          have HRG := Lib.hid hrng
          generalize w5.setCell ⟨Bc, 1, none⟩ (.slice a5 zn c5) = w6 at *
          have hal : Below w6.heap.size w6 (w6.alloc (.cells #[.int .u64 (id : Nat), .slice a5 zn c5, .bool gone] 76)) := (Below.refl _ _).alloc (Nat.le_refl _) _
          have HAL := Lib.hid hal
          have HO7 := Lib.hid (HO6.out.below hal)
          have HN7 := Lib.hid (heap_alloc_new w6 (.cells #[.int .u64 (id : Nat), .slice a5 zn c5, .bool gone] 76))
          obtain ⟨i0, hi0, hz0, hz1, hz2⟩ := info_parts infoChg
          have hNl := HNL.out
          have hj12 : j < 12 := by omega
          clear hon6 hx6 hb5 hb6 ho6 hob6 hO6 hrng hal ho5 hg5 hx5 s5 f5 y1 yf yfa HER HZA HBA hblt
          go_wp2_with (first
            | (refine wpList_load_mid rfl 76 _ rfl Bc 0 rfl [.int .u64 (id : Nat), .slice a5 zn c5, .bool gone] _ HRG.out Tryz.underlying76 rfl sizeChg ?_)
            | (refine wpList_buildSliceV rfl 37 1 _ rfl #[(0, .agg #[.int .u64 (id : Nat), .slice a5 zn c5, .bool gone])] (by simp [go_sem]) _ _ (built_chg _ rfl _) ?_)
            | (at_builtin; refine wpList_append_recs (f := chgC) rfl _ _ 37 rfl 76 i0 (.agg #[.int .u64 0, .slice none 0 0, .bool false]) 3 40 Tryz.underlying37 hi0 hz0 hz1 hz2 rfl (by omega) (.slice av j cv) N rfl HO7.out.recs ⟨w6.heap.size, 0, none⟩ 1 1 [⟨⟨id, dat.take 4040, gone⟩, a5, zn, c5⟩] rfl rfl (fun y _ => rfl) (fun y _ => chgC_one y) (one_rec HN7.out) (by rw [hNl]; unfold maxLen; omega) (by rw [hNl]; omega) ?_; intro v8 w8' hr8 hg8 hv8; obtain ⟨a8, c8, hv0, _, _⟩ := hr8.form; rw [List.length_append, List.length_singleton, hNl] at hv0; subst hv0))
          go_roundw
          case rel =>
            have hbs : w0.heap.size ≤ (w6.alloc (.cells #[.int .u64 (id : Nat), .slice a5 zn c5, .bool gone] 76)).heap.size := by have := HB.out.size; have := HB6.out.size; simp; omega
            have hO8 := HO7.out.more (x := ⟨⟨id, dat.take 4040, gone⟩, a5, zn, c5⟩) (HOC6.out.below HAL.out) HOB6.out hid hr8 hg8 hv8 hbs
            have hb8 : Below w0.heap.size w0 w8' := ((HB.out.trans (HB6.out.mono HB.out.size)).trans (HAL.out.mono (by have := HB.out.size; have := HB6.out.size; omega))).grown hg8 hbs fun q hq => HO7.out.own q hq
            exact ⟨j + 1, a8, c8, N ++ [⟨⟨id, dat.take 4040, gone⟩, a5, zn, c5⟩], by go_num, by omega, rfl, by rw [List.length_append, hNl]; rfl, by rw [List.map_append, HNC.out, HTK.out]; rfl, hO8, hb8⟩
          case measure => simp only [intOf]; omega
      · obtain rfl : j = m := by omega
        have hji : ¬ (j : Int) < (j : Int) := by omega
        have hnc := HNC.out
        rw [List.take_of_length_le (by rw [List.length_map, HTL.out]; exact Nat.le_refl _)] at hnc
        have HNC := Lib.hid hnc
        clear hnc
        go_wp2
        go_ret
        exact ⟨av, cv, N, by rw [HNL.out]; rfl, by rw [HNC.out, List.map_map], by rw [HNL.out]; exact HO.out, HB.out⟩

end Go.Proofs.YtjcmphjjkeigjaaGreat

namespace Go.Proofs.YtjcmphjjkeigjaaGreat
open Go.RowKit Go.Deep
set_option linter.unusedVariables false
set_option linter.unusedSimpArgs false
set_option maxRecDepth 100000

/-! ### blobs of the document's, as they are in memory: an ID and a string, no pages, no sum -/
def blobC (b : KD) : List Value := [.int .u64 (b.1 : Nat), .string ⟨b.2.toArray⟩, .slice none 0 0, .int .u32 0]
theorem blobC_one (b : KD) : ∀ u ∈ blobC b, u.oneCell' = true := by
  intro u hu
  simp [blobC] at hu
  rcases hu with rfl | rfl | rfl | rfl <;> rfl
theorem infoBlob : (Tryz.prog.info? 81).map (fun i => (i.zero, i.size, i.bytes)) = some (some (.agg #[.int .u64 0, .string ⟨#[]⟩, .slice none 0 0, .int .u32 0]), 4, 56) := by kernel_rfl
theorem sizeBlob : (Tryz.prog.info? 81).map (·.size) = some 4 := by kernel_rfl
theorem built_blob (X : Array Value) (hX : X.size = 4) : ∀ w : World, (Instr.buildSlice 68 1 #[(0, .agg X)]).run Tryz.prog w = .ok (.slice (some ⟨w.heap.size, 0, none⟩) 1 1) (w.alloc (.cells X 81)) := fun w => by
  obtain ⟨i0, hi, hz0, hz1, hz2⟩ := info_parts infoBlob
  exact run_buildSlice_one w _ _ _ i0 _ 4 Tryz.underlying68 hi hz0 hz1 hX (by omega) (by omega)
def BlobsTo (L : List KD) (v : Value) (w : World) (e : Ending) (w' : World) : Prop :=
  ∃ a cap, e = .returned (.slice a L.length cap) ∧ Recs blobC w' 81 4 (.slice a L.length cap) L ∧ Below w.heap.size w w' ∧ ∀ q, (Value.slice a L.length cap).ownBlock = some q → w.heap.size ≤ q ∨ v.ownBlock = some q

set_option maxHeartbeats 4000000 in
theorem hasB_any (a : Option Addr) (cap : Nat) (L : List KD) (b2 : Option Addr) (n2 c2 : Nat) (M : List ChgM) (w : World) (hL : Recs blobC w 81 4 (.slice a L.length cap) L) (hll : L.length ≤ 1000) (h : ChgsR w b2 n2 c2 M) (hn2 : n2 ≤ 12) :
    Calls Tryz.prog 33 #[.slice a L.length cap, .slice b2 n2 c2] w (BlobsTo (hasOf L (M.map (·.c))) (.slice a L.length cap) w) := by
  have HM := Lib.hid h
  have HL := Lib.hid hL
  have hml : M.length = n2 := h.came.1
  have HML := Lib.hid hml
  clear h hL hml
  go_enter Tryz.func33, Tryz.ntmps33
  go_wp2
  go_loopw [0, 5] (fun s0 s5 wr => ∃ (j : Nat) (av : Option Addr) (cv : Nat) (K : List KD), s5 = .int .i64 j ∧ j ≤ n2 ∧ s0 = .slice av K.length cv ∧ K.length ≤ L.length + j ∧ K = hasOf L ((M.map (·.c)).take j) ∧ Recs blobC wr 81 4 (.slice av K.length cv) K ∧ (∀ q, (Value.slice av K.length cv).ownBlock = some q → w.heap.size ≤ q ∨ (Value.slice a L.length cap).ownBlock = some q) ∧ Below w.heap.size w wr) (fun _ s5 _ => n2 - (intOf s5).toNat)
  case atStart => exact ⟨0, a, cap, L, rfl, Nat.zero_le _, rfl, by omega, by rw [List.take_zero]; rfl, HL.out, fun q hq => .inr hq, Below.refl _ _⟩
  case round =>
    obtain ⟨j, av, cv, K, rfl, hj, rfl, hkl, hke, hO, hown, hb⟩ := hrel
    have HOW := Lib.hid hown
    clear hown
    have HKE := Lib.hid hke
    have HO := Lib.hid hO
    have HB := Lib.hid hb
    clear hke hO hb
    by_cases hlt : j < n2
    · have hji : (j : Int) < (n2 : Int) := by omega
      obtain ⟨b, off, rfl, hbl, hcs⟩ := (HM.out.below HB.out).at (by omega)
      obtain ⟨x0, x1, x2, hrg⟩ := hcs j hlt
      obtain ⟨hmem, hget⟩ := (HM.out.below HB.out).mem j hlt
      have hid := HM.out.id _ hmem
      have hby := (HM.out.below HB.out).bytes _ hmem
      have HTK := Lib.hid (show hasOf L ((M.map (·.c)).take (j + 1)) = hasStep K (M.getD j default).c by rw [HKE.out, List.take_add_one, hget, Option.toList_some]; unfold hasOf; rw [List.foldl_append]; rfl)
      generalize M.getD j default = y at *
      obtain ⟨⟨id, dat, gone⟩, ya, yn, yc⟩ := y
      dsimp only at *
      have HBY := Lib.hid hby
      have X0 := Lib.hid x0
      have X1 := Lib.hid x1
      have X2 := Lib.hid x2
      have HCM := HM.out.came.2.1
      have HCM2 := HM.out.came.2.2.1
      unfold maxLen at HCM2
      clear hcs hmem hget hby hrg x0 x1 x2
      obtain ⟨wo, hwo⟩ : ∃ x : World, x = wr := ⟨_, rfl⟩
      subst hwo
      go_wp2
      go_loopw [6, 7] (fun s6 s7 wx => ∃ (m : Nat) (au : Option Addr) (cu : Nat) (N : List KD), s7 = .int .i64 m ∧ m ≤ K.length ∧ s6 = .slice au N.length cu ∧ N.length ≤ m ∧ N = (K.take m).filter (fun b => !(b.1 == id)) ∧ Recs blobC wx 81 4 (.slice au N.length cu) N ∧ (∀ q, (Value.slice au N.length cu).ownBlock = some q → wo.heap.size ≤ q) ∧ Below wo.heap.size wo wx) (fun _ s7 _ => K.length - (intOf s7).toNat)
      case atStart => exact ⟨0, none, 0, [], rfl, Nat.zero_le _, rfl, Nat.le_refl _, rfl, Recs.nil _ _ _ _, fun q hq => by simp [Value.ownBlock] at hq, Below.refl _ _⟩
      case round =>
        obtain ⟨m, au, cu, N, rfl, hm, rfl, hnl, hne, hN, hNo, hbx⟩ := hrel
        have HNE := Lib.hid hne
        have HN := Lib.hid hN
        have HNO := Lib.hid hNo
        have HBX := Lib.hid hbx
        clear hne hN hNo hbx
        by_cases hlt2 : m < K.length
        · have hmi : (m : Int) < (K.length : Int) := by omega
          obtain ⟨bk, ok, rfl, hbk, hck⟩ := (HO.out.below HBX.out).came.at (by omega) (by omega)
          have hkg : K[m]? = some (K.getD m default) := by rw [List.getD, List.getElem?_eq_getElem hlt2]; rfl
          generalize K.getD m default = kb at *
          have HTK2 := Lib.hid (show (K.take (m + 1)).filter (fun b => !(b.1 == id)) = N ++ (if kb.1 = id then [] else [kb]) by
            rw [HNE.out, List.take_add_one, hkg, Option.toList_some, List.filter_append]
            by_cases he : kb.1 = id
            · rw [if_pos he]; simp [he]
            · rw [if_neg he]; simp [he])
          obtain ⟨ki, kd⟩ := kb
          have k0 : wr.cell? ⟨bk, ok + m * 4, none⟩ = some (.int .u64 (ki : Nat)) := hck m 0 _ hkg (by omega)
          have K0 := Lib.hid k0
          have KR := Lib.hid (show wr.rangeAt bk (ok + m * 4) (blobC (ki, kd)) from fun i v hi => by
            have hil : i < 4 := by have := (List.getElem?_eq_some_iff.1 hi).1; simpa [blobC] using this
            rw [Nat.add_assoc, hck m i _ hkg hil, hi])
          have x0 : wr.cell? ⟨b, off + j * 3, none⟩ = some (.int .u64 (id : Nat)) := by rw [HBX.out.cell (by show b < _; exact block_lt X0.out)]; exact X0.out
          have HKC := (HO.out.came).2.1
          have HKC2 := (HO.out.came).2.2.1
          unfold maxLen at HKC2
          dsimp only at *
          clear hck hkg
          obtain ⟨i0, hi0, hz0, hz1, hz2⟩ := info_parts infoBlob
          have HKI := Lib.hid (show wr.cell? ⟨bk, ok + m * 4, none⟩ = some (.int .u64 (ki : Nat)) from k0)
          by_cases he : ki = id
          · subst he
            have HT2 := Lib.hid (HTK2.out.trans (by rw [if_pos rfl, List.append_nil]))
            go_wp2
            go_quiet (fail)
            generalize hq : wr.drewN _ = wq
            go_wp2
            go_roundw
            case rel => exact ⟨m + 1, au, cu, N, by go_num, by omega, rfl, by omega, HT2.out.symm, hq ▸ HN.out.keep (fun _ _ => rfl), HNO.out, hq ▸ below_drewN HBX.out _⟩
            case measure => simp only [intOf]; omega
          · have hei : ¬ (ki : Int) = (id : Int) := by omega
            have HT2 := Lib.hid (HTK2.out.trans (by rw [if_neg he]))
            go_wp2
            go_quiet (fail)
            generalize hq : wr.drewN _ = wq
            have hbq : Below wr.heap.size wr wq := hq ▸ below_drewN (Below.refl _ _) _
            have HNQ := Lib.hid (show Recs blobC wq 81 4 (.slice au N.length cu) N from hq ▸ HN.out.keep (fun _ _ => rfl))
            have HRQ := Lib.hid (show wq.rangeAt bk (ok + m * 4) (blobC (ki, kd)) from fun i v hi => by rw [hbq.cell (by exact hbk)]; exact KR.out i v hi)
            have HBQ := Lib.hid (HBX.out.trans (hbq.mono HBX.out.size))
            clear hq hbq
            have hal : Below wq.heap.size wq (wq.alloc (.cells (blobC (ki, kd)).toArray 81)) := (Below.refl _ _).alloc (Nat.le_refl _) _
            have HAL := Lib.hid hal
            have HN7 := Lib.hid (HNQ.out.below hal)
            have HA7 := Lib.hid (heap_alloc_new wq (.cells (blobC (ki, kd)).toArray 81))
            clear hal
            go_wp2_with (first
              | (refine wpList_load_mid rfl 81 _ rfl bk (ok + m * 4) rfl (blobC (ki, kd)) _ HRQ.out Tryz.underlying81 rfl sizeBlob ?_)
              | (refine wpList_buildSliceV rfl 68 1 _ rfl #[(0, .agg (blobC (ki, kd)).toArray)] (by simp [go_sem]) _ _ (built_blob _ rfl _) ?_)
              | (at_builtin; refine wpList_append_recs (f := blobC) rfl _ _ 68 rfl 81 i0 (.agg #[.int .u64 0, .string ⟨#[]⟩, .slice none 0 0, .int .u32 0]) 4 56 Tryz.underlying68 hi0 hz0 hz1 hz2 rfl (by omega) (.slice au N.length cu) N rfl HN7.out ⟨wq.heap.size, 0, none⟩ 1 1 [(ki, kd)] rfl rfl (fun y _ => rfl) (fun y _ => blobC_one y) (one_rec HA7.out) (by unfold maxLen; omega) (by omega) ?_; intro v8 w8 hr8 hg8 hv8; obtain ⟨a8, c8, hv0, _, _⟩ := hr8.form; rw [List.length_append, List.length_singleton] at hv0; subst hv0))
            go_roundw
            case rel =>
              have hbs : wo.heap.size ≤ (wq.alloc (.cells (blobC (ki, kd)).toArray 81)).heap.size := by have := HBQ.out.size; simp; omega
              have hln : (N ++ [(ki, kd)]).length = N.length + 1 := by rw [List.length_append, List.length_singleton]
              refine ⟨m + 1, a8, c8, N ++ [(ki, kd)], by go_num, by omega, by rw [hln], by omega, HT2.out.symm, hln ▸ hr8, fun q hq => ?_, (HBQ.out.trans (HAL.out.mono HBQ.out.size)).grown hg8 hbs fun q hq => HNO.out q hq⟩
              rw [hln] at hq
              rcases hv8 with e | e
              · exact HNO.out q (e ▸ hq)
              · rw [e] at hq; have := HBQ.out.size; simp at hq; omega
            case measure => simp only [intOf]; omega
        · obtain rfl : m = K.length := by omega
          have hmi : ¬ (K.length : Int) < (K.length : Int) := by omega
          have HNE2 := Lib.hid (show N = K.filter (fun b => !(b.1 == id)) from HNE.out.trans (by rw [List.take_length]))
          have x2 : wr.cell? ⟨b, off + j * 3 + 2, none⟩ = some (.bool gone) := by rw [HBX.out.cell (by show b < _; exact block_lt X2.out)]; exact X2.out
          clear HNE
          cases gone with
          | true =>
            go_wp2
            go_roundw
            case rel => exact ⟨j + 1, au, cu, N, by go_num, by omega, rfl, by omega, by rw [HTK.out, HNE2.out]; rfl, HN.out, fun q hq => .inl (by have := HNO.out q hq; have := HB.out.size; omega), HB.out.trans (HBX.out.mono HB.out.size)⟩
            case measure => simp only [intOf]; omega
          | false =>
            go_upto_region 12 with (fail)
            clear x2
            refine region_head 15 [0, 1, 2, 3, 4, 5, 6, 7, 8, 9, 10, 11, 12, 13, 14] [13, 14] (fun u => Below wo.heap.size wo u) (by kernel_rfl) (by kernel_rfl) (HBX.out.drew) ?_
            simp only [pickO, List.filterMap_cons, List.filterMap_nil, List.getElem?_cons_zero, List.getElem?_cons_succ, Option.map_some, List.drop_succ_cons, List.drop_zero]
            have hb1 : b < wo.heap.size := block_lt X0.out
            iterate 11
              refine seqH_read _ rfl rfl (by rintro u hu; have e0 := (hu.cell (p := ⟨b, off + j * 3, none⟩) hb1).trans X0.out; have e1 := (hu.cell (p := ⟨b, off + j * 3 + 1, none⟩) hb1).trans X1.out; clear hu; go_simp; with_reducible rfl) ?_
              try simp only [Act.put, List.setIfInBounds_toArray, List.set_cons_zero, List.set_cons_succ]
            refine seqH_read (.string ⟨dat.toArray⟩) rfl rfl (by rintro u hu; have hcv := (HBY.out.below hu).conv; clear hu; go_simp) ?_
            try simp only [Act.put, List.setIfInBounds_toArray, List.set_cons_zero, List.set_cons_succ]
            refine seqH_read (.agg (blobC (id, dat)).toArray) rfl rfl (by rintro u hu; clear hu; go_simp; rfl) ?_
            try simp only [Act.put, List.setIfInBounds_toArray, List.set_cons_zero, List.set_cons_succ]
            refine seqH_move rfl rfl (fun Kk hK => ?_)
            refine wp_buildSliceV 68 1 _ rfl #[(0, .agg (blobC (id, dat)).toArray)] (by simp [go_sem]) _ _ (built_blob _ rfl _) ?_
            have hal : Below wr.drew.heap.size wr.drew (wr.drew.alloc (.cells (blobC (id, dat)).toArray 81)) := (Below.refl _ _).alloc (Nat.le_refl _) _
            have hb6 : Below wo.heap.size wo (wr.drew.alloc (.cells (blobC (id, dat)).toArray 81)) := HBX.out.drew.trans (hal.mono HBX.out.size)
            refine hK _ _ hb6 ?_
            clear hK Kk
            try simp only [Act.put, List.setIfInBounds_toArray, List.set_cons_zero, List.set_cons_succ]
            have HN7 := Lib.hid ((HN.out.keep (w' := wr.drew) fun _ _ => rfl).below hal)
            have HA7 := Lib.hid (heap_alloc_new wr.drew (.cells (blobC (id, dat)).toArray 81))
            have HB6 := Lib.hid hb6
            have hws6 : wr.heap.size < (wr.drew.alloc (.cells (blobC (id, dat)).toArray 81)).heap.size := by simp
            clear hal hb6
            have hnk : N.length ≤ K.length := by rw [HNE2.out]; exact List.length_filter_le _ _
            obtain ⟨i0, hi0, hz0, hz1, hz2⟩ := info_parts infoBlob
            refine seqH_move rfl rfl (fun Kk hK => ?_)
            refine wp_append_recs (f := blobC) _ _ 68 rfl 81 i0 (.agg #[.int .u64 0, .string ⟨#[]⟩, .slice none 0 0, .int .u32 0]) 4 56 Tryz.underlying68 hi0 hz0 hz1 hz2 rfl (by omega) (.slice au N.length cu) N rfl HN7.out ⟨wr.drew.heap.size, 0, none⟩ 1 1 [(id, dat)] rfl rfl (fun y hy => rfl) (fun y hy => blobC_one y) (one_rec HA7.out) (by unfold maxLen; omega) (by omega) ?_
            intro v8 w8 hr8 hg8 hv8
            obtain ⟨a8, c8, hv0, _, _⟩ := hr8.form
            have hln : (N ++ [(id, dat)]).length = N.length + 1 := by rw [List.length_append, List.length_singleton]
            subst hv0
            have hb8 : Below wo.heap.size wo w8 := HB6.out.grown hg8 (by have := HBX.out.size; omega) fun q hq => HNO.out q hq
            refine hK _ _ hb8 ?_
            clear hK Kk
            try simp only [Act.put, List.setIfInBounds_toArray, List.set_cons_zero, List.set_cons_succ]
            refine seqH_nil ?_
            go_wp2
            go_roundw
            case rel => exact ⟨j + 1, a8, c8, N ++ [(id, dat)], by go_num, by omega, rfl, by rw [hln]; omega, by rw [HTK.out, HNE2.out]; rfl, hr8, fun q hq => .inl (by
              have := HB.out.size
              have := HBX.out.size
              rcases hv8 with e | e
              · have := HNO.out q (e ▸ hq); omega
              · rw [e] at hq; simp at hq; omega), HB.out.trans (hb8.mono HB.out.size)⟩
            case measure => simp only [intOf]; omega
    · have hji : ¬ (j : Int) < (n2 : Int) := by omega
      obtain rfl : j = n2 := by omega
      have hke : K = hasOf L (M.map (·.c)) := HKE.out.trans (by rw [List.take_of_length_le (by rw [List.length_map, HML.out]; exact Nat.le_refl _)])
      go_wp2
      go_ret
      rw [← hke]
      exact ⟨av, cv, rfl, HO.out, HB.out, HOW.out⟩

def readsB (D : Dk) (h : Ht) (L : List KD) : Bool := L.all (fun b => getOf D h b.1 == (0, b.2)) && (h.at_.length == L.length)
section
variable {w : World} {S U : Nat → Prop} {g gd : Nat} {D : Dk} {h : Ht}
set_option maxHeartbeats 4000000 in
theorem reads_any (k : HotAt w S U g gd D h) (hok : HtOk h) (a : Option Addr) (cap : Nat) (L : List KD) (hL : Recs blobC w 81 4 (.slice a L.length cap) L) (hll : L.length ≤ 1000) (hid : ∀ b ∈ L, b.1 < 18446744073709551616) :
    Calls Tryz.prog 34 #[.pointer (some ⟨g, 0, none⟩), .slice a L.length cap] w (fun e w' => e = .returned (.bool (readsB D h L)) ∧ Below w.heap.size w w') := by
  have CG := Lib.hid (fun u (hu : Below w.heap.size w u) q (hq : q < 18446744073709551616) => get_any (k.below hu) q hq (hok.get q))
  have CI := Lib.hid (fun u (hu : Below w.heap.size w u) => ids_any (k.below hu) (by have := hok.few; omega))
  have HL := Lib.hid hL
  have HID := Lib.hid hid
  have hfew := hok.few
  clear k hL hok hid
  go_enter Tryz.func34, Tryz.ntmps34
  go_wp2
  go_loopw [5] (fun s5 wr => ∃ (j : Nat), s5 = .int .i64 j ∧ j ≤ L.length ∧ (L.take j).all (fun b => getOf D h b.1 == (0, b.2)) = true ∧ Below w.heap.size w wr) (fun s5 _ => L.length - (intOf s5).toNat)
  case atStart => exact ⟨0, rfl, Nat.zero_le _, rfl, Below.refl _ _⟩
  case round =>
    obtain ⟨j, rfl, hj, hal, hb⟩ := hrel
    have HALL := Lib.hid hal
    have HB := Lib.hid hb
    clear hal hb
    by_cases hlt : j < L.length
    · have hji : (j : Int) < (L.length : Int) := by omega
      obtain ⟨bk, ok, rfl, hbk, hck⟩ := HL.out.came.at (by omega) (by omega)
      have hkg : L[j]? = some (L.getD j default) := by rw [List.getD, List.getElem?_eq_getElem hlt]; rfl
      generalize hkb : L.getD j default = kb at *
      obtain ⟨ki, kd⟩ := kb
      have k0 : w.cell? ⟨bk, ok + j * 4, none⟩ = some (.int .u64 (ki : Nat)) := hck j 0 _ hkg (by omega)
      have k1 : w.cell? ⟨bk, ok + j * 4 + 1, none⟩ = some (.string ⟨kd.toArray⟩) := by rw [Nat.add_assoc]; exact hck j 1 _ hkg (by omega)
      have k0' : wr.cell? ⟨bk, ok + j * 4, none⟩ = some (.int .u64 (ki : Nat)) := by rw [HB.out.cell (by exact hbk)]; exact k0
      have K1 := Lib.hid k1
      have hki : ki < 18446744073709551616 := HID.out (ki, kd) (List.mem_of_getElem? hkg)
      have HST := Lib.hid (show (L.take (j + 1)).all (fun b => getOf D h b.1 == (0, b.2)) = (getOf D h ki == (0, kd)) by
        rw [List.take_add_one, hkg, Option.toList_some, List.all_append, HALL.out]; simp)
      have HNO := Lib.hid (show (getOf D h ki == (0, kd)) = false → readsB D h L = false from fun hf => by
        unfold readsB
        have : L.all (fun b => getOf D h b.1 == (0, b.2)) = false := by
          rw [List.all_eq_false]
          exact ⟨(ki, kd), List.mem_of_getElem? hkg, by simp only [hf]; simp⟩
        rw [this, Bool.false_and])
      have HKC := (HL.out.came).2.1
      have HKC2 := (HL.out.came).2.2.1
      unfold maxLen at HKC2
      clear hck hkg k0 k1
      go_wp2_with (go_at_call 16; refine (CG.out wr HB.out ki hki).mono ?_; rintro e w2 ⟨ga, gn, gc, rfl, hby, hb2, _⟩; have hby2 := hby; have HB2 := Lib.hid hb2; have HBY := Lib.hid hby; clear hb2 hby hby2)
      have hk2 : w2.cell? ⟨bk, ok + j * 4 + 1, none⟩ = some (.string ⟨kd.toArray⟩) := by rw [HB2.out.cell (show bk < wr.heap.size by have := HB.out.size; omega), HB.out.cell (by exact hbk)]; exact K1.out
      have HK2 := Lib.hid (show w2.drew.cell? ⟨bk, ok + j * 4 + 1, none⟩ = _ from hk2)
      have HB22 := Lib.hid (HB.out.trans (HB2.out.mono HB.out.size))
      clear hk2 HB2
      generalize getOf D h ki = r at *
      obtain ⟨re, rd⟩ := r
      dsimp only at *
      have hjk : (j : Int) < (L.length : Int) := hji
      by_cases hs : rd = kd
      · subst hs
        by_cases h0 : re = 0
        · subst h0
          have HST2 := Lib.hid (HST.out.trans (show (((0 : Int), rd) == (0, rd)) = true by simp))
          clear k0'
          refine region_head 12 [0, 1, 2, 3, 4, 5, 6, 7, 8, 9, 10, 11] [] (fun u => BytesAt u ga gn gc rd ∧ u.cell? ⟨bk, ok + j * 4 + 1, none⟩ = some (.string ⟨rd.toArray⟩)) (by kernel_rfl) (by kernel_rfl) ⟨HBY.out.below ((Below.refl _ _).drew), HK2.out⟩ ?_
          simp only [pickO, List.append_eq, List.cons_append, List.nil_append, List.filterMap_cons, List.filterMap_nil, List.getElem?_cons_zero, List.getElem?_cons_succ, Option.map_some, List.drop_succ_cons, List.drop_zero]
          refine seqH_read _ rfl rfl (by rintro u ⟨hu1, hu2⟩; clear hu1; go_simp; with_reducible rfl) ?_
          try simp only [Act.put, List.setIfInBounds_toArray, List.set_cons_zero, List.set_cons_succ]
          refine seqH_read (.string ⟨rd.toArray⟩) rfl rfl (by rintro u ⟨hu1, hu2⟩; have hcv := hu1.conv; clear hu1; go_simp) ?_
          try simp only [Act.put, List.setIfInBounds_toArray, List.set_cons_zero, List.set_cons_succ]
          iterate 5
            refine seqH_read _ rfl rfl (by rintro u ⟨hu1, hu2⟩; clear hu1; go_simp; with_reducible rfl) ?_
            try simp only [Act.put, List.setIfInBounds_toArray, List.set_cons_zero, List.set_cons_succ]
          refine seqH_read (.bool false) rfl rfl (by rintro u ⟨hu1, hu2⟩; clear hu1 hu2; go_simp; try simp) ?_
          try simp only [Act.put, List.setIfInBounds_toArray, List.set_cons_zero, List.set_cons_succ]
          refine seqH_read (.bool false) rfl rfl (by rintro u ⟨hu1, hu2⟩; clear hu1 hu2; go_simp) ?_
          try simp only [Act.put, List.setIfInBounds_toArray, List.set_cons_zero, List.set_cons_succ]
          try simp only [Act.put, List.setIfInBounds_toArray, List.set_cons_zero, List.set_cons_succ]
          iterate 1
            refine seqH_readG _ rfl (by rfl) (by rintro u ⟨hu1, hu2⟩; clear hu1; go_simp; with_reducible rfl) ?_
            try simp only [Act.put, List.setIfInBounds_toArray, List.set_cons_zero, List.set_cons_succ]
          refine seqH_readG (.bool false) rfl (by rfl) (by rintro u ⟨hu1, hu2⟩; clear hu1 hu2; go_simp; try simp) ?_
          try simp only [Act.put, List.setIfInBounds_toArray, List.set_cons_zero, List.set_cons_succ]
          refine seqH_read (.bool false) rfl rfl (by rintro u ⟨hu1, hu2⟩; clear hu1 hu2; go_simp; try simp) ?_
          try simp only [Act.put, List.setIfInBounds_toArray, List.set_cons_zero, List.set_cons_succ]
          refine seqH_nil ?_
          go_wp2
          go_roundw
          case rel => exact ⟨j + 1, by go_num, by omega, HST2.out, HB22.out.drew⟩
          case measure => simp only [intOf]; omega
        · have HNO2 := Lib.hid (HNO.out (show ((re, rd) == ((0 : Int), rd)) = false by simp [h0]))
          clear k0'
          refine region_head 12 [0, 1, 2, 3, 4, 5, 6, 7, 8, 9, 10, 11] [] (fun u => BytesAt u ga gn gc rd ∧ u.cell? ⟨bk, ok + j * 4 + 1, none⟩ = some (.string ⟨rd.toArray⟩)) (by kernel_rfl) (by kernel_rfl) ⟨HBY.out.below ((Below.refl _ _).drew), HK2.out⟩ ?_
          simp only [pickO, List.append_eq, List.cons_append, List.nil_append, List.filterMap_cons, List.filterMap_nil, List.getElem?_cons_zero, List.getElem?_cons_succ, Option.map_some, List.drop_succ_cons, List.drop_zero]
          refine seqH_read _ rfl rfl (by rintro u ⟨hu1, hu2⟩; clear hu1; go_simp; with_reducible rfl) ?_
          try simp only [Act.put, List.setIfInBounds_toArray, List.set_cons_zero, List.set_cons_succ]
          refine seqH_read (.string ⟨rd.toArray⟩) rfl rfl (by rintro u ⟨hu1, hu2⟩; have hcv := hu1.conv; clear hu1; go_simp) ?_
          try simp only [Act.put, List.setIfInBounds_toArray, List.set_cons_zero, List.set_cons_succ]
          iterate 5
            refine seqH_read _ rfl rfl (by rintro u ⟨hu1, hu2⟩; clear hu1; go_simp; with_reducible rfl) ?_
            try simp only [Act.put, List.setIfInBounds_toArray, List.set_cons_zero, List.set_cons_succ]
          refine seqH_read (.bool false) rfl rfl (by rintro u ⟨hu1, hu2⟩; clear hu1 hu2; go_simp; try simp) ?_
          try simp only [Act.put, List.setIfInBounds_toArray, List.set_cons_zero, List.set_cons_succ]
          refine seqH_read (.bool false) rfl rfl (by rintro u ⟨hu1, hu2⟩; clear hu1 hu2; go_simp) ?_
          try simp only [Act.put, List.setIfInBounds_toArray, List.set_cons_zero, List.set_cons_succ]
          iterate 1
            refine seqH_readG _ rfl (by rfl) (by rintro u ⟨hu1, hu2⟩; clear hu1; go_simp; with_reducible rfl) ?_
            try simp only [Act.put, List.setIfInBounds_toArray, List.set_cons_zero, List.set_cons_succ]
          refine seqH_readG (.bool true) rfl (by rfl) (by rintro u ⟨hu1, hu2⟩; clear hu1 hu2; go_simp; try simp [h0]) ?_
          try simp only [Act.put, List.setIfInBounds_toArray, List.set_cons_zero, List.set_cons_succ]
          refine seqH_read (.bool true) rfl rfl (by rintro u ⟨hu1, hu2⟩; clear hu1 hu2; go_simp; try simp) ?_
          try simp only [Act.put, List.setIfInBounds_toArray, List.set_cons_zero, List.set_cons_succ]
          refine seqH_nil ?_
          go_wp2
          go_ret
          exact ⟨by rw [HNO2.out]; rfl, HB22.out.drew⟩
      · have HNO2 := Lib.hid (HNO.out (show ((re, rd) == ((0 : Int), kd)) = false by simp [hs]))
        clear k0'
        refine region_head 12 [0, 1, 2, 3, 4, 5, 6, 7, 8, 9, 10, 11] [] (fun u => BytesAt u ga gn gc rd ∧ u.cell? ⟨bk, ok + j * 4 + 1, none⟩ = some (.string ⟨kd.toArray⟩)) (by kernel_rfl) (by kernel_rfl) ⟨HBY.out.below ((Below.refl _ _).drew), HK2.out⟩ ?_
        simp only [pickO, List.append_eq, List.cons_append, List.nil_append, List.filterMap_cons, List.filterMap_nil, List.getElem?_cons_zero, List.getElem?_cons_succ, Option.map_some, List.drop_succ_cons, List.drop_zero]
        refine seqH_read _ rfl rfl (by rintro u ⟨hu1, hu2⟩; clear hu1; go_simp; with_reducible rfl) ?_
        try simp only [Act.put, List.setIfInBounds_toArray, List.set_cons_zero, List.set_cons_succ]
        refine seqH_read (.string ⟨rd.toArray⟩) rfl rfl (by rintro u ⟨hu1, hu2⟩; have hcv := hu1.conv; clear hu1; go_simp) ?_
        try simp only [Act.put, List.setIfInBounds_toArray, List.set_cons_zero, List.set_cons_succ]
        iterate 5
          refine seqH_read _ rfl rfl (by rintro u ⟨hu1, hu2⟩; clear hu1; go_simp; with_reducible rfl) ?_
          try simp only [Act.put, List.setIfInBounds_toArray, List.set_cons_zero, List.set_cons_succ]
        refine seqH_read (.bool true) rfl rfl (by rintro u ⟨hu1, hu2⟩; clear hu1 hu2; go_simp; try simp [hs]) ?_
        try simp only [Act.put, List.setIfInBounds_toArray, List.set_cons_zero, List.set_cons_succ]
        refine seqH_read (.bool true) rfl rfl (by rintro u ⟨hu1, hu2⟩; clear hu1 hu2; go_simp) ?_
        try simp only [Act.put, List.setIfInBounds_toArray, List.set_cons_zero, List.set_cons_succ]
        iterate 2
          refine seqH_skip rfl (by rfl) ?_
          try simp only [Act.put, List.setIfInBounds_toArray, List.set_cons_zero, List.set_cons_succ]
        refine seqH_read (.bool true) rfl rfl (by rintro u ⟨hu1, hu2⟩; clear hu1 hu2; go_simp; try simp) ?_
        try simp only [Act.put, List.setIfInBounds_toArray, List.set_cons_zero, List.set_cons_succ]
        refine seqH_nil ?_
        go_wp2
        go_ret
        exact ⟨by rw [HNO2.out]; rfl, HB22.out.drew⟩
    · obtain rfl : j = L.length := by omega
      have hji : ¬ (L.length : Int) < (L.length : Int) := by omega
      have hal := HALL.out
      rw [List.take_length] at hal
      have HALL := Lib.hid hal
      clear hal
      go_wp2_with (go_at_call 62; refine (CI.out wr HB.out).mono ?_; rintro e w2 ⟨v, rfl, hkr, _, hb2⟩; obtain ⟨ka, kc, hv0, _, _⟩ := hkr.form; subst hv0; rw [List.length_map]; have HB2 := Lib.hid hb2; clear hb2 hkr)
      go_ret
      refine ⟨?_, HB.out.trans (HB2.out.mono HB.out.size)⟩
      show Ending.returned (.bool ((h.at_.length : Int) == (L.length : Int))) = _
      unfold readsB
      rw [HALL.out, Bool.true_and]
      congr 2
      by_cases hh : h.at_.length = L.length
      · rw [hh]; simp
      · rw [beq_eq_false_iff_ne.2 hh, beq_eq_false_iff_ne.2 (by omega)]
end
end Go.Proofs.YtjcmphjjkeigjaaGreat

namespace Go.Proofs.YtjcmphjjkeigjaaGreat
open Go.RowKit
set_option linter.unusedVariables false
set_option linter.unusedSimpArgs false
set_option maxRecDepth 100000

theorem aw7_f : fmtH 51 = ⟨[], [0], [true, false, false, false, false, false, false, false, false]⟩ := by rfl
def h7 : Ht := ⟨[], [0], [true, false, false, false, false, false, false, false, false]⟩
def h7b (dat : List UInt8) : Ht := ⟨[⟨5, [1, 2], dat, sumL dat⟩], [3], [false, true, true, true, false, false, false, false, false]⟩
theorem aw7_b (dat : List UInt8) (hd : dat.length = 200) : ∃ q, planOf h7 [⟨5, dat, false⟩] = some (h7b dat, q) := by
  have hn : needsOf h7.at_ [⟨5, dat, false⟩] = some 3 := by
    have h1 : countC h7.at_ [⟨5, dat, false⟩] = 1 := by rfl
    have h2 : takeC [⟨5, dat, false⟩] = 2 := by
      unfold takeC
      simp only [List.foldl_cons, List.foldl_nil, hd]
      rfl
    unfold needsOf
    rw [h1, h2]
    decide +kernel
  refine ⟨(planAt h7 [⟨5, dat, false⟩] 3).2, ?_⟩
  unfold planOf
  rw [hn]
  dsimp only
  rw [if_neg (by decide +kernel)]
  congr 1
  have hp : planL [⟨5, dat, false⟩] (h7.at_, [], (frees h7.used).take 3) = ([⟨5, [1, 2], dat, sumL dat⟩], blobPuts dat [1, 2], [3]) := by
    have hf : (frees h7.used).take 3 = [1, 2, 3] := by decide +kernel
    rw [hf]
    unfold planL
    simp only [List.foldl_cons, List.foldl_nil]
    unfold planStep
    dsimp only
    rw [if_neg (by simp), hd]
    rfl
  unfold planAt
  rw [hp]
  rfl
theorem aw7_m (dat : List UInt8) (hd : dat.length = 200) : mayC [⟨5, dat, false⟩] = true := by
  unfold mayC
  simp [okC, hd]
theorem aw7_batch {n : Nat} {s : List (List UInt8)} (k : Lies n s h7) (dat : List UInt8) (hd : dat.length = 200) (r : Int) (s' : List (List UInt8)) (h' : Ht) (hb : batchOf (dkS s) h7 [⟨5, dat, false⟩] = (r, dkS s', h')) : r = 0 ∧ h' = h7b dat := by
  obtain ⟨q, hq⟩ := aw7_b dat hd
  obtain ⟨s2, h2⟩ := lies_yes k (aw7_m dat hd) (by simp [noneC]) (by simp) hq
  rw [h2] at hb
  cases hb
  exact ⟨rfl, rfl⟩
theorem aw7_none {s : List (List UInt8)} (dat : List UInt8) (r : Int) (s' : List (List UInt8)) (h' : Ht) (hb : batchOf (dkS s) (h7b dat) [⟨5, [], true⟩, ⟨6, [], true⟩] = (r, dkS s', h')) : r = 6 ∧ h' = h7b dat := by
  unfold batchOf at hb
  rw [show mayC [⟨5, [], true⟩, ⟨6, [], true⟩] = true by rfl, if_neg (by simp), if_pos (by rfl)] at hb
  cases hb
  exact ⟨rfl, rfl⟩
theorem row8_own {w : World} {b base : Nat} {l : List UInt8} (h : BytesAt w (some ⟨b, 0, none⟩) 128 128 l) (hr : Row8 w b) (hb : base ≤ b) : w.ownsRow base 5 1 (.slice (some ⟨b, 0, none⟩) 128 128) 128 (vals l) := by
  obtain ⟨cur, hc, hx⟩ := hr
  obtain ⟨b1, o1, e1, hcell⟩ := h.at (by omega)
  cases e1
  have hl := h.1
  refine ⟨by rw [vals_length, hl], .inr ⟨b, 128, cur, rfl, hb, hx, Nat.le_refl _, by unfold maxLen; omega, by omega, ?_⟩⟩
  apply List.ext_getElem?
  intro i
  by_cases hi : i < 128
  · have h1 := hcell i hi
    rw [Nat.zero_add, cell_of_row _ _ _ _ _ _ hx] at h1
    rw [List.getElem?_take, if_pos (by omega), Array.getElem?_toList, h1, vals_at l i (by omega)]
  · rw [List.getElem?_eq_none (by rw [List.length_take]; omega), List.getElem?_eq_none (by rw [vals_length]; omega)]
theorem own_block {w : World} {base n cap : Nat} {t : TypeId} {a : Option Addr} {xs : List Value} (h : w.ownsRow base t 1 (.slice a n cap) n xs) (hn : 0 < n) : ∃ b, a = some ⟨b, 0, none⟩ ∧ n ≤ cap ∧ cap ≤ maxLen ∧ base ≤ b := by
  obtain ⟨_, ⟨_, h0⟩ | ⟨g, cap2, cur, hv, h1, _, h2, h3, _⟩⟩ := h
  · omega
  · cases hv
    exact ⟨g, rfl, h2, h3, h1⟩
theorem chgs_new {w : World} {V : Nat → Prop} {M : List ChgM} (hM : M.length ≤ 1000) (hb : ∀ x ∈ M, BytesAt w x.a x.n x.cap x.c.data) (hV : ∀ q, V q → q < w.heap.size) (ha : ∀ x ∈ M, ∀ p, x.a = some p → V p.block) (hid : ∀ x ∈ M, x.c.id < 18446744073709551616) :
    ChgsIn (w.alloc (.cells (M.flatMap chgC).toArray 76)) (fun q => q = w.heap.size ∨ V q) (some ⟨w.heap.size, 0, none⟩) M.length M.length M := by
  have hbl : Below w.heap.size w (w.alloc (.cells (M.flatMap chgC).toArray 76)) := (Below.refl _ _).alloc (Nat.le_refl _) _
  have hc : ∀ x ∈ M, (chgC x).length = 3 := fun _ _ => rfl
  refine ⟨⟨rfl, Nat.le_refl _, by unfold maxLen; omega, hc, .inr ⟨_, rfl, fun i j x hx hj => ?_⟩⟩, fun q hq => ?_, fun p hp => .inl (by cases hp; rfl), fun x hx => (hb x hx).below hbl, fun x hx p hp => .inr (ha x hx p hp), hid⟩
  · rw [Addr.add_mid, Nat.zero_add, cell_of_row _ _ _ _ _ _ (heap_alloc_new w _), ← flatMap_at (size := 3) M hc i j x hx hj]
    simp
  · rcases hq with rfl | hq
    · simp
    · have := hV q hq; simp; omega
set_option maxHeartbeats 4000000 in
theorem awake07 (w : World) : Calls Tryz.prog 8 #[] w fun e w' => e = .returned (.bool true) ∧ Below w.heap.size w w' := by
  go_enter Tryz.func8, Tryz.ntmps8
  go_wp2_with fail
  refine (new_yes 51 w (by omega) (by omega)).mono ?_
  rintro e w1 ⟨gd, S1, rfl, hd1, hb1, hn1⟩
  have CF := Lib.hid (hs_format (w0 := w) hd1 (by omega) (by omega) hn1 hb1)
  clear hd1 hb1 hn1
  go_wp2_with fail
  refine CF.out.mono ?_
  rintro e w2 ⟨g, S, U, s, rfl, hh⟩
  rw [aw7_f] at hh
  have H2 := Lib.hid (show Hs w w2 51 S U g gd s h7 from hh)
  clear CF hh
  have CT := Lib.hid (show Calls _ _ _ w2 (fun e w' => e = .returned (.int .i64 9) ∧ w' = w2) from total_any H2.out.hot)
  have CR := Lib.hid (show Calls _ _ _ w2 (fun e w' => e = .returned (.int .i64 8) ∧ Below w2.heap.size w2 w') from free7_any H2.out.hot)
  go_wp2_with fail
  refine CT.out.mono ?_
  rintro e w2x ⟨rfl, hw2x⟩
  subst hw2x
  go_wp2_with fail
  refine CR.out.mono ?_
  rintro e w3 ⟨rfl, hb3⟩
  have H3 := Lib.hid (H2.out.quiet hb3)
  have CU := Lib.hid (show Calls _ _ _ w3 (IntsTo [0] w3) from used7_any H3.out.hot)
  clear CT CR hb3 H2
  go_wp2_with fail
  refine CU.out.mono ?_
  rintro e w4 ⟨ua, uc, rfl, ho4, hb4⟩
  have H4 := Lib.hid (H3.out.quiet hb4)
  obtain ⟨bu, rfl, _, _, hbu⟩ := own_block ho4 (by show 0 < 1; omega)
  obtain ⟨_, _, hbe, _, hcu⟩ := (ints_owned ho4).cell (by show 0 < 1; omega)
  cases hbe
  have hu4 : w4.cell? ⟨bu, 0, none⟩ = some (.int .i64 0) := hcu 0 (by show 0 < 1; omega)
  have HU := Lib.hid hu4
  have HBU := Lib.hid (block_lt hu4)
  have HSU := Lib.hid (show ∀ q, S q → q ≠ bu from fun q hq e => by have := H3.out.hot.disk.lt q hq; omega)
  have HGU := Lib.hid (show g ≠ bu from fun e => by have := H3.out.hot.lt; omega)
  clear CU H3 ho4 hb4 hcu hu4
  go_wp2_with fail
  refine (show Calls _ _ #[.int .u8 7] w4 (AllTo 7 w4) from all_own 7 w4).mono ?_
  rintro e w5 ⟨b5, rfl, hy5, hb5, hlt5, hl5, hr5⟩
  have H5 := Lib.hid (H4.out.quiet hb5)
  have B45 := Lib.hid hb5
  have CA := Lib.hid (show Calls _ _ #[.int .u8 8] w5 (AllTo 8 w5) from all_own 8 w5)
  have R5 := Lib.hid (row8_own hy5 hr5 hlt5)
  clear hy5 hb5 hr5
  go_wp2_with (first
    | (go_at_call 39; refine CA.out.mono ?_; rintro e w6 ⟨b6, rfl, hy6, hb6, hlt6, hl6, hr6⟩; have R6 := Lib.hid (owned_below R5.out hb6); have HB6 := Lib.hid hb6; have HY6 := Lib.hid hy6; clear hb6 hy6 hr6)
    | (at_builtin; refine wpList_append_bytes rfl _ _ rfl w4.heap.size (.slice (some ⟨b5, 0, none⟩) 128 128) 128 (vals (sec 7)) rfl R6.out (some ⟨b6, 0, none⟩) 128 128 (sec 8) rfl HY6.out 256 (by omega) (by omega) (by have := HB6.out.size; omega) ?_; intro a7 c7 w7 ho7 hg7; obtain ⟨b7, rfl, hc7, hm7, hlt7⟩ := own_block ho7 (by omega); have hci7 : (200 : Int) ≤ (c7 : Int) := (by omega); have hc70 : ¬ c7 = 0 := (by omega)))
  obtain ⟨dat, hdat⟩ : ∃ d, d = (sec 7 ++ sec 8).take 200 := ⟨_, rfl⟩
  have hdl : dat.length = 200 := by rw [hdat, List.length_take, List.length_append, sec_length, sec_length]; rfl
  have hby7 : BytesAt w7 (some ⟨b7, 0, none⟩) 200 c7 dat := by
    have h1 : BytesAt w7 (some ⟨b7, 0, none⟩) 256 c7 (sec 7 ++ sec 8) := BytesAt.owned (by rw [show vals (sec 7 ++ sec 8) = vals (sec 7) ++ vals (sec 8) by simp [vals]]; exact ho7)
    rw [hdat]
    exact h1.head (by omega)
  have hb47 : Below w4.heap.size w4 w7 := (B45.out.trans (HB6.out.mono B45.out.size)).grown hg7 (by have := B45.out.size; have := HB6.out.size; omega) fun q hq => by cases hq; exact hlt5
  have H7 := Lib.hid (H4.out.quiet hb47)
  have hlt77 : b7 < w7.heap.size := by obtain ⟨b1, o1, e1, hc1⟩ := hby7.at (by omega); cases e1; exact block_lt (hc1 0 (by omega))
  have hn8 := chgs_new (w := w7) (V := fun q => q = b7) (M := [⟨⟨5, dat, false⟩, some ⟨b7, 0, none⟩, 200, c7⟩]) (by simp) (by simpa using hby7) (by rintro q rfl; exact hlt77) (by simp) (by simp)
  have hal : Below w7.heap.size w7 (w7.alloc (.cells #[.int .u64 5, .slice (some ⟨b7, 0, none⟩) 200 c7, .bool false] 76)) := (Below.refl _ _).alloc (Nat.le_refl _) _
  have CB := Lib.hid (hs_batch (H7.out.quiet hal) hn8 (by simp) (by simp))
  have HY8 := Lib.hid (hby7.below hal)
  have HU8 := Lib.hid (show (w7.alloc (.cells #[.int .u64 5, .slice (some ⟨b7, 0, none⟩) 200 c7, .bool false] 76)).cell? ⟨bu, 0, none⟩ = some (.int .i64 0) by
    rw [hal.cell (show bu < w7.heap.size by have := HBU.out; have := hb47.size; omega), hb47.cell (show bu < w4.heap.size from HBU.out)]; exact HU.out)
  have HS7 := Lib.hid (show ∀ q, S q → q ≠ b7 from fun q hq e => by have := H4.out.hot.disk.lt q hq; omega)
  have HG7 := Lib.hid (show g ≠ b7 from fun e => by have := H4.out.hot.lt; omega)
  have HB8 := Lib.hid hlt77
  have HBU8 := Lib.hid (show bu < w7.heap.size by have := HBU.out; have := hb47.size; omega)
  have HD := Lib.hid hdl
  clear hb47 hn8 hal hby7 hlt77 ho7 hg7 HU HBU R6 R5 HB6 HY6 B45 H4 H5 CA hdat hlt6 hl6 hlt5 hl5 hlt7 hci7 hc70 hc7 hm7 hdl
  refine CB.out.mono ?_
  rintro e w9 ⟨r, s9, h9, S9, U9, rfl, hbo, hH9, hon, hs9, hu9, hor⟩
  obtain ⟨rfl, rfl⟩ := aw7_batch H7.out.lies dat HD.out r s9 h9 hbo
  have H9 := Lib.hid hH9
  have HY9 := Lib.hid (HY8.out.only hon (by rintro x hx; cases hx; rintro (e | e); exact HG7.out e.symm; exact HS7.out _ e rfl))
  have HU9 := Lib.hid (show w9.cell? ⟨bu, 0, none⟩ = some (.int .i64 0) by
    rw [World.cell?_of_block (w := w7.alloc _) (hon.block bu (by have := HBU8.out; simp; omega) (by rintro (e | e); exact HGU.out e.symm; exact HSU.out _ e rfl))]; exact HU8.out)
  have HB9 := Lib.hid (show b7 < w9.heap.size by have := HB8.out; have := hon.size; simp at this; omega)
  have HBU9 := Lib.hid (show bu < w9.heap.size by have := HBU8.out; have := hon.size; simp at this; omega)
  have CG := Lib.hid (show Calls _ _ _ w9 (GetTo (0, dat) w9) from by
    have h1 := get_any H9.out.hot 5 (by omega) (H9.out.lies.ok.get 5)
    rw [lies_get H9.out.lies 5] at h1
    exact h1)
  have HN9 := Lib.hid (show ∀ q, S9 q → q ≠ b7 ∧ q ≠ bu from fun q hq => by
    rcases hs9 q hq with h1 | h1
    · exact ⟨HS7.out q h1, HSU.out q h1⟩
    · have := HB8.out; have := HBU8.out; simp at h1; omega)
  clear CB hor hbo hH9 hon hs9 hu9 H7 HY8 HU8 HS7 HB8 HBU8 HSU
  go_wp2_with fail
  refine CG.out.mono ?_
  rintro e w10 ⟨ga, gn, gc, rfl, hgb, hb10, hga⟩
  have HGA := Lib.hid hga
  clear hga
  have H10 := Lib.hid (H9.out.quiet hb10)
  have CU := Lib.hid (show Calls _ _ _ w10 (IntsTo [1, 2, 3] w10) from used7_any H10.out.hot)
  have HG10 := Lib.hid hgb
  have B10 := Lib.hid hb10
  clear CG hgb hb10
  go_wp2_with fail
  refine CU.out.mono ?_
  rintro e w11 ⟨ua, uc2, rfl, ho11, hb11⟩
  have H11 := Lib.hid (H10.out.quiet hb11)
  have B11 := Lib.hid (B10.out.trans (hb11.mono B10.out.size))
  have HG11 := Lib.hid (HG10.out.below hb11)
  have B1011 := Lib.hid hb11
  obtain ⟨bm, rfl, _, _, hbm⟩ := own_block ho11 (by show 0 < 3; omega)
  obtain ⟨_, _, hbe, _, hcu⟩ := (ints_owned ho11).cell (by show 0 < 3; omega)
  cases hbe
  have m0 : w11.cell? ⟨bm, 0, none⟩ = some (.int .i64 1) := hcu 0 (by show 0 < 3; omega)
  have m2 : w11.cell? ⟨bm, 2, none⟩ = some (.int .i64 3) := hcu 2 (by show 2 < 3; omega)
  have M0 := Lib.hid m0
  have M2 := Lib.hid m2
  clear hcu ho11 m0 m2 CU H10 HG10 hb11
  go_wp2_with fail
  have hn12 := chgs_new (w := w11) (V := fun _ => False) (M := [⟨⟨5, [], true⟩, none, 0, 0⟩, ⟨⟨6, [], true⟩, none, 0, 0⟩]) (by simp) (by intro x hx; simp at hx; rcases hx with rfl | rfl <;> exact BytesAt.nil _) (by simp) (by intro x hx; simp at hx; rcases hx with rfl | rfl <;> simp) (by simp)
  have hal : Below w11.heap.size w11 (w11.alloc (.cells #[.int .u64 5, .slice none 0 0, .bool true, .int .u64 6, .slice none 0 0, .bool true] 76)) := (Below.refl _ _).alloc (Nat.le_refl _) _
  have CB := Lib.hid (hs_batch (H11.out.quiet hal) hn12 (by simp) (by simp))
  have HAL := Lib.hid hal
  clear hn12 hal
  refine CB.out.mono ?_
  rintro e w13 ⟨r, s13, h13, S13, U13, rfl, hbo, hH13, hon, hs13, hu13, hor⟩
  obtain ⟨rfl, rfl⟩ := aw7_none dat r s13 h13 hbo
  have H13 := Lib.hid hH13
  have B911 := Lib.hid (B11.out.trans (HAL.out.mono B11.out.size))
  have hlow : ∀ q, q < w11.heap.size → q ≠ g → ¬ S9 q → w13.heap[q]? = w11.heap[q]? := fun q hq h1 h2 => (hon.block q (by simp; omega) (by rintro (e | e); exact h1 e; exact h2 e)).trans (HAL.out.block q hq)
  have hS9 : ∀ q, w9.heap.size ≤ q → ¬ S9 q := fun q hq h1 => by have := H9.out.hot.disk.lt q h1; omega
  have hg9 := H9.out.hot.lt
  have y1 : BytesAt w13 ga gn gc dat := HG11.out.keepN fun p hp hn => hlow _ (by obtain ⟨b1, o1, e1, hc1⟩ := HG11.out.at hn; rw [hp] at e1; cases e1; exact block_lt (hc1 0 hn)) (fun e => by have := HGA.out p hp; omega) (hS9 _ (HGA.out p hp))
  have hsz9 := B11.out.size
  have y2 : BytesAt w13 (some ⟨b7, 0, none⟩) 200 c7 dat := (HY9.out.below B11.out).keepN fun p hp hn => by
    cases hp
    exact hlow b7 (by have := HB9.out; omega) (fun e => HG7.out e.symm) fun h1 => (HN9.out _ h1).1 rfl
  have u0 : w13.cell? ⟨bu, 0, none⟩ = some (.int .i64 0) := by
    rw [World.cell?_of_block (w := w11) (hlow bu (by have := HBU9.out; omega) (fun e => HGU.out e.symm) fun h1 => (HN9.out _ h1).2 rfl), B11.out.cell (show bu < w9.heap.size from HBU9.out)]; exact HU9.out
  have hbm9 : w9.heap.size ≤ bm := by have := B10.out.size; omega
  have hbml : bm < w11.heap.size := block_lt M0.out
  have m0 : w13.cell? ⟨bm, 0, none⟩ = some (.int .i64 1) := by rw [World.cell?_of_block (w := w11) (hlow bm hbml (by omega) (hS9 _ hbm9))]; exact M0.out
  have m2 : w13.cell? ⟨bm, 2, none⟩ = some (.int .i64 3) := by rw [World.cell?_of_block (w := w11) (hlow bm hbml (by omega) (hS9 _ hbm9))]; exact M2.out
  have hgn : gn = 200 := by rw [← y1.1]; exact HD.out
  subst hgn
  have Y1 := Lib.hid y1
  have Y2 := Lib.hid y2
  have CR := Lib.hid (fun u (hu : Below w13.heap.size w13 u) => show Calls _ _ _ u (fun e w' => e = .returned (.int .i64 6) ∧ Below u.heap.size u w') from free7_any (H13.out.hot.below hu))
  have HBF := Lib.hid H13.out.below
  clear CB hbo hH13 hon hs13 hu13 hor hlow hS9 hg9 hsz9 hbm9 H11 H9 HG11 HY9 HU9 HB9 HBU9 HN9 HG7 HGU HGA M0 M2 HAL B911 B10 B11 B1011 y1 y2 H13
  go_wp2_with fail
  refine (CR.out w13 (Below.refl _ _)).mono ?_
  rintro e w14 ⟨rfl, hb14⟩
  have k0 : w14.cell? ⟨bm, 0, none⟩ = some (.int .i64 1) := by rw [hb14.cell (block_lt m0)]; exact m0
  have k2 : w14.cell? ⟨bm, 2, none⟩ = some (.int .i64 3) := by rw [hb14.cell (block_lt m2)]; exact m2
  have Z1 := Lib.hid (Y1.out.below hb14)
  have Z2 := Lib.hid (Y2.out.below hb14)
  have HB14 := Lib.hid (HBF.out.trans (hb14.mono HBF.out.size))
  have hcv1 := Z1.out.conv
  have hcv2 := Z2.out.conv
  clear hb14 u0 m0 m2 Y1 Y2 CR HBF
  go_wp2_with fail
  go_ret
  exact ⟨rfl, HB14.out⟩
end Go.Proofs.YtjcmphjjkeigjaaGreat

namespace Go.Proofs.YtjcmphjjkeigjaaGreat
open Go.RowKit
set_option linter.unusedVariables false
set_option linter.unusedSimpArgs false
set_option maxRecDepth 100000

section
variable {w w' : World} {T : Nat → Prop} {a : Option Addr} {n cap B : Nat} {M : List ChgM} {v : Value}
end
theorem key_lt {h : Ht} (k : HtOk h) {L : List KD} (hL : L.Perm (kdL h)) : ∀ b ∈ L, b.1 < 18446744073709551616 := by
  intro b hb
  have h1 := hL.mem_iff.1 hb
  unfold kdL at h1
  obtain ⟨s, hs, rfl⟩ := List.mem_map.1 h1
  exact (k.each s hs).key
theorem has_few {h : Ht} (k : HtOk h) {L : List KD} (hL : L.Perm (kdL h)) : L.length ≤ 1000 := by
  have := k.few
  rw [hL.length_eq]; unfold kdL; rw [List.length_map]; omega
theorem reads_lies {n : Nat} {s : List (List UInt8)} {h : Ht} (k : Lies n s h) {L : List KD} (hL : L.Perm (kdL h)) : readsB (dkS s) h L = true := by
  obtain ⟨h1, h2⟩ := lies_reads k hL
  unfold readsB
  rw [Bool.and_eq_true, List.all_eq_true]
  exact ⟨fun b hb => by rw [h1 b hb]; simp, by rw [h2]; simp⟩

end Go.Proofs.YtjcmphjjkeigjaaGreat

namespace Go.Proofs.YtjcmphjjkeigjaaGreat
open Go.RowKit
set_option linter.unusedVariables false
set_option linter.unusedSimpArgs false
set_option maxRecDepth 100000

section
variable {w w' : World} {S U T : Nat → Prop} {g gd : Nat} {D : Dk} {h : Ht}
theorem HotAt.only (k : HotAt w S U g gd D h) (ho : Only T w w') (hS : ∀ q, S q → ¬ T q) (hU : ∀ q, U q → ¬ T q) (hg : ¬ T g) : HotAt w' S U g gd D h := by
  obtain ⟨mb, da, dn, dc, ba, bn, bc, M, hgx, hv⟩ := k.ex
  exact ⟨k.disk.only ho hS, ⟨mb, da, dn, dc, ba, bn, bc, M, (ho.block g k.lt hg).trans hgx, hv.only ho hU⟩, k.apart, k.offS, k.offU, k.size⟩
end
/-! ### octets that are written over -/
section
variable {W w : World} {T : Nat → Prop} {v : Value} {N : List ChgM}
end
end Go.Proofs.YtjcmphjjkeigjaaGreat
