import Derived.Test.YthnhacncnhknnaaDoorProg
import Derived.WalkKit
import Derived.WalkSpells
import Derived.WalkLawsBesides
import Derived.Lib.Hide
import Derived.BigQuiet
import Derived.Deep.QuietTactic
import Derived.StillTailTactics
import Derived.IntWalk
import Derived.ArgAppend
import Derived.Deep.AppendLies
import Derived.Lib.SliceRun
import Derived.Lib.AppendZeros
import Derived.Laws.StructEq
import Derived.Deep.RegionHeld3
import Derived.Outline
/-
  Graphs as plain data: what the document's words say, without the program.
-/

namespace Go.Proofs.YthnhacncnhknnaaDoor

structure Ed where
  ty : Int
  fr : Int
  tq : Int
deriving DecidableEq
instance : Inhabited Ed := ⟨⟨0, 0, 0⟩⟩
structure Gr where
  ns : List Int
  es : List Ed
deriving DecidableEq
structure Mo where
  ns : List Int
  es : List Int
deriving DecidableEq
instance : Inhabited Mo := ⟨⟨[], []⟩⟩

/-! lists that grow round by round -/
section
variable {β : Type}
def coll (f : Nat → List β) : Nat → List β
  | 0 => []
  | k + 1 => coll f k ++ f k
theorem coll_ext {f g : Nat → List β} {k : Nat} (h : ∀ i, i < k → f i = g i) : coll f k = coll g k := by
  induction k with
  | zero => rfl
  | succ k ih => simp only [coll]; rw [ih fun i hi => h i (by omega), h k (by omega)]
theorem coll_le {f : Nat → List β} (h : ∀ i, (f i).length ≤ 1) (k : Nat) : (coll f k).length ≤ k := by
  induction k with
  | zero => exact Nat.le_refl _
  | succ k ih => simp only [coll, List.length_append]; have := h k; omega
theorem coll_len (h : Nat → β) (k : Nat) : (coll (fun i => [h i]) k).length = k := by
  induction k with
  | zero => rfl
  | succ k ih => simp only [coll, List.length_append, ih, List.length_singleton]
theorem coll_get (h : Nat → β) {i k : Nat} (hi : i < k) : (coll (fun i => [h i]) k)[i]? = some (h i) := by
  induction k with
  | zero => omega
  | succ k ih =>
    simp only [coll]
    by_cases e : i < k
    · rw [List.getElem?_append_left (by rw [coll_len]; exact e)]; exact ih e
    · have : i = k := by omega
      subst this
      rw [List.getElem?_append_right (by rw [coll_len]; exact Nat.le_refl _), coll_len, Nat.sub_self]; rfl
theorem coll_getD (h : Nat → β) {i k : Nat} (hi : i < k) (d : β) : (coll (fun i => [h i]) k).getD i d = h i := by
  rw [List.getD_eq_getElem?_getD, coll_get h hi]; rfl
theorem coll_self (l : List β) (d : β) : coll (fun i => [l.getD i d]) l.length = l := by
  apply List.ext_getElem?
  intro i
  by_cases h : i < l.length
  · rw [coll_get _ h, List.getD_eq_getElem?_getD, List.getElem?_eq_getElem h]; rfl
  · rw [List.getElem?_eq_none (by rw [coll_len]; omega), List.getElem?_eq_none (by omega)]
theorem coll_map {γ : Type} (q : β → γ) (f : Nat → List β) (k : Nat) : (coll f k).map q = coll (fun i => (f i).map q) k := by
  induction k with
  | zero => rfl
  | succ k ih => simp only [coll, List.map_append, ih]
theorem coll_mem {f : Nat → List β} {k : Nat} {x : β} : x ∈ coll f k ↔ ∃ i, i < k ∧ x ∈ f i := by
  induction k with
  | zero => simp [coll]
  | succ k ih =>
    simp only [coll, List.mem_append, ih]
    constructor
    · rintro (⟨i, h1, h2⟩ | h)
      · exact ⟨i, by omega, h2⟩
      · exact ⟨k, by omega, h⟩
    · rintro ⟨i, h1, h2⟩
      by_cases e : i = k
      · subst e; exact .inr h2
      · exact .inl ⟨i, by omega, h2⟩
/-- the first k places are written, the others hold z -/
def pad (f : Nat → β) (z : β) (n k : Nat) : List β := coll (fun i => [f i]) k ++ List.replicate (n - k) z
theorem pad_len (f : Nat → β) (z : β) {n k : Nat} (h : k ≤ n) : (pad f z n k).length = n := by simp [pad, coll_len]; omega
theorem pad_zero (f : Nat → β) (z : β) (n : Nat) : pad f z n 0 = List.replicate n z := by simp [pad, coll]
theorem pad_all (f : Nat → β) (z : β) (n : Nat) : pad f z n n = coll (fun i => [f i]) n := by simp [pad]
theorem pad_set (f : Nat → β) (z : β) {n k : Nat} (h : k < n) : (pad f z n k).set k (f k) = pad f z n (k + 1) := by
  unfold pad
  rw [List.set_append_right _ _ (by rw [coll_len]; exact Nat.le_refl _), coll_len, Nat.sub_self]
  obtain ⟨m, hm⟩ : ∃ m, n - k = m + 1 := ⟨n - k - 1, by omega⟩
  rw [hm, show n - (k + 1) = m by omega, List.replicate_succ, List.set_cons_zero]
  simp [coll]
end

/-! the first error -/
def fstN (f : Nat → Nat) : Nat → Nat → Nat
  | _, 0 => 0
  | k, d + 1 => if f k ≠ 0 then f k else fstN f (k + 1) d
theorem fstN_hit {f : Nat → Nat} {k n : Nat} (h : k < n) (hf : f k ≠ 0) : fstN f k (n - k) = f k := by
  obtain ⟨d, e⟩ : ∃ d, n - k = d + 1 := ⟨n - k - 1, by omega⟩
  rw [e]; simp only [fstN]; rw [if_pos hf]
theorem fstN_pass {f : Nat → Nat} {k n : Nat} (h : k < n) (hf : f k = 0) : fstN f k (n - k) = fstN f (k + 1) (n - (k + 1)) := by
  obtain ⟨d, e⟩ : ∃ d, n - k = d + 1 := ⟨n - k - 1, by omega⟩
  rw [e, show n - (k + 1) = d by omega]; simp only [fstN]; rw [if_neg (by omega)]
theorem fstN_end {f : Nat → Nat} {k n : Nat} (h : n ≤ k) : fstN f k (n - k) = 0 := by
  rw [show n - k = 0 by omega]; rfl
theorem fstN_zero {f : Nat → Nat} : ∀ {d k : Nat}, fstN f k d = 0 → ∀ i, k ≤ i → i < k + d → f i = 0 := by
  intro d
  induction d with
  | zero => intro k _ i h1 h2; omega
  | succ d ih =>
    intro k h i h1 h2
    simp only [fstN] at h
    split at h
    · omega
    · rename_i hf
      by_cases e : i = k
      · subst e; omega
      · exact ih h i (by omega) (by omega)
theorem fstN_all {f : Nat → Nat} : ∀ {d k : Nat}, (∀ i, k ≤ i → i < k + d → f i = 0) → fstN f k d = 0 := by
  intro d
  induction d with
  | zero => intro k _; rfl
  | succ d ih =>
    intro k h
    simp only [fstN]
    rw [if_neg (fun e => e (h k (Nat.le_refl _) (by omega)))]
    exact ih fun i h1 h2 => h i (by omega) (by omega)

/-! errors of graphs -/
def idxB (i : Int) (n : Nat) : Bool := decide (0 ≤ i) && decide (i < (n : Int))
theorem idxB_iff {i : Int} {n : Nat} : idxB i n = true ↔ 0 ≤ i ∧ i < n := by simp [idxB]
theorem idxB_not {i : Int} {n : Nat} : idxB i n = false ↔ i < 0 ∨ (n : Int) ≤ i := by
  rw [← Bool.not_eq_true, idxB_iff]; omega
def edB (x : Ed) (n : Nat) : Bool := idxB x.ty 100 && idxB x.fr n && idxB x.tq n
theorem edB_iff {x : Ed} {n : Nat} : edB x n = true ↔ (0 ≤ x.ty ∧ x.ty < 100) ∧ (0 ≤ x.fr ∧ x.fr < n) ∧ (0 ≤ x.tq ∧ x.tq < n) := by
  simp only [edB, Bool.and_eq_true, idxB_iff]; omega
def validE (g : Gr) : Nat := if 40 < g.ns.length ∨ 80 < g.es.length then 3 else if g.ns.all (idxB · 100) && g.es.all (edB · g.ns.length) then 0 else 6
theorem valid_long {g : Gr} (h : 40 < g.ns.length ∨ 80 < g.es.length) : validE g = 3 := if_pos h
theorem valid_node {g : Gr} (h1 : g.ns.length ≤ 40) (h2 : g.es.length ≤ 80) {i : Nat} (hi : i < g.ns.length) (h : idxB (g.ns.getD i 0) 100 = false) : validE g = 6 := by
  unfold validE
  rw [if_neg (by omega), if_neg]
  intro hc
  rw [Bool.and_eq_true, List.all_eq_true] at hc
  have := hc.1 (g.ns.getD i 0) (by rw [List.getD_eq_getElem?_getD, List.getElem?_eq_getElem hi]; exact List.getElem_mem hi)
  rw [h] at this; cases this
theorem valid_edge {g : Gr} (h1 : g.ns.length ≤ 40) (h2 : g.es.length ≤ 80) {i : Nat} (hi : i < g.es.length) (h : edB (g.es.getD i default) g.ns.length = false) : validE g = 6 := by
  unfold validE
  rw [if_neg (by omega), if_neg]
  intro hc
  rw [Bool.and_eq_true, List.all_eq_true, List.all_eq_true] at hc
  have := hc.2 (g.es.getD i default) (by rw [List.getD_eq_getElem?_getD, List.getElem?_eq_getElem hi]; exact List.getElem_mem hi)
  rw [h] at this; cases this
theorem valid_ok {g : Gr} (h1 : g.ns.length ≤ 40) (h2 : g.es.length ≤ 80) (h3 : ∀ i, i < g.ns.length → idxB (g.ns.getD i 0) 100 = true) (h4 : ∀ i, i < g.es.length → edB (g.es.getD i default) g.ns.length = true) : validE g = 0 := by
  unfold validE
  rw [if_neg (by omega), if_pos]
  rw [Bool.and_eq_true, List.all_eq_true, List.all_eq_true]
  constructor
  · intro x hx
    obtain ⟨i, hi, rfl⟩ := List.mem_iff_getElem.1 hx
    have := h3 i hi
    rwa [List.getD_eq_getElem?_getD, List.getElem?_eq_getElem hi] at this
  · intro x hx
    obtain ⟨i, hi, rfl⟩ := List.mem_iff_getElem.1 hx
    have := h4 i hi
    rwa [List.getD_eq_getElem?_getD, List.getElem?_eq_getElem hi] at this
theorem valid_zero {g : Gr} (h : validE g = 0) : g.ns.length ≤ 40 ∧ g.es.length ≤ 80 ∧ (∀ x ∈ g.ns, 0 ≤ x ∧ x < 100) ∧ (∀ x ∈ g.es, edB x g.ns.length = true) := by
  unfold validE at h
  split at h
  · omega
  · split at h
    · rename_i h1 h2
      rw [Bool.and_eq_true, List.all_eq_true, List.all_eq_true] at h2
      exact ⟨by omega, by omega, fun x hx => idxB_iff.1 (h2.1 x hx), h2.2⟩
    · omega
theorem getD_mem {β : Type} {l : List β} {d : β} {i : Nat} (h : i < l.length) : l.getD i d ∈ l := by
  rw [List.getD_eq_getElem?_getD, List.getElem?_eq_getElem h]; exact List.getElem_mem h
theorem valid_at {g : Gr} (h : validE g = 0) {i : Nat} (hi : i < g.es.length) : (0 ≤ (g.es.getD i default).fr ∧ (g.es.getD i default).fr < g.ns.length) ∧ (0 ≤ (g.es.getD i default).tq ∧ (g.es.getD i default).tq < g.ns.length) :=
  (edB_iff.1 ((valid_zero h).2.2.2 _ (getD_mem hi))).2

/-- the ends of an edge -/
def frN (g : Gr) (i : Nat) : Nat := (g.es.getD i default).fr.toNat
def toN (g : Gr) (i : Nat) : Nat := (g.es.getD i default).tq.toNat

def noG : Gr := ⟨[], []⟩
def noM : Mo := ⟨[], []⟩
/-! Remove -/
def ascAt (l : List Int) (n k : Nat) : Nat := if idxB (l.getD k 0) n = false then 6 else if 0 < k ∧ l.getD k 0 ≤ l.getD (k - 1) 0 then 12 else 0
def ascE (l : List Int) (n : Nat) : Nat := fstN (ascAt l n) 0 l.length
def Asc (l : List Int) : Prop := l.Pairwise (· < ·)
theorem asc_of {l : List Int} (h : ∀ i, i + 1 < l.length → l.getD i 0 < l.getD (i + 1) 0) : Asc l := by
  induction l with
  | nil => exact List.Pairwise.nil
  | cons x r ih =>
    have hr : Asc r := ih fun i hi => by have := h (i + 1) (by simp; omega); simpa using this
    refine List.Pairwise.cons ?_ hr
    intro y hy
    cases r with
    | nil => simp at hy
    | cons z s =>
      have h0 : x < z := by have := h 0 (by simp); simpa using this
      rcases List.mem_cons.1 hy with rfl | hy
      · exact h0
      · have := List.rel_of_pairwise_cons hr hy; omega
theorem asc_zero {l : List Int} {n : Nat} (h : ascE l n = 0) : (∀ x ∈ l, 0 ≤ x ∧ x < n) ∧ Asc l := by
  have hz := fstN_zero h
  have hat : ∀ i, i < l.length → idxB (l.getD i 0) n = true ∧ ¬ (0 < i ∧ l.getD i 0 ≤ l.getD (i - 1) 0) := by
    intro i hi
    have := hz i (by omega) (by omega)
    unfold ascAt at this
    split at this
    · omega
    · split at this
      · omega
      · rename_i h1 h2; exact ⟨by simpa using h1, h2⟩
  constructor
  · intro x hx
    obtain ⟨i, hi, rfl⟩ := List.mem_iff_getElem.1 hx
    have := (hat i hi).1
    rw [List.getD_eq_getElem?_getD, List.getElem?_eq_getElem hi] at this
    exact idxB_iff.1 this
  · apply asc_of
    intro i hi
    have := (hat (i + 1) hi).2
    rw [Nat.add_sub_cancel] at this
    omega
theorem asc_mk {l : List Int} {n : Nat} (h1 : ∀ x ∈ l, 0 ≤ x ∧ x < n) (h2 : ∀ i, i + 1 < l.length → l.getD i 0 < l.getD (i + 1) 0) : ascE l n = 0 := by
  apply fstN_all
  intro i _ hi
  unfold ascAt
  rw [if_neg (by rw [idxB_iff.2 (h1 _ (getD_mem (by omega)))]; simp), if_neg]
  rintro ⟨h3, h4⟩
  have := h2 (i - 1) (by omega)
  rw [show i - 1 + 1 = i by omega] at this
  omega
def cntL (l : List Int) (i : Nat) : Nat := l.countP (fun x => decide (x < (i : Int)))
theorem cnt_zero {l : List Int} (h : ∀ x ∈ l, 0 ≤ x) : cntL l 0 = 0 := by
  unfold cntL
  rw [List.countP_eq_zero]
  intro x hx
  have := h x hx
  simp; omega
theorem cnt_none {l : List Int} {i : Nat} (h : ∀ x ∈ l, (i : Int) ≤ x) : cntL l i = 0 := by
  unfold cntL
  rw [List.countP_eq_zero]
  intro x hx
  have := h x hx
  simp; omega
theorem cnt_cons (x : Int) (r : List Int) (i : Nat) : cntL (x :: r) i = cntL r i + if x < (i : Int) then 1 else 0 := by
  unfold cntL
  rw [List.countP_cons]
  simp
theorem asc_at {l : List Int} (h : Asc l) (i : Nat) : l[cntL l i]? = some (i : Int) ↔ (i : Int) ∈ l := by
  induction l with
  | nil => simp
  | cons x r ih =>
    obtain ⟨h1, h2⟩ := List.pairwise_cons.1 h
    rw [cnt_cons]
    by_cases hx : x < (i : Int)
    · rw [if_pos hx, List.getElem?_cons_succ, ih h2, List.mem_cons]
      constructor
      · exact fun h => .inr h
      · rintro (h | h)
        · omega
        · exact h
    · rw [if_neg hx, Nat.add_zero, cnt_none fun y hy => by have := h1 y hy; omega, List.getElem?_cons_zero, List.mem_cons]
      constructor
      · intro h; injection h with h; exact .inl h.symm
      · rintro (h | h)
        · rw [h]
        · have := h1 _ h; omega
theorem cnt_succ {l : List Int} (h : Asc l) (i : Nat) : cntL l (i + 1) = cntL l i + if (i : Int) ∈ l then 1 else 0 := by
  induction l with
  | nil => simp [cntL]
  | cons x r ih =>
    obtain ⟨h1, h2⟩ := List.pairwise_cons.1 h
    rw [cnt_cons, cnt_cons, ih h2]
    by_cases hx : x = (i : Int)
    · subst hx
      have hn : ¬ (i : Int) ∈ r := fun hm => by have := h1 _ hm; omega
      rw [if_neg hn, if_pos (by omega), if_neg (by omega), if_pos (by simp)]
    · have em : ((i : Int) ∈ x :: r) ↔ (i : Int) ∈ r := by
        rw [List.mem_cons]
        exact ⟨fun h => h.elim (fun h => absurd h.symm hx) id, .inr⟩
      have ex : x < ((i + 1 : Nat) : Int) ↔ x < (i : Int) := by omega
      simp only [em, ex]
      exact Nat.add_right_comm _ _ _
theorem cnt_le {l : List Int} (h : Asc l) (h0 : ∀ x ∈ l, 0 ≤ x) (i : Nat) : cntL l i ≤ i := by
  induction i with
  | zero => rw [cnt_zero h0]; exact Nat.le_refl _
  | succ i ih => rw [cnt_succ h]; split <;> omega
/-- where an element is without those of l: -1 if it is one of them -/
def plc (l : List Int) (i : Nat) : Int := if (i : Int) ∈ l then -1 else (i : Int) - cntL l i
theorem plc_in {l : List Int} {i : Nat} (h : (i : Int) ∈ l) : plc l i = -1 := if_pos h
theorem plc_out {l : List Int} {i : Nat} (h : ¬ (i : Int) ∈ l) : plc l i = (i : Int) - cntL l i := if_neg h
theorem plc_nonneg {l : List Int} (h : Asc l) (h0 : ∀ x ∈ l, 0 ≤ x) {i : Nat} : 0 ≤ plc l i ↔ ¬ (i : Int) ∈ l := by
  constructor
  · intro h1 h2; rw [plc_in h2] at h1; omega
  · intro h1; rw [plc_out h1]; have := cnt_le h h0 i; omega
def dangB (g : Gr) (vs xs : List Int) (i : Nat) : Bool := !decide ((i : Int) ∈ xs) && (decide ((g.es.getD i default).fr ∈ vs) || decide ((g.es.getD i default).tq ∈ vs))
def dangAt (g : Gr) (vs xs : List Int) (i : Nat) : Nat := if dangB g vs xs i then 14 else 0
def remE (g : Gr) (vs xs : List Int) : Nat := if validE g ≠ 0 then validE g else if ascE vs g.ns.length ≠ 0 then ascE vs g.ns.length else if ascE xs g.es.length ≠ 0 then ascE xs g.es.length else fstN (dangAt g vs xs) 0 g.es.length
def remNs (g : Gr) (vs : List Int) (k : Nat) : List Int := coll (fun i => if (i : Int) ∈ vs then [] else [g.ns.getD i 0]) k
def mvd (g : Gr) (vs : List Int) (i : Nat) : Ed := ⟨(g.es.getD i default).ty, plc vs (frN g i), plc vs (toN g i)⟩
def remEs (g : Gr) (vs xs : List Int) (k : Nat) : List Ed := coll (fun i => if (i : Int) ∈ xs then [] else [mvd g vs i]) k
def remG (g : Gr) (vs xs : List Int) : Gr := if remE g vs xs = 0 then ⟨remNs g vs g.ns.length, remEs g vs xs g.es.length⟩ else noG
def plcs (l : List Int) (n : Nat) : List Int := coll (fun i => [plc l i]) n
def remM (g : Gr) (vs xs : List Int) : Mo := if remE g vs xs = 0 then ⟨plcs vs g.ns.length, plcs xs g.es.length⟩ else noM
theorem rem_zero {g : Gr} {vs xs : List Int} (h : remE g vs xs = 0) : validE g = 0 ∧ ascE vs g.ns.length = 0 ∧ ascE xs g.es.length = 0 ∧ ∀ i, i < g.es.length → dangB g vs xs i = false := by
  unfold remE at h
  split at h
  · omega
  · split at h
    · omega
    · split at h
      · omega
      · rename_i h1 h2 h3
        refine ⟨by omega, by omega, by omega, fun i hi => ?_⟩
        have := fstN_zero h i (by omega) (by omega)
        unfold dangAt at this
        split at this
        · omega
        · rename_i h4; simpa using h4
/-! Union, Incident -/
def numS (a : Int) (n : Nat) : List Int := coll (fun i => [a + (i : Int)]) n
end Go.Proofs.YthnhacncnhknnaaDoor

/-
  Partitions as plain lists of numbers (stage 2's texts): what the document's words say, and quotients.
-/

namespace Go.Proofs.YthnhacncnhknnaaDoor.Pt


/-- the number at a place (0 beyond the end) -/
def at_ (p : List Nat) (i : Nat) : Nat := p.getD i 0

/-- p is a partition -/
def V (p : List Nat) : Prop := ∀ i, i < p.length → at_ p i ≤ i ∧ at_ p (at_ p i) = at_ p i

/-- p is finer than q -/
def F (p q : List Nat) : Prop := ∀ i, i < p.length → at_ q (at_ p i) = at_ q i

theorem at_get {p : List Nat} {i : Nat} (h : i < p.length) : p[i] = at_ p i := by simp [at_, List.getD, h]
theorem at_map {p : List Nat} {f : Nat → Nat} {i : Nat} (h : i < p.length) : at_ (p.map f) i = f (at_ p i) := by simp [at_, List.getD, h]
theorem at_range {n i : Nat} (h : i < n) : at_ (List.range n) i = i := by simp [at_, List.getD, h]
theorem ext_at {p q : List Nat} (hl : p.length = q.length) (h : ∀ i, i < p.length → at_ p i = at_ q i) : p = q := by
  apply List.ext_getElem hl
  intro i h1 h2
  rw [at_get h1, at_get h2]
  exact h i h1

theorem V.le {p : List Nat} (h : V p) {i : Nat} (hi : i < p.length) : at_ p i ≤ i := (h i hi).1
theorem V.lt {p : List Nat} (h : V p) {i : Nat} (hi : i < p.length) : at_ p i < p.length := Nat.lt_of_le_of_lt (h i hi).1 hi
theorem V.idem {p : List Nat} (h : V p) {i : Nat} (hi : i < p.length) : at_ p (at_ p i) = at_ p i := (h i hi).2

theorem V_range (n : Nat) : V (List.range n) := by
  intro i hi
  rw [List.length_range] at hi
  rw [at_range hi, at_range hi]
  exact ⟨Nat.le_refl _, rfl⟩

theorem F.refl {p : List Nat} (h : V p) : F p p := fun _ hi => h.idem hi
theorem F.trans {p q r : List Nat} (hp : V p) (hl : p.length = q.length) (h : F p q) (k : F q r) : F p r := by
  intro i hi
  have h1 := h i hi
  have h2 := k (at_ p i) (by rw [← hl]; exact hp.lt hi)
  have h3 := k i (by rw [← hl]; exact hi)
  rw [← h2, h1, h3]
theorem F.rel {p q : List Nat} (h : F p q) {i k : Nat} (hi : i < p.length) (hk : k < p.length) (e : at_ p i = at_ p k) : at_ q i = at_ q k := by
  rw [← h i hi, ← h k hk, e]
theorem F_range {n : Nat} {q : List Nat} : F (List.range n) q := by
  intro i hi
  rw [List.length_range] at hi
  rw [at_range hi]

/-- the classes of two elements joined -/
def mergeS (p : List Nat) (i k : Nat) : List Nat := p.map fun x => if x = max (at_ p i) (at_ p k) then min (at_ p i) (at_ p k) else x
theorem mergeS_length (p : List Nat) (i k : Nat) : (mergeS p i k).length = p.length := by simp [mergeS]
theorem at_merge {p : List Nat} {a b i : Nat} (hi : i < p.length) : at_ (mergeS p a b) i = if at_ p i = max (at_ p a) (at_ p b) then min (at_ p a) (at_ p b) else at_ p i := at_map hi

theorem V_merge {p : List Nat} (h : V p) {a b : Nat} (ha : a < p.length) (hb : b < p.length) : V (mergeS p a b) := by
  intro i hi
  rw [mergeS_length] at hi
  have hpa := h.idem ha
  have hpb := h.idem hb
  have hla := h.lt ha
  have hlb := h.lt hb
  have hle := h.le hi
  have hid := h.idem hi
  have hlt := h.lt hi
  by_cases he : at_ p i = max (at_ p a) (at_ p b)
  · have e1 : at_ (mergeS p a b) i = min (at_ p a) (at_ p b) := by rw [at_merge hi, if_pos he]
    rw [e1]
    refine ⟨by omega, ?_⟩
    have hm : at_ p (min (at_ p a) (at_ p b)) = min (at_ p a) (at_ p b) := by
      rcases Nat.le_total (at_ p a) (at_ p b) with h1 | h1
      · rw [Nat.min_eq_left h1, hpa]
      · rw [Nat.min_eq_right h1, hpb]
    rw [at_merge (by omega), hm]
    split <;> rfl
  · have e1 : at_ (mergeS p a b) i = at_ p i := by rw [at_merge hi, if_neg he]
    rw [e1]
    refine ⟨hle, ?_⟩
    rw [at_merge hlt, hid, if_neg he]

theorem F_merge {p : List Nat} (h : V p) (a b : Nat) : F p (mergeS p a b) := by
  intro i hi
  rw [at_merge (h.lt hi), at_merge hi, h.idem hi]

theorem merge_same {p : List Nat} {a b : Nat} (ha : a < p.length) (hb : b < p.length) : at_ (mergeS p a b) a = at_ (mergeS p a b) b := by
  rw [at_merge ha, at_merge hb]
  rcases Nat.lt_trichotomy (at_ p a) (at_ p b) with h | h | h
  · rw [if_neg (by omega), if_pos (by omega)]; omega
  · rw [h]
  · rw [if_pos (by omega), if_neg (by omega)]; omega

theorem merge_least {p q : List Nat} {a b : Nat} (ha : a < p.length) (hb : b < p.length) (hf : F p q) (hs : at_ q a = at_ q b) : F (mergeS p a b) q := by
  intro i hi
  rw [mergeS_length] at hi
  have h1 := hf i hi
  have h2 := hf a ha
  have h3 := hf b hb
  rw [at_merge hi]
  by_cases he : at_ p i = max (at_ p a) (at_ p b)
  · rw [if_pos he]
    rcases Nat.le_total (at_ p a) (at_ p b) with h4 | h4
    · rw [Nat.min_eq_left h4, h2, hs, ← h3, ← h1, he, Nat.max_eq_right h4]
    · rw [Nat.min_eq_right h4, h3, ← hs, ← h2, ← h1, he, Nat.max_eq_left h4]
  · rw [if_neg he, h1]

/-- the pairs of a list, joined one after another -/
def merges (p : List Nat) (l : List (Nat × Nat)) : List Nat := l.foldl (fun p x => mergeS p x.1 x.2) p
def inR (n : Nat) (l : List (Nat × Nat)) : Prop := ∀ x ∈ l, x.1 < n ∧ x.2 < n
def Resp (q : List Nat) (l : List (Nat × Nat)) : Prop := ∀ x ∈ l, at_ q x.1 = at_ q x.2

theorem merges_length (l : List (Nat × Nat)) : ∀ p, (merges p l).length = p.length := by
  induction l with
  | nil => intro p; rfl
  | cons x r ih => intro p; show (merges (mergeS p x.1 x.2) r).length = _; rw [ih, mergeS_length]
theorem merges_all (l : List (Nat × Nat)) : ∀ p, V p → inR p.length l →
    V (merges p l) ∧ F p (merges p l) ∧ Resp (merges p l) l ∧ ∀ q, F p q → Resp q l → F (merges p l) q := by
  induction l with
  | nil => intro p h _; exact ⟨h, F.refl h, fun x hx => by simp at hx, fun q hq _ => hq⟩
  | cons x r ih =>
    intro p h hi
    obtain ⟨h1, h2⟩ := hi x (by simp)
    have hv := V_merge h h1 h2
    have hi' : inR (mergeS p x.1 x.2).length r := by rw [mergeS_length]; exact fun y hy => hi y (by simp [hy])
    obtain ⟨k1, k2, k3, k4⟩ := ih _ hv hi'
    have e : merges p (x :: r) = merges (mergeS p x.1 x.2) r := rfl
    rw [e]
    refine ⟨k1, F.trans h (mergeS_length ..).symm (F_merge h _ _) k2, ?_, ?_⟩
    · intro y hy
      rcases List.mem_cons.1 hy with rfl | hy
      · exact k2.rel (by rw [mergeS_length]; exact h1) (by rw [mergeS_length]; exact h2) (merge_same h1 h2)
      · exact k3 y hy
    · intro q hq hr
      exact k4 q (merge_least h1 h2 hq (hr x (by simp))) (fun y hy => hr y (by simp [hy]))

/-- what pairs generate -/
def genS (n : Nat) (l : List (Nat × Nat)) : List Nat := merges (List.range n) l
theorem genS_length (n : Nat) (l : List (Nat × Nat)) : (genS n l).length = n := by unfold genS; rw [merges_length, List.length_range]
theorem V_gen {n : Nat} {l : List (Nat × Nat)} (h : inR n l) : V (genS n l) := (merges_all l _ (V_range n) (by rw [List.length_range]; exact h)).1
theorem gen_resp {n : Nat} {l : List (Nat × Nat)} (h : inR n l) : Resp (genS n l) l := (merges_all l _ (V_range n) (by rw [List.length_range]; exact h)).2.2.1
theorem gen_least {n : Nat} {l : List (Nat × Nat)} (h : inR n l) {q : List Nat} (hq : Resp q l) : F (genS n l) q := (merges_all l _ (V_range n) (by rw [List.length_range]; exact h)).2.2.2 q F_range hq

/-- the least elements below k -/
def fixsTo (p : List Nat) (k : Nat) : List Nat := (List.range k).filter fun j => at_ p j == j
/-- how many classes begin below k -/
def rank (p : List Nat) (k : Nat) : Nat := (fixsTo p k).length
theorem fixsTo_yes {p : List Nat} {k : Nat} (h : at_ p k = k) : fixsTo p (k + 1) = fixsTo p k ++ [k] := by
  unfold fixsTo
  rw [List.range_succ, List.filter_append]
  simp [h]
theorem fixsTo_no {p : List Nat} {k : Nat} (h : at_ p k ≠ k) : fixsTo p (k + 1) = fixsTo p k := by
  unfold fixsTo
  rw [List.range_succ, List.filter_append]
  simp [h]
theorem rank_le (p : List Nat) (k : Nat) : rank p k ≤ k := by
  unfold rank fixsTo
  exact Nat.le_trans (List.length_filter_le _ _) (by simp)
end Go.Proofs.YthnhacncnhknnaaDoor.Pt

/-
  Components as plain data: the classes of the ends, and the rounds of the reference, which come tq the same.
-/
namespace Go.Proofs.YthnhacncnhknnaaDoor
open Pt (at_)

def endsL (g : Gr) : List (Nat × Nat) := g.es.map fun x => (x.fr.toNat, x.tq.toNat)
theorem endsL_len (g : Gr) : (endsL g).length = g.es.length := by simp [endsL]
theorem endsL_get {g : Gr} {i : Nat} (h : i < g.es.length) : (endsL g)[i]? = some (frN g i, toN g i) := by
  unfold endsL frN toN
  rw [List.getElem?_map, List.getD_eq_getElem?_getD, List.getElem?_eq_getElem h]; rfl
theorem ends_lt {g : Gr} (h : validE g = 0) {i : Nat} (hi : i < g.es.length) : frN g i < g.ns.length ∧ toN g i < g.ns.length := by
  obtain ⟨⟨h1, h2⟩, h3, h4⟩ := valid_at h hi
  unfold frN toN
  omega
theorem ends_inR {g : Gr} (h : validE g = 0) : Pt.inR g.ns.length (endsL g) := by
  intro x hx
  obtain ⟨i, hi, rfl⟩ := List.mem_iff_getElem.1 hx
  rw [endsL_len] at hi
  have := endsL_get hi
  rw [List.getElem?_eq_getElem (by rw [endsL_len]; exact hi)] at this
  injection this with this
  rw [this]
  exact ends_lt h hi
/-- the least node of each node's component -/
def lstS (g : Gr) : List Nat := Pt.genS g.ns.length (endsL g)
theorem lstS_len (g : Gr) : (lstS g).length = g.ns.length := Pt.genS_length _ _
theorem lstS_V {g : Gr} (h : validE g = 0) : Pt.V (lstS g) := Pt.V_gen (ends_inR h)
theorem lst_edge {g : Gr} (h : validE g = 0) {i : Nat} (hi : i < g.es.length) : at_ (lstS g) (frN g i) = at_ (lstS g) (toN g i) :=
  Pt.gen_resp (ends_inR h) (frN g i, toN g i) (List.mem_of_getElem? (endsL_get hi))

def ndsOf (L : List Nat) (n r : Nat) : List Int := coll (fun i => if at_ L i = r then [(i : Int)] else []) n
def edsOf (g : Gr) (L : List Nat) (m r : Nat) : List Int := coll (fun j => if at_ L (frN g j) = r then [(j : Int)] else []) m
def compTo (g : Gr) (L : List Nat) (k : Nat) : List Mo := (Pt.fixsTo L k).map fun r => ⟨ndsOf L g.ns.length r, edsOf g L g.es.length r⟩
def compR (g : Gr) : List Mo := if validE g = 0 then compTo g (lstS g) g.ns.length else []
theorem compTo_len (g : Gr) (L : List Nat) (k : Nat) : (compTo g L k).length = Pt.rank L k := by simp [compTo, Pt.rank]

/-! the rounds of the reference -/
def relax (ls : List Nat) (a b : Nat) : List Nat := (ls.set a (min (at_ ls a) (at_ ls b))).set b (min (at_ ls a) (at_ ls b))
theorem relax_len (ls : List Nat) (a b : Nat) : (relax ls a b).length = ls.length := by simp [relax]
theorem at_set {l : List Nat} {a x i : Nat} (ha : a < l.length) : at_ (l.set a x) i = if i = a then x else at_ l i := by
  unfold at_
  rw [List.getD_eq_getElem?_getD, List.getD_eq_getElem?_getD, List.getElem?_set]
  by_cases h : a = i
  · subst h; rw [if_pos rfl, if_pos rfl, if_pos ha]; rfl
  · rw [if_neg h, if_neg (fun e => h e.symm)]
theorem at_relax {ls : List Nat} {a b i : Nat} (ha : a < ls.length) (hb : b < ls.length) : at_ (relax ls a b) i = if i = a ∨ i = b then min (at_ ls a) (at_ ls b) else at_ ls i := by
  unfold relax
  rw [at_set (by simpa using hb), at_set ha]
  by_cases h1 : i = b
  · rw [if_pos h1, if_pos (.inr h1)]
  · rw [if_neg h1]
    by_cases h2 : i = a
    · rw [if_pos h2, if_pos (.inl h2)]
    · rw [if_neg h2, if_neg (by omega)]
def relTo (g : Gr) (ls : List Nat) : Nat → List Nat
  | 0 => ls
  | j + 1 => relax (relTo g ls j) (frN g j) (toN g j)
theorem relTo_len (g : Gr) (ls : List Nat) (j : Nat) : (relTo g ls j).length = ls.length := by
  induction j with
  | zero => rfl
  | succ j ih => simp only [relTo, relax_len, ih]
def rnd (g : Gr) : Nat → List Nat
  | 0 => List.range g.ns.length
  | r + 1 => relTo g (rnd g r) g.es.length
theorem rnd_len (g : Gr) (r : Nat) : (rnd g r).length = g.ns.length := by
  induction r with
  | zero => simp [rnd]
  | succ r ih => simp only [rnd, relTo_len, ih]

/-- above the least node, in its class -/
def Inv (g : Gr) (ls : List Nat) : Prop := ls.length = g.ns.length ∧ ∀ i, i < g.ns.length → at_ (lstS g) i ≤ at_ ls i ∧ at_ ls i ≤ i ∧ at_ (lstS g) (at_ ls i) = at_ (lstS g) i
theorem inv_range {g : Gr} (h : validE g = 0) : Inv g (List.range g.ns.length) := by
  refine ⟨by simp, fun i hi => ?_⟩
  rw [Pt.at_range hi]
  exact ⟨(lstS_V h).le (by rw [lstS_len]; exact hi), Nat.le_refl _, rfl⟩
theorem inv_relax {g : Gr} {ls : List Nat} (hI : Inv g ls) {a b : Nat} (ha : a < g.ns.length) (hb : b < g.ns.length) (he : at_ (lstS g) a = at_ (lstS g) b) : Inv g (relax ls a b) := by
  obtain ⟨h1, h2⟩ := hI
  refine ⟨by rw [relax_len]; exact h1, fun i hi => ?_⟩
  rw [at_relax (by omega) (by omega)]
  obtain ⟨a1, a2, a3⟩ := h2 a ha
  obtain ⟨b1, b2, b3⟩ := h2 b hb
  by_cases h : i = a ∨ i = b
  · rw [if_pos h]
    rcases Nat.le_total (at_ ls a) (at_ ls b) with hm | hm
    · rw [Nat.min_eq_left hm]
      rcases h with rfl | rfl
      · exact ⟨a1, a2, a3⟩
      · exact ⟨by omega, by omega, by rw [a3, he]⟩
    · rw [Nat.min_eq_right hm]
      rcases h with rfl | rfl
      · exact ⟨by omega, by omega, by rw [b3, he]⟩
      · exact ⟨b1, b2, b3⟩
  · rw [if_neg h]; exact h2 i hi
theorem inv_to {g : Gr} (hv : validE g = 0) {ls : List Nat} (hI : Inv g ls) {j : Nat} (hj : j ≤ g.es.length) : Inv g (relTo g ls j) := by
  induction j with
  | zero => exact hI
  | succ j ih =>
    obtain ⟨h1, h2⟩ := ends_lt hv (i := j) (by omega)
    exact inv_relax (ih (by omega)) h1 h2 (lst_edge hv (by omega))
theorem inv_rnd {g : Gr} (hv : validE g = 0) (r : Nat) : Inv g (rnd g r) := by
  induction r with
  | zero => exact inv_range hv
  | succ r ih => exact inv_to hv ih (Nat.le_refl _)
/-- a node that has come tq its least node -/
def Come (g : Gr) (ls : List Nat) (i : Nat) : Prop := at_ ls i = at_ (lstS g) i
theorem come_relax {g : Gr} {ls : List Nat} (hI : Inv g ls) {a b i : Nat} (ha : a < g.ns.length) (hb : b < g.ns.length) (hi : i < g.ns.length) (he : at_ (lstS g) a = at_ (lstS g) b) (h : Come g ls i) : Come g (relax ls a b) i := by
  have h3 := (inv_relax hI ha hb he).2 i hi
  have h4 := (hI.2 i hi)
  unfold Come at h ⊢
  have : at_ (relax ls a b) i ≤ at_ ls i := by
    rw [at_relax (by rw [hI.1]; exact ha) (by rw [hI.1]; exact hb)]
    split
    · rename_i h5
      rcases h5 with rfl | rfl <;> omega
    · exact Nat.le_refl _
  omega
theorem come_both {g : Gr} {ls : List Nat} (hI : Inv g ls) {a b : Nat} (ha : a < g.ns.length) (hb : b < g.ns.length) (he : at_ (lstS g) a = at_ (lstS g) b) (h : Come g ls a ∨ Come g ls b) : Come g (relax ls a b) a ∧ Come g (relax ls a b) b := by
  obtain ⟨a1, _, _⟩ := hI.2 a ha
  obtain ⟨b1, _, _⟩ := hI.2 b hb
  unfold Come at h ⊢
  rw [at_relax (by rw [hI.1]; exact ha) (by rw [hI.1]; exact hb), at_relax (by rw [hI.1]; exact ha) (by rw [hI.1]; exact hb), if_pos (.inl rfl), if_pos (.inr rfl)]
  rcases h with h | h <;> omega
theorem come_to {g : Gr} (hv : validE g = 0) {ls : List Nat} (hI : Inv g ls) {i : Nat} (hi : i < g.ns.length) (h : Come g ls i) {j : Nat} (hj : j ≤ g.es.length) : Come g (relTo g ls j) i := by
  induction j with
  | zero => exact h
  | succ j ih =>
    obtain ⟨h1, h2⟩ := ends_lt hv (i := j) (by omega)
    exact come_relax (inv_to hv hI (by omega)) h1 h2 hi (lst_edge hv (by omega)) (ih (by omega))
theorem come_edge {g : Gr} (hv : validE g = 0) {ls : List Nat} (hI : Inv g ls) {k : Nat} (hk : k < g.es.length) (h : Come g ls (frN g k) ∨ Come g ls (toN g k)) {j : Nat} (hj : j ≤ g.es.length) (hkj : k < j) : Come g (relTo g ls j) (frN g k) ∧ Come g (relTo g ls j) (toN g k) := by
  induction j with
  | zero => omega
  | succ j ih =>
    obtain ⟨h1, h2⟩ := ends_lt hv (i := j) (by omega)
    obtain ⟨k1, k2⟩ := ends_lt hv hk
    have hI' := inv_to hv hI (j := j) (by omega)
    by_cases e : k = j
    · subst e
      exact come_both hI' h1 h2 (lst_edge hv hk) (h.imp (fun h => come_to hv hI k1 h (by omega)) (fun h => come_to hv hI k2 h (by omega)))
    · obtain ⟨h3, h4⟩ := ih (by omega) (by omega)
      exact ⟨come_relax hI' h1 h2 k1 (lst_edge hv (by omega)) h3, come_relax hI' h1 h2 k2 (lst_edge hv (by omega)) h4⟩
/-- how many have come -/
def cntC (p : Nat → Bool) : Nat → Nat
  | 0 => 0
  | n + 1 => cntC p n + if p n then 1 else 0
theorem cntC_le (p : Nat → Bool) (n : Nat) : cntC p n ≤ n := by
  induction n with
  | zero => exact Nat.le_refl _
  | succ n ih => simp only [cntC]; split <;> omega
theorem cntC_all {p : Nat → Bool} {n : Nat} (h : n ≤ cntC p n) : ∀ i, i < n → p i = true := by
  induction n with
  | zero => intro i hi; omega
  | succ n ih =>
    simp only [cntC] at h
    have := cntC_le p n
    intro i hi
    split at h
    · rename_i hp
      by_cases e : i = n
      · subst e; exact hp
      · exact ih (by omega) i (by omega)
    · omega
theorem cntC_mono {p q : Nat → Bool} {n : Nat} (h : ∀ i, i < n → p i = true → q i = true) : cntC p n ≤ cntC q n := by
  induction n with
  | zero => exact Nat.le_refl _
  | succ n ih =>
    simp only [cntC]
    have h1 := ih fun i hi => h i (by omega)
    have h2 := h n (by omega)
    by_cases hp : p n = true
    · rw [if_pos hp, if_pos (h2 hp)]; omega
    · rw [if_neg hp]; omega
theorem cntC_less {p q : Nat → Bool} {n i : Nat} (hi : i < n) (h : ∀ i, i < n → p i = true → q i = true) (hp : p i = false) (hq : q i = true) : cntC p n < cntC q n := by
  induction n with
  | zero => omega
  | succ n ih =>
    simp only [cntC]
    by_cases e : i = n
    · subst e
      have := cntC_mono (n := i) fun j hj => h j (by omega)
      rw [if_pos hq, if_neg (by rw [hp]; simp)]; omega
    · have h1 := ih (by omega) fun j hj => h j (by omega)
      have h2 := h n (by omega)
      by_cases hp2 : p n = true
      · rw [if_pos hp2, if_pos (h2 hp2)]; omega
      · rw [if_neg hp2]; omega
theorem come_cross {g : Gr} (hv : validE g = 0) {ls : List Nat} (hI : Inv g ls) {i : Nat} (hi : i < g.ns.length) (hn : ¬ Come g ls i) : ∃ k, k < g.es.length ∧ (Come g ls (frN g k) ∧ ¬ Come g ls (toN g k) ∨ Come g ls (toN g k) ∧ ¬ Come g ls (frN g k)) := by
  apply Classical.byContradiction
  intro hc
  have hall : ∀ k, k < g.es.length → (Come g ls (frN g k) ↔ Come g ls (toN g k)) := fun k hk => by
    constructor
    · exact fun h => Classical.byContradiction fun h2 => hc ⟨k, hk, .inl ⟨h, h2⟩⟩
    · exact fun h => Classical.byContradiction fun h2 => hc ⟨k, hk, .inr ⟨h, h2⟩⟩
  let q : List Nat := (List.range g.ns.length).map fun i => if at_ ls i = at_ (lstS g) i then 1 else 0
  have hq : ∀ j, j < g.ns.length → at_ q j = if at_ ls j = at_ (lstS g) j then 1 else 0 := fun j hj => by
    show at_ ((List.range g.ns.length).map _) j = _
    rw [Pt.at_map (by simpa using hj), Pt.at_range hj]
  have hr : Pt.Resp q (endsL g) := by
    intro x hx
    obtain ⟨k, hk, rfl⟩ := List.mem_iff_getElem.1 hx
    rw [endsL_len] at hk
    have e := endsL_get hk
    rw [List.getElem?_eq_getElem (by rw [endsL_len]; exact hk)] at e
    injection e with e
    rw [e]
    obtain ⟨h1, h2⟩ := ends_lt hv hk
    show at_ q (frN g k) = at_ q (toN g k)
    rw [hq _ h1, hq _ h2]
    have := hall k hk
    unfold Come at this
    by_cases h3 : at_ ls (frN g k) = at_ (lstS g) (frN g k)
    · rw [if_pos h3, if_pos (this.1 h3)]
    · rw [if_neg h3, if_neg (fun h4 => h3 (this.2 h4))]
  have hF := Pt.gen_least (ends_inR hv) hr i (by rw [Pt.genS_length]; exact hi)
  have hroot : at_ (lstS g) i < g.ns.length := by have := (lstS_V hv).lt (i := i) (by rw [lstS_len]; exact hi); rwa [lstS_len] at this
  change at_ q (at_ (lstS g) i) = at_ q i at hF
  rw [hq _ hroot, hq _ hi] at hF
  have hid := (lstS_V hv).idem (i := i) (by rw [lstS_len]; exact hi)
  obtain ⟨r1, r2, _⟩ := hI.2 _ hroot
  rw [hid] at r1
  rw [if_pos (by rw [hid]; omega), if_neg (show ¬ at_ ls i = at_ (lstS g) i from hn)] at hF
  omega
theorem rnd_cnt {g : Gr} (hv : validE g = 0) (r : Nat) : min r g.ns.length ≤ cntC (fun i => decide (at_ (rnd g r) i = at_ (lstS g) i)) g.ns.length := by
  induction r with
  | zero => simp
  | succ r ih =>
    have hmono : ∀ i, i < g.ns.length → decide (at_ (rnd g r) i = at_ (lstS g) i) = true → decide (at_ (rnd g (r + 1)) i = at_ (lstS g) i) = true := fun i hi h => by
      rw [decide_eq_true_eq] at h ⊢
      exact come_to hv (inv_rnd hv r) hi h (Nat.le_refl _)
    by_cases hall : g.ns.length ≤ cntC (fun i => decide (at_ (rnd g r) i = at_ (lstS g) i)) g.ns.length
    · have := cntC_mono hmono
      omega
    · obtain ⟨i, hi, hn⟩ : ∃ i, i < g.ns.length ∧ ¬ Come g (rnd g r) i := Classical.byContradiction fun hc => hall (by
        have : ∀ i, i < g.ns.length → (fun _ : Nat => true) i = true → decide (at_ (rnd g r) i = at_ (lstS g) i) = true := fun i hi _ => by
          rw [decide_eq_true_eq]
          exact Classical.byContradiction fun h => hc ⟨i, hi, h⟩
        have h2 := cntC_mono this
        have h3 : ∀ n, cntC (fun _ : Nat => true) n = n := fun n => by
          induction n with
          | zero => rfl
          | succ n ih => simp only [cntC, ih]; rfl
        rw [h3] at h2
        exact h2)
      obtain ⟨k, hk, h⟩ := come_cross hv (inv_rnd hv r) hi hn
      obtain ⟨k1, k2⟩ := ends_lt hv hk
      have hb := come_edge hv (inv_rnd hv r) hk (h.imp (fun h => h.1) (fun h => h.1)) (Nat.le_refl _) hk
      have hlt : cntC (fun i => decide (at_ (rnd g r) i = at_ (lstS g) i)) g.ns.length < cntC (fun i => decide (at_ (rnd g (r + 1)) i = at_ (lstS g) i)) g.ns.length := by
        rcases h with h | h
        · exact cntC_less k2 hmono (decide_eq_false h.2) (decide_eq_true hb.2)
        · exact cntC_less k1 hmono (decide_eq_false h.2) (decide_eq_true hb.1)
      omega
theorem rnd_all {g : Gr} (hv : validE g = 0) : rnd g g.ns.length = lstS g := by
  apply Pt.ext_at (by rw [rnd_len, lstS_len])
  intro i hi
  rw [rnd_len] at hi
  have := rnd_cnt hv g.ns.length
  rw [Nat.min_self] at this
  simpa using cntC_all this i hi

end Go.Proofs.YthnhacncnhknnaaDoor

/-
  Reordering as plain data: permutations, what lands where, and back.
-/
namespace Go.Proofs.YthnhacncnhknnaaDoor

theorem getD_eq {l : List Int} {i : Nat} (h : i < l.length) : l.getD i 0 = l[i] := by rw [List.getD_eq_getElem?_getD, List.getElem?_eq_getElem h]; rfl
/-! what lands where -/
section
variable {β : Type}
end

/-! a step of the shuffle -/
end Go.Proofs.YthnhacncnhknnaaDoor

/-
  Morphisms of graphs as plain data: their error, composition, what is injective and surjective, inverses. (Work ahead for stage 6; imports only plain texts of stage 5.)
-/
namespace Go.Proofs.YthnhacncnhknnaaDoor

def mnAt (a b : Gr) (m : Mo) (i : Nat) : Nat := if idxB (m.ns.getD i 0) b.ns.length = false then 6 else if b.ns.getD (m.ns.getD i 0).toNat 0 ≠ a.ns.getD i 0 then 13 else 0
def meAt (a b : Gr) (m : Mo) (i : Nat) : Nat :=
  if idxB (m.es.getD i 0) b.es.length = false then 6
  else if (a.es.getD i default).ty ≠ (b.es.getD (m.es.getD i 0).toNat default).ty then 13
  else if m.ns.getD (a.es.getD i default).fr.toNat 0 ≠ (b.es.getD (m.es.getD i 0).toNat default).fr ∨ m.ns.getD (a.es.getD i default).tq.toNat 0 ≠ (b.es.getD (m.es.getD i 0).toNat default).tq then 11 else 0
def morE (a b : Gr) (m : Mo) : Nat :=
  if validE a ≠ 0 then validE a else if validE b ≠ 0 then validE b
  else if m.ns.length ≠ a.ns.length ∨ m.es.length ≠ a.es.length then 20
  else if fstN (mnAt a b m) 0 a.ns.length ≠ 0 then fstN (mnAt a b m) 0 a.ns.length
  else fstN (meAt a b m) 0 a.es.length
structure MorOk (a b : Gr) (m : Mo) : Prop where
  va : validE a = 0
  vb : validE b = 0
  ln : m.ns.length = a.ns.length
  le : m.es.length = a.es.length
  nd : ∀ i, i < a.ns.length → (0 ≤ m.ns.getD i 0 ∧ m.ns.getD i 0 < b.ns.length) ∧ b.ns.getD (m.ns.getD i 0).toNat 0 = a.ns.getD i 0
  ed : ∀ i, i < a.es.length → (0 ≤ m.es.getD i 0 ∧ m.es.getD i 0 < b.es.length) ∧ (a.es.getD i default).ty = (b.es.getD (m.es.getD i 0).toNat default).ty ∧
    m.ns.getD (a.es.getD i default).fr.toNat 0 = (b.es.getD (m.es.getD i 0).toNat default).fr ∧ m.ns.getD (a.es.getD i default).tq.toNat 0 = (b.es.getD (m.es.getD i 0).toNat default).tq
theorem mnAt_zero {a b : Gr} {m : Mo} {i : Nat} : mnAt a b m i = 0 ↔ (0 ≤ m.ns.getD i 0 ∧ m.ns.getD i 0 < b.ns.length) ∧ b.ns.getD (m.ns.getD i 0).toNat 0 = a.ns.getD i 0 := by
  unfold mnAt
  cases h : idxB (m.ns.getD i 0) b.ns.length with
  | false =>
    rw [if_pos rfl]
    have := idxB_not.1 h
    constructor
    · intro h; omega
    · rintro ⟨h, _⟩; omega
  | true =>
    rw [if_neg (by simp)]
    have := idxB_iff.1 h
    by_cases e : b.ns.getD (m.ns.getD i 0).toNat 0 = a.ns.getD i 0
    · rw [if_neg (fun h => h e)]; exact ⟨fun _ => ⟨this, e⟩, fun _ => rfl⟩
    · rw [if_pos e]; exact ⟨fun h => by omega, fun h => absurd h.2 e⟩
theorem meAt_zero {a b : Gr} {m : Mo} {i : Nat} : meAt a b m i = 0 ↔ (0 ≤ m.es.getD i 0 ∧ m.es.getD i 0 < b.es.length) ∧ (a.es.getD i default).ty = (b.es.getD (m.es.getD i 0).toNat default).ty ∧
    m.ns.getD (a.es.getD i default).fr.toNat 0 = (b.es.getD (m.es.getD i 0).toNat default).fr ∧ m.ns.getD (a.es.getD i default).tq.toNat 0 = (b.es.getD (m.es.getD i 0).toNat default).tq := by
  unfold meAt
  cases h : idxB (m.es.getD i 0) b.es.length with
  | false =>
    rw [if_pos rfl]
    have := idxB_not.1 h
    constructor
    · intro h; omega
    · rintro ⟨h, _⟩; omega
  | true =>
    rw [if_neg (by simp)]
    have := idxB_iff.1 h
    by_cases e : (a.es.getD i default).ty = (b.es.getD (m.es.getD i 0).toNat default).ty
    · rw [if_neg (fun h => h e)]
      by_cases e2 : m.ns.getD (a.es.getD i default).fr.toNat 0 ≠ (b.es.getD (m.es.getD i 0).toNat default).fr ∨ m.ns.getD (a.es.getD i default).tq.toNat 0 ≠ (b.es.getD (m.es.getD i 0).toNat default).tq
      · rw [if_pos e2]
        exact ⟨fun h => by omega, fun h => by rcases e2 with e2 | e2 <;> exact absurd (by first | exact h.2.2.1 | exact h.2.2.2) e2⟩
      · rw [if_neg e2]
        exact ⟨fun _ => ⟨this, e, Classical.byContradiction fun h => e2 (.inl h), Classical.byContradiction fun h => e2 (.inr h)⟩, fun _ => rfl⟩
    · rw [if_pos e]; exact ⟨fun h => by omega, fun h => absurd h.2.1 e⟩
theorem mor_zero {a b : Gr} {m : Mo} : morE a b m = 0 ↔ MorOk a b m := by
  unfold morE
  constructor
  · intro h
    split at h
    · omega
    · split at h
      · omega
      · split at h
        · omega
        · split at h
          · omega
          · rename_i h1 h2 h3 h4
            refine ⟨by omega, by omega, by omega, by omega, fun i hi => ?_, fun i hi => ?_⟩
            · exact mnAt_zero.1 (fstN_zero (Decidable.not_not.1 h4) i (Nat.zero_le _) (by omega))
            · exact meAt_zero.1 (fstN_zero h i (Nat.zero_le _) (by omega))
  · intro h
    have e1 : fstN (mnAt a b m) 0 a.ns.length = 0 := fstN_all fun i _ hi => mnAt_zero.2 (h.nd i (by omega))
    have e2 : fstN (meAt a b m) 0 a.es.length = 0 := fstN_all fun i _ hi => meAt_zero.2 (h.ed i (by omega))
    rw [h.va, h.vb, e1, e2]
    simp [h.ln, h.le]

/-! composition -/
def thr (l by_ : List Int) : List Int := l.map fun x => by_.getD x.toNat 0
theorem thr_len (l k : List Int) : (thr l k).length = l.length := by simp [thr]
theorem thr_get {l k : List Int} {i : Nat} (h : i < l.length) : (thr l k).getD i 0 = k.getD (l.getD i 0).toNat 0 := by
  unfold thr
  rw [List.getD_eq_getElem?_getD, List.getElem?_map, List.getElem?_eq_getElem h, getD_eq h]; rfl
def compM (m n : Mo) : Mo := ⟨thr m.ns n.ns, thr m.es n.es⟩
theorem comp_ok {a b c : Gr} {m n : Mo} (h : MorOk a b m) (k : MorOk b c n) : MorOk a c (compM m n) := by
  refine ⟨h.va, k.vb, by rw [show (compM m n).ns.length = m.ns.length from thr_len _ _]; exact h.ln, by rw [show (compM m n).es.length = m.es.length from thr_len _ _]; exact h.le, fun i hi => ?_, fun i hi => ?_⟩
  · obtain ⟨⟨h1, h2⟩, h3⟩ := h.nd i hi
    obtain ⟨k1, k3⟩ := k.nd (m.ns.getD i 0).toNat (by omega)
    have e : (compM m n).ns.getD i 0 = n.ns.getD (m.ns.getD i 0).toNat 0 := thr_get (by rw [h.ln]; exact hi)
    rw [e]
    exact ⟨k1, k3.trans h3⟩
  · obtain ⟨⟨h1, h2⟩, h3, h4, h5⟩ := h.ed i hi
    obtain ⟨k1, k3, k4, k5⟩ := k.ed (m.es.getD i 0).toNat (by omega)
    obtain ⟨⟨f1, f2⟩, f3, f4⟩ := valid_at h.va hi
    have e : (compM m n).es.getD i 0 = n.es.getD (m.es.getD i 0).toNat 0 := thr_get (by rw [h.le]; exact hi)
    have e1 : (compM m n).ns.getD (a.es.getD i default).fr.toNat 0 = n.ns.getD (m.ns.getD (a.es.getD i default).fr.toNat 0).toNat 0 := thr_get (by rw [h.ln]; omega)
    have e2 : (compM m n).ns.getD (a.es.getD i default).tq.toNat 0 = n.ns.getD (m.ns.getD (a.es.getD i default).tq.toNat 0).toNat 0 := thr_get (by rw [h.ln]; omega)
    rw [e, e1, e2, h4, h5]
    exact ⟨k1, h3.trans k3, k4, k5⟩
theorem MorOk.rn {a b : Gr} {m : Mo} (h : MorOk a b m) : ∀ x ∈ m.ns, 0 ≤ x ∧ x < b.ns.length := fun x hx => by
  obtain ⟨i, hi, rfl⟩ := List.mem_iff_getElem.1 hx
  have := (h.nd i (by rw [← h.ln]; exact hi)).1
  rwa [getD_eq hi] at this
theorem MorOk.re {a b : Gr} {m : Mo} (h : MorOk a b m) : ∀ x ∈ m.es, 0 ≤ x ∧ x < b.es.length := fun x hx => by
  obtain ⟨i, hi, rfl⟩ := List.mem_iff_getElem.1 hx
  have := (h.ed i (by rw [← h.le]; exact hi)).1
  rwa [getD_eq hi] at this
/-! injective, surjective -/
theorem nodup_iff {l : List Int} : l.Nodup ↔ ∀ i k, i < l.length → k < i → l.getD i 0 ≠ l.getD k 0 := by
  constructor
  · intro h i k hi hk e
    rw [getD_eq hi, getD_eq (by omega)] at e
    exact List.pairwise_iff_getElem.1 h k i (by omega) hi hk e.symm
  · intro h
    apply List.pairwise_iff_getElem.2
    intro i j hi hj hij e
    exact h j i hj hij (by rw [getD_eq hj, getD_eq hi]; exact e.symm)
/-! inverses -/
/-! what the laws about kinds ask of compositions -/
def InjM (m : Mo) : Prop := m.ns.Nodup ∧ m.es.Nodup
end Go.Proofs.YthnhacncnhknnaaDoor

/-
  Slices of any kind of plain element in memory: reading one, owning one, append, make. Over a seat's own program.
-/
namespace Go.Proofs.YthnhacncnhknnaaDoor
open Go.RowKit

theorem ret_bool {a b : Bool} (h : a = b) : Ending.returned (.bool a) = .returned (.bool b) := by rw [h]
theorem ret_int {k : IntKind} {a b : Int} (h : a = b) : Ending.returned (.int k a) = .returned (.int k b) := by rw [h]
theorem below_draws {B : Nat} {a w : World} (h : Below B a w) (n : Nat) : Below B a (w.drewN n) := ⟨h.os, h.tape, h.output, h.size, h.block⟩
theorem addr_plain (b off j : Nat) : (⟨b, off, none⟩ : Addr).add j = ⟨b, off + j, none⟩ := Addr.add_lit _ _ _
theorem cell_new (w : World) (u : Value) (t : TypeId) : (w.alloc (.cells #[u] t)).cell? ⟨w.heap.size, 0, none⟩ = some u := by simp
theorem slice_of {w : World} {base : Nat} {e : TypeId} {size : Nat} {v : Value} {n : Nat} {xs : List Value} (h : w.ownsRow base e size v n xs) : ∃ ao cap, v = .slice ao n cap := by
  rcases h.2 with ⟨hv, h0⟩ | ⟨g, cap, cur, hv, _⟩
  · exact ⟨none, 0, by rw [hv, h0]⟩
  · exact ⟨_, _, hv⟩
theorem grown_refl (a : World) (r : Option Nat) : a.grownBy a r := ⟨rfl, rfl, rfl, Nat.le_refl _, fun _ _ _ => rfl⟩
theorem heap_two (w : World) (o o2 : Obj) : ((w.alloc o).alloc o2).heap[w.heap.size]? = some o :=
  (Below.heap_alloc (w.alloc o) o2 w.heap.size (by simp)).trans (heap_alloc_new w o)
theorem heap_two' (w : World) (o o2 : Obj) : ((w.alloc o).alloc o2).heap[w.heap.size + 1]? = some o2 := by
  have := heap_alloc_new (w.alloc o) o2
  simpa using this

/-- how an element lies in cells -/
structure El (α : Type) where
  enc : α → List Value
  size : Nat
  len : ∀ x, (enc x).length = size
  one : ∀ x, ∀ u ∈ enc x, u.oneCell' = true

section
variable {α : Type} (E : El α)
def cellsE (xs : List α) : List Value := xs.flatMap E.enc
theorem cellsE_length (xs : List α) : (cellsE E xs).length = xs.length * E.size := by
  induction xs with
  | nil => simp [cellsE]
  | cons x r ih =>
    have : cellsE E (x :: r) = E.enc x ++ cellsE E r := rfl
    rw [this, List.length_append, ih, E.len, List.length_cons, Nat.succ_mul]
    omega
theorem cellsE_snoc (xs : List α) (x : α) : cellsE E (xs ++ [x]) = cellsE E xs ++ E.enc x := by simp [cellsE]
theorem cellsE_get {xs : List α} {i : Nat} {x : α} (h : xs[i]? = some x) {j : Nat} {u : Value} (hu : (E.enc x)[j]? = some u) : (cellsE E xs)[i * E.size + j]? = some u := by
  induction xs generalizing i with
  | nil => simp at h
  | cons y r ih =>
    have e : cellsE E (y :: r) = E.enc y ++ cellsE E r := rfl
    rw [e]
    cases i with
    | zero =>
      simp at h
      subst h
      have hj : j < (E.enc y).length := by
        rcases Nat.lt_or_ge j (E.enc y).length with h1 | h1
        · exact h1
        · rw [List.getElem?_eq_none h1] at hu; cases hu
      rw [Nat.zero_mul, Nat.zero_add, List.getElem?_append_left hj]
      exact hu
    | succ i =>
      rw [List.getElem?_append_right (by rw [E.len, Nat.succ_mul]; omega), E.len, show (i + 1) * E.size + j - E.size = i * E.size + j by rw [Nat.succ_mul]; omega]
      exact ih (by simpa using h)
theorem cellsE_one (xs : List α) : ∀ u ∈ cellsE E xs, u.oneCell' = true := by
  intro u hu
  simp only [cellsE, List.mem_flatMap] at hu
  obtain ⟨x, _, h⟩ := hu
  exact E.one x u h

/-- the slice at A reads as xs, in a block below B -/
def Reads (w : World) (B : Nat) (A : Option Addr) (xs : List α) : Prop :=
  xs = [] ∨ ∃ b off, A = some ⟨b, off, none⟩ ∧ b < B ∧ ∀ i x, xs[i]? = some x → ∀ j u, (E.enc x)[j]? = some u → w.cell? ⟨b, off + i * E.size + j, none⟩ = some u
/-- a slice that a call made -/
def OwnE (t : TypeId) (w : World) (base : Nat) (v : Value) (xs : List α) : Prop := w.ownsRow base t E.size v xs.length (cellsE E xs)
end

section
variable {α : Type} {E : El α}
theorem Reads.at {w : World} {B : Nat} {A : Option Addr} {xs : List α} (h : Reads E w B A xs) {k : Nat} (hk : k < xs.length) :
    ∃ b off, A = some ⟨b, off, none⟩ ∧ b < B ∧ ∀ i (hi : i < xs.length), ∀ j u, (E.enc xs[i])[j]? = some u → w.cell? ⟨b, off + i * E.size + j, none⟩ = some u := by
  rcases h with h | ⟨b, off, h1, h2, h3⟩
  · subst h; simp at hk
  · exact ⟨b, off, h1, h2, fun i hi j u hu => h3 i xs[i] (List.getElem?_eq_getElem hi) j u hu⟩
theorem Reads.below {w w' : World} {B : Nat} {A : Option Addr} {xs : List α} (h : Reads E w B A xs) (hb : Below B w w') : Reads E w' B A xs := by
  rcases h with h | ⟨b, off, h1, h2, h3⟩
  · exact .inl h
  · exact .inr ⟨b, off, h1, h2, fun i x hx j u hu => (hb.cell (p := ⟨b, off + i * E.size + j, none⟩) h2).trans (h3 i x hx j u hu)⟩
theorem Reads.mono {w : World} {B B' : Nat} {A : Option Addr} {xs : List α} (h : Reads E w B A xs) (hb : B ≤ B') : Reads E w B' A xs := by
  rcases h with h | ⟨b, off, h1, h2, h3⟩
  · exact .inl h
  · exact .inr ⟨b, off, h1, by omega, h3⟩
theorem Reads.up {w w' : World} {A : Option Addr} {xs : List α} (h : Reads E w w.heap.size A xs) (hb : Below w.heap.size w w') : Reads E w' w'.heap.size A xs := (h.below hb).mono hb.size
theorem Reads.take {w : World} {B : Nat} {A : Option Addr} {xs : List α} (h : Reads E w B A xs) (k : Nat) : Reads E w B A (xs.take k) := by
  rcases h with h | ⟨b, off, h1, h2, h3⟩
  · exact .inl (by rw [h]; simp)
  · refine .inr ⟨b, off, h1, h2, fun i x hx => h3 i x ?_⟩
    rw [List.getElem?_take] at hx
    split at hx
    · exact hx
    · cases hx

theorem OwnE.nil (t : TypeId) (w : World) (base : Nat) : OwnE E t w base (.slice none 0 0) [] := by
  have := World.ownsRow_nil w base t E.size
  exact this
theorem OwnE.slice {t : TypeId} {w : World} {base : Nat} {v : Value} {xs : List α} (h : OwnE E t w base v xs) : ∃ ao cap, v = .slice ao xs.length cap := slice_of h
theorem OwnE.cast {t : TypeId} {w : World} {base : Nat} {v : Value} {xs ys : List α} (e : xs = ys) (h : OwnE E t w base v xs) : OwnE E t w base v ys := e ▸ h
theorem OwnE.mono {t : TypeId} {w : World} {base base' : Nat} {v : Value} {xs : List α} (h : OwnE E t w base v xs) (hb : base' ≤ base) : OwnE E t w base' v xs := by
  refine ⟨h.1, ?_⟩
  rcases h.2 with hn | ⟨g, cap, cur, hv, hg, r⟩
  · exact .inl hn
  · exact .inr ⟨g, cap, cur, hv, Nat.le_trans hb hg, r⟩
theorem OwnE.below {t : TypeId} {w w' : World} {base B : Nat} {v : Value} {xs : List α} (h : OwnE E t w base v xs) (hb : Below B w w') (hB : w.heap.size ≤ B) : OwnE E t w' base v xs := by
  refine ⟨h.1, ?_⟩
  rcases h.2 with hn | ⟨g, cap, cur, hv, hbg, hg, rest⟩
  · exact .inl hn
  · exact .inr ⟨g, cap, cur, hv, hbg, by rw [hb.block g (Nat.lt_of_lt_of_le (World.ownsRow.lt h g (by rw [hv]; rfl)).2 hB)]; exact hg, rest⟩
theorem OwnE.alloc {t : TypeId} {w : World} {base : Nat} {v : Value} {xs : List α} (h : OwnE E t w base v xs) (o : Obj) : OwnE E t (w.alloc o) base v xs := World.ownsRow.alloc h o
theorem OwnE.kept {t : TypeId} {w w' : World} {base : Nat} {v : Value} {xs : List α} {row : Option Nat} (h : OwnE E t w base v xs) (hg : w.grownBy w' row) (hne : v.ownBlock = none ∨ v.ownBlock ≠ row) : OwnE E t w' base v xs := World.ownsRow.kept h hg hne
theorem OwnE.lt {t : TypeId} {w : World} {base : Nat} {v : Value} {xs : List α} (h : OwnE E t w base v xs) : ∀ k, v.ownBlock = some k → base ≤ k ∧ k < w.heap.size := World.ownsRow.lt h
theorem OwnE.pos {t : TypeId} {w : World} {base : Nat} {v : Value} {xs : List α} (h : OwnE E t w base v xs) (hp : 0 < xs.length) : ∃ g c, v = .slice (some ⟨g, 0, none⟩) xs.length c ∧ base ≤ g ∧ g < w.heap.size := by
  rcases h.2 with ⟨_, hn⟩ | ⟨g, cap, cur, hv, hb, hg, _⟩
  · omega
  · exact ⟨g, cap, hv, hb, (Array.getElem?_eq_some_iff.1 hg).1⟩
theorem OwnE.reads {t : TypeId} {w : World} {base : Nat} {v : Value} {xs : List α} (h : OwnE E t w base v xs) : ∃ A c, v = .slice A xs.length c ∧ Reads E w w.heap.size A xs := by
  rcases h.2 with ⟨hv, hn⟩ | ⟨g, cap, cur, hv, hb, hg, _⟩
  · exact ⟨none, 0, by rw [hv, hn], .inl (List.eq_nil_of_length_eq_zero hn)⟩
  · refine ⟨_, cap, hv, .inr ⟨g, 0, rfl, (Array.getElem?_eq_some_iff.1 hg).1, fun i x hx j u hu => ?_⟩⟩
    have := World.ownsRow.cells h (g := g) (by rw [hv]; rfl) _ _ (cellsE_get E hx hu)
    rw [addr_plain] at this
    rw [← this]
    congr 2
    omega
/-- a new block's cells -/
theorem news_of {w : World} {g : Nat} {cs : Array Value} {t : TypeId} {x : α} (h : w.heap[g]? = some (.cells cs t (0, 0))) (hc : cs.toList = E.enc x) : ∀ j u, (E.enc x)[j]? = some u → w.cell? ((⟨g, 0, none⟩ : Addr).add j) = some u := by
  intro j u hu
  rw [addr_plain, Nat.zero_add, cell_of_row w g j cs t (0, 0) h, ← Array.getElem?_toList, hc]
  exact hu

theorem wpList_append_E {w : World} {ops : Array Oper} {rest : List Oper} {o : Oper} {a : Act} {Q : Exit → Act → World → Prop} (hgd : o.guard = none) (s x : Operand) (T t : TypeId)
    (ho : o.op = .call { callee := .builtin .append, args := #[s, x], argTypes := #[T, T] }) {z : Value} {bytes : Nat}
    (hT : Tryd.prog.underlying T = some (.slice t)) (hinfo : (Tryd.prog.info? t).map (fun i => (i.zero, i.size, i.bytes)) = some (some z, E.size, bytes)) (hzc : z.cells.size = E.size) (hpos : 0 < E.size) (hby : bytes ≤ 1000)
    (base : Nat) (v : Value) (xs : List α) (hs : a.eval s = v) (hown : OwnE E t w base v xs) (ad : Addr) (c : Nat) (m : α) (hx : a.eval x = .slice (some ad) 1 c)
    (hc : ∀ j u, (E.enc m)[j]? = some u → w.cell? (ad.add j) = some u) (hl : xs.length ≤ 1000000) (hbase : base ≤ w.heap.size)
    (hK : ∀ v' w', OwnE E t w' base v' (xs ++ [m]) → w.grownBy w' v.ownBlock → Below base w w' → wpList Tryd.prog ops Q rest (a.put o.dst v') w') : wpList Tryd.prog ops Q (o :: rest) a w := by
  obtain ⟨i0, hi, hz0, hz1, hz2⟩ := info_parts hinfo
  have hb : (xs.length + 1) * bytes ≤ 1000001 * 1000 := Nat.mul_le_mul (by omega) hby
  refine wpList_append_own w hgd s x T ho base t i0 z E.size bytes hT hi hz0 hz1 hz2 hzc hpos v xs.length (cellsE E xs) hs hown ad 1 c (E.enc m) hx (by rw [E.len]; omega) hc (E.one m) (by unfold maxLen; omega) (by omega) hbase ?_
  intro v' w' h1 h2 _
  refine hK v' w' ?_ h2 ((Below.refl base w).grown h2 hbase (fun k hk => (hown.lt k hk).1))
  unfold OwnE
  rw [cellsE_snoc, List.length_append]
  exact h1
end

/-! ints -/
def EInt : El Int := ⟨fun n => [.int .i64 n], 1, fun _ => rfl, fun x u hu => by simp at hu; subst hu; rfl⟩
theorem infoInt : (Tryd.prog.info? 3).map (fun i => (i.zero, i.size, i.bytes)) = some (some (.int .i64 0), 1, 8) := by kernel_rfl
abbrev Ints (w : World) (B : Nat) (A : Option Addr) (xs : List Int) : Prop := Reads EInt w B A xs
abbrev OwnI (w : World) (base : Nat) (v : Value) (xs : List Int) : Prop := OwnE EInt 3 w base v xs
theorem cellsE_int (xs : List Int) : cellsE EInt xs = xs.map (Value.int .i64) := by
  induction xs with
  | nil => rfl
  | cons x r ih =>
    have : cellsE EInt (x :: r) = .int .i64 x :: cellsE EInt r := rfl
    rw [this, ih]; rfl
theorem Ints.cells {w : World} {B : Nat} {A : Option Addr} {xs : List Int} (h : Ints w B A xs) {k : Nat} (hk : k < xs.length) :
    ∃ b off, A = some ⟨b, off, none⟩ ∧ b < B ∧ ∀ i, i < xs.length → w.cell? ⟨b, off + i, none⟩ = some (.int .i64 (xs.getD i 0)) := by
  obtain ⟨b, off, h1, h2, h3⟩ := Reads.at h hk
  refine ⟨b, off, h1, h2, fun i hi => ?_⟩
  have := h3 i hi 0 (.int .i64 xs[i]) rfl
  have e : EInt.size = 1 := rfl
  rw [e, Nat.mul_one, Nat.add_zero] at this
  rw [this]
  simp [List.getD, hi]
theorem OwnI.cell {w : World} {base g c n : Nat} {xs : List Int} (hn : n = xs.length) (h : OwnI w base (.slice (some ⟨g, 0, none⟩) n c) xs) {j : Nat} (hj : j < n) : w.cell? ⟨g, j, none⟩ = some (.int .i64 (xs.getD j 0)) := by
  subst hn
  obtain ⟨A, c', e, hR⟩ := OwnE.reads h
  simp only [Value.slice.injEq] at e
  obtain ⟨b, off, e1, _, h3⟩ := Ints.cells hR hj
  rw [← e.1] at e1
  injection e1 with e1
  injection e1 with e2 e3 _
  subst e2 e3
  have := h3 j hj
  rwa [Nat.zero_add] at this
theorem OwnI.free {w : World} {base g c n : Nat} {xs : List Int} (hn : n = xs.length) (h : OwnI w base (.slice (some ⟨g, 0, none⟩) n c) xs) (j : Nat) : w.frozen? ⟨g, j, none⟩ = false := by
  subst hn
  exact World.ownsRow.frozenAt h j
theorem OwnI.set {w : World} {base g c n : Nat} {xs : List Int} (hn : n = xs.length) (h : OwnI w base (.slice (some ⟨g, 0, none⟩) n c) xs) (j : Nat) (m : Int) :
    OwnI (w.setCell ⟨g, j, none⟩ (.int .i64 m)) base (.slice (some ⟨g, 0, none⟩) n c) (xs.set j m) ∧ w.grownBy (w.setCell ⟨g, j, none⟩ (.int .i64 m)) (some g) := by
  subst hn
  have := World.ownsRow.stored h j (.int .i64 m)
  refine ⟨?_, this.2⟩
  have e : (xs.set j m).length = xs.length := by simp
  unfold OwnI OwnE
  rw [e, cellsE_int, List.map_set, ← cellsE_int]
  exact this.1

/-- append of one int -/
theorem wpList_append_int {w : World} {ops : Array Oper} {rest : List Oper} {o : Oper} {a : Act} {Q : Exit → Act → World → Prop} (hgd : o.guard = none) (s x : Operand)
    (ho : o.op = .call { callee := .builtin .append, args := #[s, x], argTypes := #[22, 22] })
    (base : Nat) (v : Value) (xs : List Int) (hs : a.eval s = v) (hown : OwnI w base v xs) (g c : Nat) (m : Int) (hx : a.eval x = .slice (some ⟨g, 0, none⟩) 1 c)
    (hc : w.cell? ⟨g, 0, none⟩ = some (.int .i64 m)) (hl : xs.length ≤ 1000000) (hbase : base ≤ w.heap.size)
    (hK : ∀ v' w', OwnI w' base v' (xs ++ [m]) → w.grownBy w' v.ownBlock → Below base w w' → wpList Tryd.prog ops Q rest (a.put o.dst v') w') : wpList Tryd.prog ops Q (o :: rest) a w := by
  refine wpList_append_E (E := EInt) hgd s x 22 3 ho Tryd.underlying22 infoInt rfl (by decide) (by decide) base v xs hs hown ⟨g, 0, none⟩ c m hx ?_ hl hbase hK
  intro j u hj
  cases j with
  | zero => rw [addr_plain]; simp [EInt] at hj; subst hj; exact hc
  | succ j => simp [EInt] at hj

end Go.Proofs.YthnhacncnhknnaaDoor

/-
  append of a whole slice (nil or not) tq a row of the call's own.
-/
namespace Go.Proofs.YthnhacncnhknnaaDoor
open Go.RowKit

theorem run_append_empty {P : Program} {w : World} (base : Nat) (t ty e : TypeId) (i : TypeInfo) (size c : Nat) (ht : P.underlying t = some (.slice e)) (hi : P.info? e = some i) (v : Value) (n : Nat) (xs : List Value) (hown : w.ownsRow base e size v n xs) :
    (Builtin.append_ #[t, t] ty #[v, .slice none 0 c]).run P w = .ok v w := by
  rcases hown.2 with ⟨rfl, rfl⟩ | ⟨g, cap, cur, rfl, _, _, hnc, _⟩
  · simp [Builtin.append_, run_underlying ht, sizeOf, typeInfo, hi, Builtin.lenOf, Builtin.firstCells]
  · simp [Builtin.append_, run_underlying ht, sizeOf, typeInfo, hi, Builtin.lenOf, Builtin.firstCells, hnc, storeCells]

section
variable {α : Type} {E : El α}
theorem wp_append_many {w : World} {o : Oper} {a : Act} {K : Act → World → Prop} {Q : Exit → Act → World → Prop} (s x : Operand) (T t : TypeId)
    (ho : o.op = .call { callee := .builtin .append, args := #[s, x], argTypes := #[T, T] }) {z : Value} {bytes : Nat}
    (hT : Tryd.prog.underlying T = some (.slice t)) (hinfo : (Tryd.prog.info? t).map (fun i => (i.zero, i.size, i.bytes)) = some (some z, E.size, bytes)) (hzc : z.cells.size = E.size) (hpos : 0 < E.size) (hby : bytes ≤ 1000)
    (base : Nat) (v : Value) (xs : List α) (hs : a.eval s = v) (hown : OwnE E t w base v xs) (A : Option Addr) (m c B : Nat) (ys : List α) (hx : a.eval x = .slice A m c) (hm : m = ys.length) (hR : Reads E w B A ys) (hl : xs.length ≤ 100000) (hl2 : m ≤ 100000) (hbase : base ≤ w.heap.size)
    (hK : ∀ v' w', OwnE E t w' base v' (xs ++ ys) → w.grownBy w' v.ownBlock → Below base w w' → (v' = .slice none 0 0 ↔ v = .slice none 0 0 ∧ m = 0) → K (a.put o.dst v') w') : o.wp Tryd.prog a w K Q := by
  obtain ⟨i0, hi, hz0, hz1, hz2⟩ := info_parts hinfo
  subst hm
  cases A with
  | none =>
    have e : ys = [] := by
      rcases hR with h | ⟨b, off, h, _⟩
      · exact h
      · cases h
    subst e
    have hr := run_append_empty (P := Tryd.prog) (w := w) base T o.type t i0 E.size c hT hi v xs.length (cellsE E xs) hown
    unfold Oper.wp execOp
    simp only [List.length_nil] at hx
    simp only [ho, resolve, invoke, builtin, Sem.run_bind, Sem.run_pure, Result.andThen_ok, List.map_toArray, List.map_cons, List.map_nil, hs, hx, hr]
    exact hK v w (by rw [List.append_nil]; exact hown) (grown_refl w _) (Below.refl _ _) (by simp)
  | some ad =>
    have hb : (xs.length + ys.length) * bytes ≤ 200000 * 1000 := Nat.mul_le_mul (by omega) hby
    refine wp_append_own w s x T ho base t i0 z E.size bytes hT hi hz0 hz1 hz2 hzc hpos v xs.length (cellsE E xs) hs hown ad ys.length c (cellsE E ys) hx (cellsE_length E ys) ?_ (cellsE_one E ys) (by unfold maxLen; omega) (by omega) hbase fun v' w' h1 h2 h3 => hK v' w' ?_ h2 ((Below.refl base w).grown h2 hbase (fun k hk => (hown.lt k hk).1)) h3
    · intro j u hj
      rcases hR with h | ⟨b, off, h, _, h3⟩
      · subst h; simp [cellsE] at hj
      · cases h
        obtain ⟨hj1, _⟩ := List.getElem?_eq_some_iff.1 hj
        rw [cellsE_length] at hj1
        have hi2 : j / E.size < ys.length := (Nat.div_lt_iff_lt_mul hpos).2 hj1
        have hq := List.getElem?_eq_getElem hi2
        have hu : (E.enc ys[j / E.size])[j % E.size]? = some u := by
          have hlt : j % E.size < (E.enc ys[j / E.size]).length := by rw [E.len]; exact Nat.mod_lt _ hpos
          have := cellsE_get E hq (List.getElem?_eq_getElem hlt)
          rw [show j / E.size * E.size + j % E.size = j by rw [Nat.mul_comm]; exact Nat.div_add_mod j E.size, hj] at this
          rw [List.getElem?_eq_getElem hlt, this]
        have := h3 _ _ hq _ _ hu
        rw [addr_plain]
        have e : off + j = off + j / E.size * E.size + j % E.size := by rw [Nat.add_assoc, show j / E.size * E.size + j % E.size = j by rw [Nat.mul_comm]; exact Nat.div_add_mod j E.size]
        rw [e]
        exact this
    · unfold OwnE
      rw [List.length_append]
      unfold cellsE at h1 ⊢
      rw [List.flatMap_append]
      exact h1
theorem wpList_append_many {w : World} {ops : Array Oper} {rest : List Oper} {o : Oper} {a : Act} {Q : Exit → Act → World → Prop} (hgd : o.guard = none) (s x : Operand) (T t : TypeId)
    (ho : o.op = .call { callee := .builtin .append, args := #[s, x], argTypes := #[T, T] }) {z : Value} {bytes : Nat}
    (hT : Tryd.prog.underlying T = some (.slice t)) (hinfo : (Tryd.prog.info? t).map (fun i => (i.zero, i.size, i.bytes)) = some (some z, E.size, bytes)) (hzc : z.cells.size = E.size) (hpos : 0 < E.size) (hby : bytes ≤ 1000)
    (base : Nat) (v : Value) (xs : List α) (hs : a.eval s = v) (hown : OwnE E t w base v xs) (A : Option Addr) (m c B : Nat) (ys : List α) (hx : a.eval x = .slice A m c) (hm : m = ys.length) (hR : Reads E w B A ys) (hl : xs.length ≤ 100000) (hl2 : m ≤ 100000) (hbase : base ≤ w.heap.size)
    (hK : ∀ v' w', OwnE E t w' base v' (xs ++ ys) → w.grownBy w' v.ownBlock → Below base w w' → (v' = .slice none 0 0 ↔ v = .slice none 0 0 ∧ m = 0) → wpList Tryd.prog ops Q rest (a.put o.dst v') w') : wpList Tryd.prog ops Q (o :: rest) a w :=
  wpList_plain hgd fun _ hK2 => wp_append_many s x T t ho hT hinfo hzc hpos hby base v xs hs hown A m c B ys hx hm hR hl hl2 hbase fun v' w' h2 h3 h4 h5 => hK2 _ _ (hK v' w' h2 h3 h4 h5)
theorem step_append_many {w : World} {ops : Array Oper} {o : Oper} {a : Act} {K : Act → World → Prop} {Q : Exit → Act → World → Prop} {X : Prop} (hgd : o.guard = none) (s x : Operand) (T t : TypeId)
    (ho : o.op = .call { callee := .builtin .append, args := #[s, x], argTypes := #[T, T] }) {z : Value} {bytes : Nat}
    (hT : Tryd.prog.underlying T = some (.slice t)) (hinfo : (Tryd.prog.info? t).map (fun i => (i.zero, i.size, i.bytes)) = some (some z, E.size, bytes)) (hzc : z.cells.size = E.size) (hpos : 0 < E.size) (hby : bytes ≤ 1000)
    (base : Nat) (v : Value) (xs : List α) (hs : a.eval s = v) (hown : OwnE E t w base v xs) (A : Option Addr) (m c B : Nat) (ys : List α) (hx : a.eval x = .slice A m c) (hm : m = ys.length) (hR : Reads E w B A ys) (hl : xs.length ≤ 100000) (hl2 : m ≤ 100000) (hbase : base ≤ w.heap.size)
    (hK : ∀ v' w', OwnE E t w' base v' (xs ++ ys) → w.grownBy w' v.ownBlock → Below base w w' → (v' = .slice none 0 0 ↔ v = .slice none 0 0 ∧ m = 0) → K (a.put o.dst v') w') : if Region.wanted o (yielded ops a.tmps) = true then Oper.wp Tryd.prog o a w K Q else X := by
  have hw : Region.wanted o (yielded ops a.tmps) = true := by simp [Region.wanted, hgd]
  rw [if_pos hw]
  exact wp_append_many s x T t ho hT hinfo hzc hpos hby base v xs hs hown A m c B ys hx hm hR hl hl2 hbase hK
/-- an empty literal is a row of the call's own -/
theorem OwnE.empty {t : TypeId} {w : World} {base g : Nat} (h : w.heap[g]? = some (.cells #[] t (0, 0))) (hb : base ≤ g) : OwnE E t w base (.slice (some ⟨g, 0, none⟩) 0 0) [] :=
  ⟨by simp [cellsE], .inr ⟨g, 0, #[], rfl, hb, h, Nat.le_refl _, by simp, by simp, by simp [cellsE]⟩⟩
end

/-- a row lies in another block than one of another type -/
theorem own_far {α : Type} {E : El α} {t t' : TypeId} {w : World} {base B : Nat} {v : Value} {xs : List α} {cs : Array Value} (h : OwnE E t w base v xs) (hb : w.heap[B]? = some (.cells cs t' (0, 0))) (hne : t ≠ t') : v.ownBlock ≠ some B := by
  rcases h.2 with ⟨rfl, _⟩ | ⟨g, cap, cur, rfl, _, hg, _⟩
  · simp [Value.ownBlock]
  · intro he
    have e : g = B := by simpa [Value.ownBlock] using he
    subst e
    rw [hg] at hb
    simp only [Option.some.injEq, Obj.cells.injEq] at hb
    exact hne hb.2.1
end Go.Proofs.YthnhacncnhknnaaDoor

/-
  Graphs in memory.
-/
namespace Go.Proofs.YthnhacncnhknnaaDoor
open Go.RowKit

abbrev I64 (x : Int) : Prop := -9223372036854775808 ≤ x ∧ x ≤ 9223372036854775807
def EEd : El Ed := ⟨fun x => [.int .i64 x.ty, .int .i64 x.fr, .int .i64 x.tq], 3, fun _ => rfl, fun x u hu => by simp at hu; rcases hu with rfl | rfl | rfl <;> rfl⟩
abbrev Eds (w : World) (B : Nat) (A : Option Addr) (xs : List Ed) : Prop := Reads EEd w B A xs
abbrev OwnEd (w : World) (base : Nat) (v : Value) (xs : List Ed) : Prop := OwnE EEd 73 w base v xs
theorem infoEd : (Tryd.prog.info? 73).map (fun i => (i.zero, i.size, i.bytes)) = some (some (.agg #[.int .i64 0, .int .i64 0, .int .i64 0]), 3, 24) := by kernel_rfl
theorem Eds.cells {w : World} {B : Nat} {A : Option Addr} {xs : List Ed} (h : Eds w B A xs) {k : Nat} (hk : k < xs.length) :
    ∃ b off, A = some ⟨b, off, none⟩ ∧ b < B ∧ ∀ i, i < xs.length → w.cell? ⟨b, off + i * 3, none⟩ = some (.int .i64 (xs.getD i default).ty) ∧ w.cell? ⟨b, off + i * 3 + 1, none⟩ = some (.int .i64 (xs.getD i default).fr) ∧ w.cell? ⟨b, off + i * 3 + 2, none⟩ = some (.int .i64 (xs.getD i default).tq) := by
  obtain ⟨b, off, h1, h2, h3⟩ := Reads.at h hk
  refine ⟨b, off, h1, h2, fun i hi => ?_⟩
  have e : xs.getD i default = xs[i] := by rw [List.getD_eq_getElem?_getD, List.getElem?_eq_getElem hi]; rfl
  rw [e]
  exact ⟨h3 i hi 0 _ rfl, h3 i hi 1 _ rfl, h3 i hi 2 _ rfl⟩

/-- the value of a graph, a morphism or a part: two slices -/
abbrev gval (An : Option Addr) (n cn : Nat) (Ae : Option Addr) (m ce : Nat) : Value := .agg #[.slice An n cn, .slice Ae m ce]
/-- two slices read as a graph -/
structure GrAt (w : World) (An : Option Addr) (cn : Nat) (Ae : Option Addr) (ce : Nat) (g : Gr) : Prop where
  ns : Ints w w.heap.size An g.ns
  es : Eds w w.heap.size Ae g.es
  cn : g.ns.length ≤ cn ∧ cn ≤ maxLen
  ce : g.es.length ≤ ce ∧ ce ≤ maxLen
structure MoAt (w : World) (An : Option Addr) (cn : Nat) (Ae : Option Addr) (ce : Nat) (m : Mo) : Prop where
  ns : Ints w w.heap.size An m.ns
  es : Ints w w.heap.size Ae m.es
  cn : m.ns.length ≤ cn ∧ cn ≤ maxLen
  ce : m.es.length ≤ ce ∧ ce ≤ maxLen
theorem GrAt.up {w w' : World} {An : Option Addr} {cn : Nat} {Ae : Option Addr} {ce : Nat} {g : Gr} (h : GrAt w An cn Ae ce g) (hb : Below w.heap.size w w') : GrAt w' An cn Ae ce g := ⟨Reads.up h.ns hb, Reads.up h.es hb, h.cn, h.ce⟩
theorem MoAt.up {w w' : World} {An : Option Addr} {cn : Nat} {Ae : Option Addr} {ce : Nat} {g : Mo} (h : MoAt w An cn Ae ce g) (hb : Below w.heap.size w w') : MoAt w' An cn Ae ce g := ⟨Reads.up h.ns hb, Reads.up h.es hb, h.cn, h.ce⟩
/-- a slice value that reads as a list -/
def IsI (w : World) (v : Value) (xs : List Int) : Prop := ∃ A c, v = .slice A xs.length c ∧ Ints w w.heap.size A xs ∧ xs.length ≤ c ∧ c ≤ maxLen
def IsE (w : World) (v : Value) (xs : List Ed) : Prop := ∃ A c, v = .slice A xs.length c ∧ Eds w w.heap.size A xs ∧ xs.length ≤ c ∧ c ≤ maxLen
/-- a value that reads as a graph, or as a morphism -/
def IsG (w : World) (v : Value) (g : Gr) : Prop := ∃ An cn Ae ce, v = gval An g.ns.length cn Ae g.es.length ce ∧ GrAt w An cn Ae ce g
def IsM (w : World) (v : Value) (m : Mo) : Prop := ∃ An cn Ae ce, v = gval An m.ns.length cn Ae m.es.length ce ∧ MoAt w An cn Ae ce m
theorem IsI.up {w w' : World} {v : Value} {xs : List Int} (h : IsI w v xs) (hb : Below w.heap.size w w') : IsI w' v xs := by
  obtain ⟨A, c, e, h1, h2⟩ := h
  exact ⟨A, c, e, Reads.up h1 hb, h2⟩
theorem IsE.up {w w' : World} {v : Value} {xs : List Ed} (h : IsE w v xs) (hb : Below w.heap.size w w') : IsE w' v xs := by
  obtain ⟨A, c, e, h1, h2⟩ := h
  exact ⟨A, c, e, Reads.up h1 hb, h2⟩
theorem IsG.up {w w' : World} {v : Value} {g : Gr} (h : IsG w v g) (hb : Below w.heap.size w w') : IsG w' v g := by
  obtain ⟨An, cn, Ae, ce, e, h1⟩ := h
  exact ⟨An, cn, Ae, ce, e, h1.up hb⟩
theorem IsM.up {w w' : World} {v : Value} {g : Mo} (h : IsM w v g) (hb : Below w.heap.size w w') : IsM w' v g := by
  obtain ⟨An, cn, Ae, ce, e, h1⟩ := h
  exact ⟨An, cn, Ae, ce, e, h1.up hb⟩
theorem own_cap {w : World} {base : Nat} {e : TypeId} {size : Nat} {v : Value} {n : Nat} {xs : List Value} (h : w.ownsRow base e size v n xs) : ∃ ao cap, v = .slice ao n cap ∧ n ≤ cap ∧ cap ≤ maxLen := by
  rcases h.2 with ⟨hv, h0⟩ | ⟨g, cap, cur, hv, _, _, h1, h2, _⟩
  · exact ⟨none, 0, by rw [hv, h0], by omega, by unfold maxLen; omega⟩
  · exact ⟨_, _, hv, h1, h2⟩
theorem OwnE.reads_cap {α : Type} {E : El α} {t : TypeId} {w : World} {base : Nat} {v : Value} {xs : List α} (h : OwnE E t w base v xs) : ∃ A c, v = .slice A xs.length c ∧ Reads E w w.heap.size A xs ∧ xs.length ≤ c ∧ c ≤ maxLen := by
  obtain ⟨A, c, e, hR⟩ := OwnE.reads h
  obtain ⟨A', c', e', h1, h2⟩ := own_cap h
  rw [e] at e'
  injection e' with _ _ ec
  subst ec
  exact ⟨A, c, e, hR, h1, h2⟩
theorem isI_own {w : World} {base : Nat} {v : Value} {xs : List Int} (h : OwnI w base v xs) : IsI w v xs := OwnE.reads_cap h
theorem isE_own {w : World} {base : Nat} {v : Value} {xs : List Ed} (h : OwnEd w base v xs) : IsE w v xs := OwnE.reads_cap h
theorem isG_of {w : World} {v u : Value} {g : Gr} (h1 : IsI w v g.ns) (h2 : IsE w u g.es) : IsG w (.agg #[v, u]) g := by
  obtain ⟨A, c, rfl, h3, h4⟩ := h1
  obtain ⟨A', c', rfl, h5, h6⟩ := h2
  exact ⟨A, c, A', c', rfl, h3, h5, h4, h6⟩
theorem isM_of {w : World} {v u : Value} {g : Mo} (h1 : IsI w v g.ns) (h2 : IsI w u g.es) : IsM w (.agg #[v, u]) g := by
  obtain ⟨A, c, rfl, h3, h4⟩ := h1
  obtain ⟨A', c', rfl, h5, h6⟩ := h2
  exact ⟨A, c, A', c', rfl, h3, h5, h4, h6⟩
theorem isI_nil (w : World) : IsI w (.slice none 0 0) [] := ⟨none, 0, rfl, .inl rfl, Nat.le_refl _, by unfold maxLen; omega⟩
theorem isE_nil (w : World) : IsE w (.slice none 0 0) [] := ⟨none, 0, rfl, .inl rfl, Nat.le_refl _, by unfold maxLen; omega⟩
theorem isG_nil (w : World) : IsG w (gval none 0 0 none 0 0) noG := isG_of (g := noG) (isI_nil w) (isE_nil w)
theorem isM_nil (w : World) : IsM w (gval none 0 0 none 0 0) noM := isM_of (g := noM) (isI_nil w) (isI_nil w)

theorem box_cell {w w1 : World} {u v : Value} {t : TypeId} (h : Below (w.heap.size + 1) (w.alloc (.cells #[u, v] t (0, 0))) w1) : w1.cell? ⟨w.heap.size, 0, none⟩ = some u ∧ w1.cell? ⟨w.heap.size, 1, none⟩ = some v :=
  ⟨(h.cell (p := ⟨w.heap.size, 0, none⟩) (Nat.lt_succ_self _)).trans (by simp), (h.cell (p := ⟨w.heap.size, 1, none⟩) (Nat.lt_succ_self _)).trans (by simp)⟩
theorem box_below {w w1 : World} {o : Obj} (h : Below (w.heap.size + 1) (w.alloc o) w1) : Below w.heap.size w w1 := ((Below.refl _ _).alloc (Nat.le_refl _) _).trans (h.mono (Nat.le_succ _))
theorem below_one' {w w1 : World} {o : Obj} (h : Below (w.alloc o).heap.size (w.alloc o) w1) : Below (w.heap.size + 1) (w.alloc o) w1 := h.mono (by simp)

theorem boxes2 {w w1 : World} {o o2 : Obj} (h : Below ((w.alloc o).alloc o2).heap.size ((w.alloc o).alloc o2) w1) : w1.heap[w.heap.size]? = some o ∧ w1.heap[w.heap.size + 1]? = some o2 ∧ w.heap.size + 2 ≤ w1.heap.size :=
  ⟨(h.block w.heap.size (by simp; omega)).trans (heap_two w o o2), (h.block (w.heap.size + 1) (by simp)).trans (heap_two' w o o2), by have := h.size; simpa using this⟩
theorem cell2 {w : World} {b : Nat} {u v : Value} {t : TypeId} (h : w.heap[b]? = some (.cells #[u, v] t (0, 0))) : w.cell? ⟨b, 0, none⟩ = some u ∧ w.cell? ⟨b, 1, none⟩ = some v :=
  ⟨cell_of_row _ _ _ _ _ _ h, cell_of_row _ _ _ _ _ _ h⟩
theorem cell3 {w : World} {b : Nat} {u v x : Value} {t : TypeId} (h : w.heap[b]? = some (.cells #[u, v, x] t (0, 0))) : w.cell? ⟨b, 0, none⟩ = some u ∧ w.cell? ⟨b, 1, none⟩ = some v ∧ w.cell? ⟨b, 2, none⟩ = some x :=
  ⟨cell_of_row _ _ _ _ _ _ h, cell_of_row _ _ _ _ _ _ h, cell_of_row _ _ _ _ _ _ h⟩
theorem heap_up {w w1 : World} {b : Nat} {o : Obj} (hb : Below w.heap.size w w1) (h : w.heap[b]? = some o) : w1.heap[b]? = some o := (hb.block b (Array.getElem?_eq_some_iff.1 h).1).trans h
theorem heap_lt {w : World} {b : Nat} {o : Obj} (h : w.heap[b]? = some o) : b < w.heap.size := (Array.getElem?_eq_some_iff.1 h).1

/-! isIndex, kind, isEdge, right -/
theorem isIndex_any (x : Int) (n : Nat) (w : World) : Calls Tryd.prog 77 #[.int .i64 x, .int .i64 (n : Int)] w fun e w' => e = .returned (.bool (idxB x n)) ∧ w = w' := by
  have H : Hid (idxB x n = (decide (0 ≤ x) && decide (x < (n : Int)))) := Lib.hid rfl
  by_cases h1 : 0 ≤ x
  · by_cases h2 : x < (n : Int)
    · go_enter Tryd.func77, Tryd.ntmps77
      go_wp2
      go_ret
      exact ⟨ret_bool (by rw [H.out, decide_eq_true h1, decide_eq_true h2]; rfl), rfl⟩
    · have h2' : (n : Int) ≤ x := by omega
      go_enter Tryd.func77, Tryd.ntmps77
      go_wp2
      go_ret
      exact ⟨ret_bool (by rw [H.out, decide_eq_true h1, decide_eq_false (p := x < (n : Int)) (by omega)]; rfl), rfl⟩
  · have h1' : x < 0 := by omega
    go_enter Tryd.func77, Tryd.ntmps77
    go_wp2
    go_ret
    exact ⟨ret_bool (by rw [H.out, decide_eq_false (p := 0 ≤ x) (by omega)]; rfl), rfl⟩
theorem kind_any (x : Int) (w : World) : Calls Tryd.prog 64 #[.int .i64 x] w fun e w' => e = .returned (.bool (idxB x 100)) ∧ w = w' := by
  have H : Hid (idxB x 100 = (decide (0 ≤ x) && decide (x < ((100 : Nat) : Int)))) := Lib.hid rfl
  by_cases h1 : 0 ≤ x
  · by_cases h2 : x ≤ 99
    · go_enter Tryd.func64, Tryd.ntmps64
      go_wp2
      go_ret
      exact ⟨ret_bool (by rw [H.out, decide_eq_true h1, decide_eq_true (by omega)]; rfl), rfl⟩
    · have h2' : 99 < x := by omega
      go_enter Tryd.func64, Tryd.ntmps64
      go_wp2
      go_ret
      exact ⟨ret_bool (by rw [H.out, decide_eq_true h1, decide_eq_false (p := x < ((100 : Nat) : Int)) (by omega)]; rfl), rfl⟩
  · have h1' : x < 0 := by omega
    go_enter Tryd.func64, Tryd.ntmps64
    go_wp2
    go_ret
    exact ⟨ret_bool (by rw [H.out, decide_eq_false (p := 0 ≤ x) (by omega)]; rfl), rfl⟩

end Go.Proofs.YthnhacncnhknnaaDoor

/-
  Slices: Clone at ints and edges, Grow and Concat at ints, Equal at ints and edges, SameInts of the reference.
-/
namespace Go.Proofs.YthnhacncnhknnaaDoor
open Go.RowKit

theorem reads_cells {α : Type} {E : El α} {w : World} {b off : Nat} {xs : List α} (hp : 0 < E.size) (h : ∀ i x, xs[i]? = some x → ∀ j u, (E.enc x)[j]? = some u → w.cell? ⟨b, off + i * E.size + j, none⟩ = some u) : ∀ j u, (cellsE E xs)[j]? = some u → w.cell? ⟨b, off + j, none⟩ = some u := by
  intro j u hu
  have hj : j < (cellsE E xs).length := by
    rcases Nat.lt_or_ge j (cellsE E xs).length with h1 | h1
    · exact h1
    · rw [List.getElem?_eq_none h1] at hu; cases hu
  rw [cellsE_length] at hj
  have hd : j / E.size < xs.length := (Nat.div_lt_iff_lt_mul hp).2 hj
  have hm : j % E.size < E.size := Nat.mod_lt _ hp
  have hx : xs[j / E.size]? = some xs[j / E.size] := List.getElem?_eq_getElem hd
  have hv : (E.enc xs[j / E.size])[j % E.size]? = some ((E.enc xs[j / E.size])[j % E.size]'(by rw [E.len]; exact hm)) := List.getElem?_eq_getElem _
  have h2 := cellsE_get E hx hv
  have e : j / E.size * E.size + j % E.size = j := by rw [Nat.mul_comm]; exact Nat.div_add_mod j E.size
  rw [e, hu] at h2
  have h3 := h _ _ hx _ _ hv
  rw [show off + j / E.size * E.size + j % E.size = off + j by omega] at h3
  rw [h3, h2]

theorem cloneI_nil (n c : Nat) (w : World) :
    Calls Tryd.prog 14 #[.slice none n c] w fun e w' => e = .returned (.slice none 0 0) ∧ w = w' := by
  have q22 : ∀ (w : World) (a : Option Addr) (n c n' c' : Nat), (binOp .eql 22 (.slice a n c) (.slice none n' c')).run Tryd.prog w = .ok (.bool a.isNone) w := fun w a n c n' c' => Lib.run_eql_slice_nil w _ _ a n c n' c' Tryd.underlying22
  go_enter Tryd.func14, Tryd.ntmps14
  go_wp2
  go_ret
  exact ⟨rfl, rfl⟩
set_option maxHeartbeats 2000000 in
set_option maxRecDepth 100000 in
theorem cloneI_some (xs : List (Int)) (ad : Addr) (c : Nat) (w : World) (hl : xs.length ≤ 1000000) (h : ∀ j u, (cellsE EInt xs)[j]? = some u → w.cell? (ad.add j) = some u) :
    Calls Tryd.prog 14 #[.slice (some ad) xs.length c] w fun e w' => ∃ v, e = .returned v ∧ OwnE EInt 3 w' w.heap.size v xs ∧ Below w.heap.size w w' := by
  have q22 : ∀ (w : World) (a : Option Addr) (n c n' c' : Nat), (binOp .eql 22 (.slice a n c) (.slice none n' c')).run Tryd.prog w = .ok (.bool a.isNone) w := fun w a n c n' c' => Lib.run_eql_slice_nil w _ _ a n c n' c' Tryd.underlying22
  obtain ⟨i0, hi, hz0, hz1, hz2⟩ := info_parts infoInt
  have HC := Lib.hid h
  clear h
  go_enter Tryd.func14, Tryd.ntmps14
  go_wp2_with (at_builtin; refine wpList_append_own _ rfl _ _ 22 rfl w.heap.size 3 i0 (.int .i64 0) 1 8 Tryd.underlying22 hi hz0 hz1 hz2 rfl (by decide) _ _ _ rfl (World.ownsRow_made w #[] 0 (Nat.le_refl _) (Nat.zero_le _) (by simp)) ad xs.length c (cellsE EInt xs) rfl ?qc1 ?qc2 ?qc3 ?qc4 ?qc5 ?qc6 ?_)
  case qc1 => exact cellsE_length EInt xs
  case qc2 =>
    intro j u hj
    exact (World.cell?_alloc_lt w _ _ (World.block_lt_of_cell? w _ (HC.out j u hj))).trans (HC.out j u hj)
  case qc3 => exact cellsE_one EInt xs
  case qc4 => unfold maxLen; omega
  case qc5 => omega
  case qc6 => simp
  intro v' w1 hown hgrow hnil
  go_wp2
  go_ret
  refine ⟨v', rfl, (by simpa using hown : w1.ownsRow w.heap.size 3 1 v' xs.length (cellsE EInt xs)), ?_⟩
  exact ((Below.refl _ w).alloc (Nat.le_refl _) _).grown hgrow (by simp) (by intro k hk; simp [Value.ownBlock] at hk; omega)
/-- a copy, in memory of the call's own -/
theorem cloneI_any (xs : List (Int)) (A : Option Addr) (B c : Nat) (w : World) (hl : xs.length ≤ 1000000) (hT : Reads EInt w B A xs) :
    Calls Tryd.prog 14 #[.slice A xs.length c] w fun e w' => ∃ v, e = .returned v ∧ OwnE EInt 3 w' w.heap.size v xs ∧ Below w.heap.size w w' := by
  have fin : ∀ e w', (∃ v, e = Ending.returned v ∧ OwnE EInt 3 w' w.heap.size v xs ∧ Below w.heap.size w w') → ∃ v, e = .returned v ∧ OwnE EInt 3 w' w.heap.size v xs ∧ Below w.heap.size w w' := by
    exact fun e w' h => h
  rcases hT with rfl | ⟨b, off, rfl, _, h⟩
  · rcases A with _ | ad
    · refine (cloneI_nil 0 c w).mono ?_
      rintro e w' ⟨rfl, rfl⟩
      exact ⟨_, rfl, OwnE.nil _ _ _, Below.refl _ _⟩
    · exact (cloneI_some [] ad c w (by simp) (by intro j u hj; simp [cellsE] at hj)).mono fin
  · refine (cloneI_some xs ⟨b, off, none⟩ c w hl (fun j u hu => ?_)).mono fin
    rw [addr_plain]
    exact reads_cells (by decide) h j u hu


theorem zeroCells_size (z : Array Value) (n : Nat) : (Builtin.zeroCells z n).size = n * z.size := by simp [Builtin.zeroCells]

set_option maxRecDepth 100000 in
set_option maxHeartbeats 1000000 in
theorem grow_any (n : Nat) (w : World) (hn : n ≤ 1000) :
    Calls Tryd.prog 103 #[.slice none 0 0, .int .i64 n] w fun e w' => (∃ v, e = .returned v ∧ OwnI w' w.heap.size v []) ∧ Below w.heap.size w w' := by
  obtain ⟨i0, hi, hz0, hz1, hz2⟩ := info_parts infoInt
  rcases Nat.eq_zero_or_pos n with h0 | hp
  · subst h0
    have HO := Lib.hid (OwnE.nil (E := EInt) 3 w w.heap.size)
    go_enter Tryd.func103, Tryd.ntmps103
    go_wp2_with fail
    go_ret
    exact ⟨⟨_, rfl, HO.out⟩, Below.refl _ _⟩
  · have HRUN := Lib.hid (fun ty => Lib.run_append_nil_zeros (P := Tryd.prog) w 22 3 ty 3 i0 _ .i64 .i64 Tryd.underlying22 Tryd.underlying3 hi hz0 n hp (by rw [hz1]; decide) (by omega) (by rw [hz2]; omega))
    have hcap := grownCap_ge w n 0 3
    have hmax := grownCap_le_maxLen w n 0 3 (by unfold maxLen; omega)
    generalize grownCap w n 0 3 = cc at HRUN hcap hmax
    have hsz : (Builtin.zeroCells (Value.int .i64 0).cells n ++ Builtin.zeroCells (Value.int .i64 0).cells (cc - n)).size = cc * 1 := by
      rw [Array.size_append, zeroCells_size, zeroCells_size, show (Value.int .i64 0).cells.size = 1 from rfl]
      omega
    generalize Builtin.zeroCells (Value.int .i64 0).cells n ++ Builtin.zeroCells (Value.int .i64 0).cells (cc - n) = cur at HRUN hsz
    have HO : Hid (OwnI (w.drew.alloc (.cells cur 3)) w.heap.size (.slice (some ⟨w.heap.size, 0, none⟩) 0 cc) []) := Lib.hid (World.ownsRow_made w.drew cur cc (Nat.le_refl _) hmax hsz)
    have HB := Lib.hid ((Below.drew (Below.refl w.heap.size w)).alloc (Nat.le_refl _) (.cells cur 3))
    have t1 : decide (0 < (n : Int)) = true := decide_eq_true (by omega)
    have t2 : decide ((n : Int) < 0) = false := decide_eq_false (by omega)
    go_enter Tryd.func103, Tryd.ntmps103
    go_wp2_with (at_builtin; refine Lib.wpList_append_run _ rfl _ _ _ _ rfl _ _ rfl rfl _ _ (HRUN.out _) ?_)
    go_ret
    exact ⟨⟨_, rfl, HO.out⟩, HB.out⟩

set_option maxRecDepth 100000 in
set_option maxHeartbeats 2000000 in
theorem concat_any (A1 A2 : Option Addr) (n1 c1 n2 c2 c : Nat) (ys1 ys2 : List Int) (h1 : n1 = ys1.length) (h2 : n2 = ys2.length) (l1 : n1 ≤ 400) (l2 : n2 ≤ 400) (w : World) (g B : Nat) (hB : B ≤ w.heap.size)
    (k0 : w.cell? ⟨g, 0, none⟩ = some (.slice A1 n1 c1)) (k1 : w.cell? ⟨g, 1, none⟩ = some (.slice A2 n2 c2)) (hg : g < w.heap.size) (hr1 : Reads EInt w B A1 ys1) (hr2 : Reads EInt w B A2 ys2) :
    Calls Tryd.prog 83 #[.slice (some ⟨g, 0, none⟩) 2 c] w fun e w' => (∃ v, e = .returned v ∧ OwnI w' w.heap.size v (ys1 ++ ys2)) ∧ Below w.heap.size w w' := by
  have HG : Hid (∀ u, Calls Tryd.prog 103 #[.slice none 0 0, .int .i64 ((n1 : Int) + (n2 : Int))] u fun e w' => (∃ v, e = .returned v ∧ OwnI w' u.heap.size v []) ∧ Below u.heap.size u w') := Lib.hid fun u => by
    have h := grow_any (n1 + n2) u (by omega)
    rwa [Int.natCast_add] at h
  have HR1 := Lib.hid hr1
  have HR2 := Lib.hid hr2
  have H1 := Lib.hid h1
  have H2 := Lib.hid h2
  clear hr1 hr2 h1 h2
  go_enter Tryd.func83, Tryd.ntmps83
  go_wp2_with fail
  go_loopw [3, 11] (fun vs vi wr => wr = w ∧ ((vs = .int .i64 0 ∧ vi = .int .i64 0) ∨ (vs = .int .i64 n1 ∧ vi = .int .i64 1) ∨ (vs = .int .i64 ((n1 : Int) + n2) ∧ vi = .int .i64 2))) (fun _ vi _ => 2 - (intOf vi).toNat)
  case atStart => exact ⟨rfl, .inl ⟨rfl, rfl⟩⟩
  case round =>
    obtain ⟨rfl, h | h | h⟩ := hrel
    · obtain ⟨rfl, rfl⟩ := h
      have t1 : decide ((n1 : Int) < 0) = false := decide_eq_false (by omega)
      go_wp2_with fail
      go_roundw
      case rel => exact ⟨trivial, .inr (.inl ⟨by go_num, by go_num⟩)⟩
      case measure => simp [intOf]
    · obtain ⟨rfl, rfl⟩ := h
      have t1 : decide ((n1 : Int) + (n2 : Int) < 0) = false := decide_eq_false (by omega)
      go_wp2_with fail
      go_roundw
      case rel => exact ⟨trivial, .inr (.inr ⟨by go_num, by go_num⟩)⟩
      case measure => simp [intOf]
    · obtain ⟨rfl, rfl⟩ := h
      obtain ⟨wo, hwo⟩ : ∃ wo, wo = wr := ⟨_, rfl⟩
      subst hwo
      go_wp2_with fail
      with_reducible refine (HG.out _).mono ?_
      rintro e w2 ⟨⟨v2, rfl, ho2⟩, hb2⟩
      have HO2 := Lib.hid ho2
      have HB2 := Lib.hid hb2
      have hz2 := hb2.size
      have m0 := (hb2.cell (p := ⟨g, 0, none⟩) hg).trans k0
      have m1 := (hb2.cell (p := ⟨g, 1, none⟩) hg).trans k1
      clear ho2 hb2 k0 k1
      go_wp2_with fail
      go_loopw [6, 27] (fun vo vi wr => (∃ ys, OwnI wr wo.heap.size vo ys ∧ ((vi = .int .i64 0 ∧ ys = []) ∨ (vi = .int .i64 1 ∧ ys = ys1) ∨ (vi = .int .i64 2 ∧ ys = ys1 ++ ys2))) ∧ Below wo.heap.size wo wr) (fun _ vi _ => 2 - (intOf vi).toNat)
      case atStart => exact ⟨⟨[], HO2.out, .inl ⟨rfl, rfl⟩⟩, HB2.out⟩
      case round =>
        obtain ⟨⟨ys, hown, h⟩, hBw⟩ := hrel
        have d0 := (hBw.cell (p := ⟨g, 0, none⟩) hg).trans ((HB2.out.cell (p := ⟨g, 0, none⟩) hg).symm.trans m0)
        have d1 := (hBw.cell (p := ⟨g, 1, none⟩) hg).trans ((HB2.out.cell (p := ⟨g, 1, none⟩) hg).symm.trans m1)
        have hz3 := hBw.size
        have HO := Lib.hid hown
        have HBw := Lib.hid hBw
        clear hown hBw
        rcases h with h | h | h
        · obtain ⟨rfl, rfl⟩ := h
          go_wp2_with (at_builtin; refine wpList_append_many (E := EInt) (w := wr) rfl _ _ 22 3 rfl Tryd.underlying22 infoInt rfl (by decide) (by decide) wo.heap.size _ [] rfl ?y1 A1 n1 c1 B ys1 rfl ?y2 ?y3 ?y4 ?y5 ?y6 ?_)
          case y1 => exact HO.out
          case y2 => exact H1.out
          case y3 => exact HR1.out.below (HBw.out.mono hB)
          case y4 => simp
          case y5 => omega
          case y6 => omega
          intro v3 w3 hown3 hg3 hb3 _
          have HO3 := Lib.hid (hown3.cast (List.nil_append ys1))
          have HB3 := Lib.hid (HBw.out.trans hb3)
          clear hown3 hg3 hb3
          go_wp2_with fail
          go_roundw
          case rel => exact ⟨⟨ys1, HO3.out, .inr (.inl ⟨by go_num, rfl⟩)⟩, HB3.out⟩
          case measure => simp [intOf]
        · obtain ⟨rfl, rfl⟩ := h
          go_wp2_with (at_builtin; refine wpList_append_many (E := EInt) (w := wr) rfl _ _ 22 3 rfl Tryd.underlying22 infoInt rfl (by decide) (by decide) wo.heap.size _ ys rfl ?y1 A2 n2 c2 B ys2 rfl ?y2 ?y3 ?y4 ?y5 ?y6 ?_)
          case y1 => exact HO.out
          case y2 => exact H2.out
          case y3 => exact HR2.out.below (HBw.out.mono hB)
          case y4 => have := H1.out; omega
          case y5 => omega
          case y6 => omega
          intro v3 w3 hown3 hg3 hb3 _
          have HO3 := Lib.hid hown3
          have HB3 := Lib.hid (HBw.out.trans hb3)
          clear hown3 hg3 hb3
          go_wp2_with fail
          go_roundw
          case rel => exact ⟨⟨_, HO3.out, .inr (.inr ⟨by go_num, rfl⟩)⟩, HB3.out⟩
          case measure => simp [intOf]
        · obtain ⟨rfl, rfl⟩ := h
          go_wp2_with fail
          go_ret
          exact ⟨⟨_, rfl, HO.out⟩, HBw.out⟩

set_option maxHeartbeats 1000000 in
theorem equal_any (xs ys : List Int) (A A' : Option Addr) (B B' c c' : Nat) (w : World) (hx : xs.length ≤ maxLen) (hA : Ints w B A xs) (hB : Ints w B' A' ys) :
    Calls Tryd.prog 43 #[.slice A xs.length c, .slice A' ys.length c'] w fun e w' => e = .returned (.bool (decide (xs = ys))) ∧ Below w.heap.size w w' := by
  unfold maxLen at hx
  by_cases hl : xs.length = ys.length
  · have t : ((xs.length : Int) != (ys.length : Int)) = false := by simp; omega
    have HA := Lib.hid hA
    have HB := Lib.hid hB
    have HLN := Lib.hid hl
    have hyl : ys.length ≤ xs.length := by omega
    have hxl : xs.length ≤ ys.length := by omega
    clear hA hB hl
    go_enter Tryd.func43, Tryd.ntmps43
    go_wp2
    go_loopw [13] (fun i wr => ∃ k q : Nat, k ≤ xs.length ∧ i = .int .i64 k ∧ wr = w.drewN q ∧ ∀ j, j < k → xs.getD j 0 = ys.getD j 0) (fun i _ => xs.length - (intOf i).toNat)
    case atStart => exact ⟨0, 0, Nat.zero_le _, rfl, rfl, fun j hj => by omega⟩
    case round =>
      obtain ⟨k, q, hk, rfl, rfl, hs⟩ := hrel
      have HS := Lib.hid hs
      clear hs
      by_cases hlt : k < xs.length
      · have hlt' : k < ys.length := by omega
        obtain ⟨b, off, rfl, hb, hc⟩ := Ints.cells HA.out hlt
        obtain ⟨b', off', rfl, hb', hd⟩ := Ints.cells HB.out hlt'
        have ck := hc k hlt
        have dk := hd k hlt'
        clear hc hd
        have hk0 : (0 : Int) ≤ (k : Int) := by omega
        have hk1 : (k : Int) < (xs.length : Int) := by omega
        have hk1' : (k : Int) < (ys.length : Int) := by omega
        have hk2 : ((k : Int)).toNat = k := by omega
        by_cases he : xs.getD k 0 = ys.getD k 0
        · have HE := Lib.hid he
          rw [he] at ck
          generalize ys.getD k 0 = y at ck dk
          clear he
          have t2 : (y != y) = false := by simp
          go_wp2_with fail
          go_quiet (fail)
          go_wp2_with fail
          go_roundw
          case rel => exact ⟨k + 1, _, by omega, by go_num, rfl, fun j hj => by
            by_cases e : j = k
            · subst e; exact HE.out
            · exact HS.out j (by omega)⟩
          case measure => simp [intOf]; omega
        · have H := Lib.hid (show decide (xs = ys) = false from decide_eq_false (fun h => he (by rw [h])))
          generalize xs.getD k 0 = x at ck he
          generalize ys.getD k 0 = y at dk he
          have t2 : (x != y) = true := by simp [bne, he]
          clear he
          go_wp2_with fail
          go_quiet (fail)
          go_wp2_with fail
          go_ret
          exact ⟨ret_bool (by rw [H.out]), below_draws (below_draws (Below.refl _ _) q) _⟩
      · have H := Lib.hid (show decide (xs = ys) = true from decide_eq_true (by
          apply List.ext_getElem HLN.out
          intro j h1 h2
          have := HS.out j (by omega)
          simpa [List.getD, h1, h2] using this))
        go_wp2
        go_ret
        exact ⟨ret_bool (by rw [H.out]), below_draws (Below.refl _ _) q⟩
  · have t : ((xs.length : Int) != (ys.length : Int)) = true := by simp; omega
    have H := Lib.hid (show decide (xs = ys) = false from decide_eq_false (fun h => hl (by rw [h])))
    clear hl hA hB
    go_enter Tryd.func43, Tryd.ntmps43
    go_wp2
    go_ret
    exact ⟨ret_bool (by rw [H.out]), Below.refl _ _⟩

set_option maxHeartbeats 1000000 in
theorem sameInts_any (xs ys : List Int) (A A' : Option Addr) (B B' c c' : Nat) (w : World) (hx : xs.length ≤ maxLen) (hA : Ints w B A xs) (hB : Ints w B' A' ys) :
    Calls Tryd.prog 50 #[.slice A xs.length c, .slice A' ys.length c'] w fun e w' => e = .returned (.bool (decide (xs = ys))) ∧ Below w.heap.size w w' := by
  unfold maxLen at hx
  by_cases hl : xs.length = ys.length
  · have t : ((xs.length : Int) != (ys.length : Int)) = false := by simp; omega
    have HA := Lib.hid hA
    have HB := Lib.hid hB
    have HLN := Lib.hid hl
    have hyl : ys.length ≤ xs.length := by omega
    have hxl : xs.length ≤ ys.length := by omega
    clear hA hB hl
    go_enter Tryd.func50, Tryd.ntmps50
    go_wp2
    go_loopw [5] (fun i wr => ∃ k q : Nat, k ≤ xs.length ∧ i = .int .i64 k ∧ wr = w.drewN q ∧ ∀ j, j < k → xs.getD j 0 = ys.getD j 0) (fun i _ => xs.length - (intOf i).toNat)
    case atStart => exact ⟨0, 0, Nat.zero_le _, rfl, rfl, fun j hj => by omega⟩
    case round =>
      obtain ⟨k, q, hk, rfl, rfl, hs⟩ := hrel
      have HS := Lib.hid hs
      clear hs
      by_cases hlt : k < xs.length
      · have hlt' : k < ys.length := by omega
        obtain ⟨b, off, rfl, hb, hc⟩ := Ints.cells HA.out hlt
        obtain ⟨b', off', rfl, hb', hd⟩ := Ints.cells HB.out hlt'
        have ck := hc k hlt
        have dk := hd k hlt'
        clear hc hd
        have hk0 : (0 : Int) ≤ (k : Int) := by omega
        have hk1 : (k : Int) < (xs.length : Int) := by omega
        have hk1' : (k : Int) < (ys.length : Int) := by omega
        have hk2 : ((k : Int)).toNat = k := by omega
        by_cases he : xs.getD k 0 = ys.getD k 0
        · have HE := Lib.hid he
          rw [he] at ck
          generalize ys.getD k 0 = y at ck dk
          clear he
          have t2 : (y != y) = false := by simp
          go_wp2_with fail
          go_quiet (fail)
          go_wp2_with fail
          go_roundw
          case rel => exact ⟨k + 1, _, by omega, by go_num, rfl, fun j hj => by
            by_cases e : j = k
            · subst e; exact HE.out
            · exact HS.out j (by omega)⟩
          case measure => simp [intOf]; omega
        · have H := Lib.hid (show decide (xs = ys) = false from decide_eq_false (fun h => he (by rw [h])))
          generalize xs.getD k 0 = x at ck he
          generalize ys.getD k 0 = y at dk he
          have t2 : (x != y) = true := by simp [bne, he]
          clear he
          go_wp2_with fail
          go_quiet (fail)
          go_wp2_with fail
          go_ret
          exact ⟨ret_bool (by rw [H.out]), below_draws (below_draws (Below.refl _ _) q) _⟩
      · have H := Lib.hid (show decide (xs = ys) = true from decide_eq_true (by
          apply List.ext_getElem HLN.out
          intro j h1 h2
          have := HS.out j (by omega)
          simpa [List.getD, h1, h2] using this))
        go_wp2
        go_ret
        exact ⟨ret_bool (by rw [H.out]), below_draws (Below.refl _ _) q⟩
  · have t : ((xs.length : Int) != (ys.length : Int)) = true := by simp; omega
    have H := Lib.hid (show decide (xs = ys) = false from decide_eq_false (fun h => hl (by rw [h])))
    clear hl hA hB
    go_enter Tryd.func50, Tryd.ntmps50
    go_wp2
    go_ret
    exact ⟨ret_bool (by rw [H.out]), Below.refl _ _⟩

end Go.Proofs.YthnhacncnhknnaaDoor

/-
  Graphs: Valid, of the program and the reference.
-/
namespace Go.Proofs.YthnhacncnhknnaaDoor
open Go.RowKit

abbrev edv (x : Ed) : Value := .agg #[.int .i64 x.ty, .int .i64 x.fr, .int .i64 x.tq]
theorem edB_and (x : Ed) (n : Nat) : edB x n = (idxB x.ty 100 && idxB x.fr n && idxB x.tq n) := rfl

set_option maxHeartbeats 1000000 in
theorem isEdge_any (x : Ed) (An : Option Addr) (n cn : Nat) (Ae : Option Addr) (m ce : Nat) (w : World) :
    Calls Tryd.prog 92 #[gval An n cn Ae m ce, edv x] w fun e w' => e = .returned (.bool (edB x n)) ∧ Below w.heap.size w w' := by
  have HX := Lib.hid (edB_and x n)
  have H1 : Hid (∀ u, Calls Tryd.prog 77 #[.int .i64 x.ty, .int .i64 100] u fun e w' => e = .returned (.bool (idxB x.ty 100)) ∧ u = w') := Lib.hid fun u => isIndex_any x.ty 100 u
  have H2 := Lib.hid (fun u => isIndex_any x.fr n u)
  have H3 := Lib.hid (fun u => isIndex_any x.tq n u)
  have HB : Hid (∀ o o', Below w.heap.size w ((w.alloc o).alloc o')) := Lib.hid fun o o' => ((Below.refl _ _).alloc (Nat.le_refl _) _).alloc (by simp) _
  obtain ⟨ty, fr, tq⟩ := x
  dsimp only at H1 H2 H3 HX ⊢
  generalize edB ⟨ty, fr, tq⟩ n = z at HX ⊢
  generalize idxB ty 100 = z1 at HX H1
  generalize idxB fr n = z2 at HX H2
  generalize idxB tq n = z3 at HX H3
  go_enter Tryd.func92, Tryd.ntmps92
  go_wp2_with fail
  refine (H1.out _).mono ?_
  rintro e w' ⟨rfl, rfl⟩
  cases z1
  · go_wp2_with fail
    go_ret
    exact ⟨ret_bool (by rw [HX.out]; rfl), HB.out _ _⟩
  · go_wp2_with fail
    refine (H2.out _).mono ?_
    rintro e w' ⟨rfl, rfl⟩
    cases z2
    · go_wp2_with fail
      go_ret
      exact ⟨ret_bool (by rw [HX.out]; rfl), HB.out _ _⟩
    · go_wp2_with fail
      refine (H3.out _).mono ?_
      rintro e w' ⟨rfl, rfl⟩
      go_wp2_with fail
      go_ret
      exact ⟨ret_bool (by rw [HX.out]; rfl), HB.out _ _⟩

set_option maxHeartbeats 1000000 in
theorem right_any (x : Ed) (n : Nat) (w : World) :
    Calls Tryd.prog 65 #[edv x, .int .i64 (n : Int)] w fun e w' => e = .returned (.bool (edB x n)) ∧ Below w.heap.size w w' := by
  have HX := Lib.hid (edB_and x n)
  have H1 : Hid (∀ u, Calls Tryd.prog 64 #[.int .i64 x.ty] u fun e w' => e = .returned (.bool (idxB x.ty 100)) ∧ u = w') := Lib.hid fun u => kind_any x.ty u
  have H2 : Hid (idxB x.fr n = (decide (0 ≤ x.fr) && decide (x.fr < (n : Int)))) := Lib.hid rfl
  have H3 : Hid (idxB x.tq n = (decide (0 ≤ x.tq) && decide (x.tq < (n : Int)))) := Lib.hid rfl
  have HB : Hid (∀ o, Below w.heap.size w (w.alloc o)) := Lib.hid fun o => (Below.refl _ _).alloc (Nat.le_refl _) _
  obtain ⟨ty, fr, tq⟩ := x
  dsimp only at H1 H2 H3 HX ⊢
  generalize edB ⟨ty, fr, tq⟩ n = z at HX ⊢
  generalize idxB ty 100 = z1 at HX H1
  cases z1
  · go_enter Tryd.func65, Tryd.ntmps65
    go_wp2_with fail
    refine (H1.out _).mono ?_
    rintro e w' ⟨rfl, rfl⟩
    go_wp2_with fail
    go_ret
    exact ⟨ret_bool (by rw [HX.out]; rfl), HB.out _⟩
  by_cases h1 : 0 ≤ fr
  case neg =>
    have t1 : decide (0 ≤ fr) = false := decide_eq_false h1
    rw [t1] at H2
    go_enter Tryd.func65, Tryd.ntmps65
    go_wp2_with fail
    refine (H1.out _).mono ?_
    rintro e w' ⟨rfl, rfl⟩
    go_wp2_with fail
    go_ret
    exact ⟨ret_bool (by rw [HX.out, H2.out]; rfl), HB.out _⟩
  by_cases h2 : fr < (n : Int)
  case neg =>
    have t1 : decide (0 ≤ fr) = true := decide_eq_true h1
    have t2 : decide (fr < (n : Int)) = false := decide_eq_false h2
    rw [t1, t2] at H2
    go_enter Tryd.func65, Tryd.ntmps65
    go_wp2_with fail
    refine (H1.out _).mono ?_
    rintro e w' ⟨rfl, rfl⟩
    go_wp2_with fail
    go_ret
    exact ⟨ret_bool (by rw [HX.out, H2.out]; rfl), HB.out _⟩
  by_cases h3 : 0 ≤ tq
  case neg =>
    have t1 : decide (0 ≤ fr) = true := decide_eq_true h1
    have t2 : decide (fr < (n : Int)) = true := decide_eq_true h2
    have t3 : decide (0 ≤ tq) = false := decide_eq_false h3
    rw [t1, t2] at H2
    rw [t3] at H3
    go_enter Tryd.func65, Tryd.ntmps65
    go_wp2_with fail
    refine (H1.out _).mono ?_
    rintro e w' ⟨rfl, rfl⟩
    go_wp2_with fail
    go_ret
    exact ⟨ret_bool (by rw [HX.out, H2.out, H3.out]; rfl), HB.out _⟩
  have t1 : decide (0 ≤ fr) = true := decide_eq_true h1
  have t2 : decide (fr < (n : Int)) = true := decide_eq_true h2
  have t3 : decide (0 ≤ tq) = true := decide_eq_true h3
  rw [t1, t2] at H2
  rw [t3] at H3
  go_enter Tryd.func65, Tryd.ntmps65
  go_wp2_with fail
  refine (H1.out _).mono ?_
  rintro e w' ⟨rfl, rfl⟩
  go_wp2_with fail
  go_ret
  exact ⟨ret_bool (by rw [HX.out, H2.out, H3.out]; rfl), HB.out _⟩

set_option maxRecDepth 100000 in
set_option maxHeartbeats 2000000 in
theorem validP_any (g : Gr) (An : Option Addr) (cn : Nat) (Ae : Option Addr) (ce : Nat) (w : World) (hT : GrAt w An cn Ae ce g) :
    Calls Tryd.prog 68 #[gval An g.ns.length cn Ae g.es.length ce] w fun e w' => e = .returned (.int .i64 (validE g)) ∧ Below w.heap.size w w' := by
  have hn1 := hT.cn
  have he1 := hT.ce
  unfold maxLen at hn1 he1
  have HT := Lib.hid hT
  have HL := Lib.hid (fun h => valid_long (g := g) h)
  have HN := Lib.hid (fun h1 h2 i hi h => valid_node (g := g) h1 h2 (i := i) hi h)
  have HE := Lib.hid (fun h1 h2 i hi h => valid_edge (g := g) h1 h2 (i := i) hi h)
  have HO := Lib.hid (fun h1 h2 h3 h4 => valid_ok (g := g) h1 h2 h3 h4)
  clear hT
  generalize validE g = R at HL HN HE HO ⊢
  by_cases h40 : 40 < g.ns.length
  · have HR := Lib.hid (HL.out (.inl h40))
    have t1 : decide (40 < (g.ns.length : Int)) = true := decide_eq_true (by omega)
    go_enter Tryd.func68, Tryd.ntmps68
    go_wp2_with fail
    go_ret
    exact ⟨ret_int (by rw [HR.out]; rfl), (Below.refl _ _).alloc (Nat.le_refl _) _⟩
  by_cases h80 : 80 < g.es.length
  · have HR := Lib.hid (HL.out (.inr h80))
    have t1 : decide (40 < (g.ns.length : Int)) = false := decide_eq_false (by omega)
    have t2 : decide (80 < (g.es.length : Int)) = true := decide_eq_true (by omega)
    go_enter Tryd.func68, Tryd.ntmps68
    go_wp2_with fail
    go_ret
    exact ⟨ret_int (by rw [HR.out]; rfl), (Below.refl _ _).alloc (Nat.le_refl _) _⟩
  have n40 : g.ns.length ≤ 40 := by omega
  have n80 : g.es.length ≤ 80 := by omega
  have HN' := Lib.hid (HN.out n40 n80)
  have HE' := Lib.hid (HE.out n40 n80)
  have HO' := Lib.hid (HO.out n40 n80)
  clear HL HN HE HO
  have t1 : decide (40 < (g.ns.length : Int)) = false := decide_eq_false (by omega)
  have t2 : decide (80 < (g.es.length : Int)) = false := decide_eq_false (by omega)
  clear h40 h80
  go_enter Tryd.func68, Tryd.ntmps68
  go_wp2_with fail
  clear t1 t2
  go_loop [20] (fun i => ∃ k : Nat, k ≤ g.ns.length ∧ i = .int .i64 k ∧ ∀ j, j < k → idxB (g.ns.getD j 0) 100 = true) (fun i => g.ns.length - (intOf i).toNat)
  case atStart => exact ⟨0, Nat.zero_le _, rfl, fun j hj => by omega⟩
  case round =>
    obtain ⟨k, hk, rfl, hok⟩ := hrel
    have HK := Lib.hid hok
    clear hok
    by_cases hlt : k < g.ns.length
    · obtain ⟨b, off, rfl, hb, hc⟩ := Ints.cells HT.out.ns hlt
      have ck := hc k hlt
      have HC : Hid (∀ u, Calls Tryd.prog 77 #[.int .i64 (g.ns.getD k 0), .int .i64 100] u fun e w' => e = .returned (.bool (idxB (g.ns.getD k 0) 100)) ∧ u = w') := Lib.hid fun u => isIndex_any _ 100 u
      clear hc
      by_cases h1 : idxB (g.ns.getD k 0) 100 = true
      · have HK2 : Hid (∀ j, j < k + 1 → idxB (g.ns.getD j 0) 100 = true) := Lib.hid fun j hj => by
          by_cases e : j = k
          · subst e; exact h1
          · exact HK.out j (by omega)
        rw [h1] at HC
        clear h1
        generalize g.ns.getD k 0 = x at ck HC
        go_wp2_with fail
        refine (HC.out _).mono ?_
        rintro e w' ⟨rfl, rfl⟩
        go_wp2_with fail
        go_round
        case rel => exact ⟨k + 1, by omega, by go_num, HK2.out⟩
        case measure => simp [intOf]; omega
      · have h1' : idxB (g.ns.getD k 0) 100 = false := by simpa using h1
        have HR := Lib.hid (HN'.out k hlt h1')
        rw [h1'] at HC
        clear h1 h1'
        generalize g.ns.getD k 0 = x at ck HC
        go_wp2_with fail
        refine (HC.out _).mono ?_
        rintro e w' ⟨rfl, rfl⟩
        go_wp2_with fail
        go_ret
        exact ⟨ret_int (by rw [HR.out]; rfl), (Below.refl _ _).alloc (Nat.le_refl _) _⟩
    · have HO2 := Lib.hid (HO'.out fun i hi => HK.out i (by omega))
      clear HO' HK
      go_wp2_with fail
      go_loopw [31] (fun i wr => ∃ k : Nat, k ≤ g.es.length ∧ i = .int .i64 k ∧ (∀ j, j < k → edB (g.es.getD j default) g.ns.length = true) ∧ Below (w.heap.size + 1) (w.alloc (.cells #[.slice An g.ns.length cn, .slice Ae g.es.length ce] 25 (0, 0))) wr) (fun i _ => g.es.length - (intOf i).toNat)
      case atStart => exact ⟨0, Nat.zero_le _, rfl, fun j hj => by omega, Below.refl _ _⟩
      case round =>
        obtain ⟨k, hk, rfl, hok, hbel⟩ := hrel
        obtain ⟨c0, c1⟩ := box_cell hbel
        have hsz : w.heap.size + 1 ≤ wr.heap.size := by have := hbel.size; simpa using this
        have hs0 : w.heap.size < wr.heap.size := by omega
        have HB := Lib.hid hbel
        have HK := Lib.hid hok
        clear hok hbel
        by_cases hlt : k < g.es.length
        · obtain ⟨b, off, rfl, hb, hc⟩ := Eds.cells (HT.out.es.below (box_below HB.out)) hlt
          obtain ⟨k0, k1, k2⟩ := hc k hlt
          have HC := Lib.hid (fun u => isEdge_any (g.es.getD k default) An g.ns.length cn (some ⟨b, off, none⟩) g.es.length ce u)
          have hbw : b < wr.heap.size := by omega
          clear hc
          by_cases h1 : edB (g.es.getD k default) g.ns.length = true
          · have HK2 : Hid (∀ j, j < k + 1 → edB (g.es.getD j default) g.ns.length = true) := Lib.hid fun j hj => by
              by_cases e : j = k
              · subst e; exact h1
              · exact HK.out j (by omega)
            rw [h1] at HC
            clear h1
            generalize g.es.getD k default = x at k0 k1 k2 HC
            go_wp2_with fail
            refine (HC.out _).mono ?_
            rintro e w2 ⟨rfl, hb2⟩
            have HB2 := Lib.hid ((HB.out.alloc hsz _).trans (hb2.mono (by simp; omega)))
            clear hb2
            go_wp2_with fail
            go_roundw
            case rel => exact ⟨k + 1, by omega, by go_num, HK2.out, HB2.out⟩
            case measure => simp [intOf]; omega
          · have h1' : edB (g.es.getD k default) g.ns.length = false := by simpa using h1
            have HR := Lib.hid (HE'.out k hlt h1')
            rw [h1'] at HC
            clear h1 h1'
            generalize g.es.getD k default = x at k0 k1 k2 HC
            go_wp2_with fail
            refine (HC.out _).mono ?_
            rintro e w2 ⟨rfl, hb2⟩
            have HB2 := Lib.hid ((HB.out.alloc hsz _).trans (hb2.mono (by simp; omega)))
            clear hb2
            go_wp2_with fail
            go_ret
            exact ⟨ret_int (by rw [HR.out]; rfl), box_below HB2.out⟩
        · have HR := Lib.hid (HO2.out fun i hi => HK.out i (by omega))
          go_wp2_with fail
          go_ret
          exact ⟨ret_int (by rw [HR.out]; rfl), box_below HB.out⟩

end Go.Proofs.YthnhacncnhknnaaDoor
