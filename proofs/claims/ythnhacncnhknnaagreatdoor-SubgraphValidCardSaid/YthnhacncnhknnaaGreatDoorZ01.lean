import Derived.Lib.TrailingZeros
import Derived.Test.YthnhacncnhknnaaGreatDoorProg
import Derived.WalkKit
import Derived.WalkSpells
import Derived.WalkLawsBesides
import Derived.Lib.Hide
import Derived.BigQuiet
import Derived.Deep.QuietTactic
import Derived.StillTailTactics
import Derived.IntWalk
import Derived.ArgAppend
import Derived.RangeFuncNested
import Derived.RangeFuncBound
import Derived.RangeFuncCalls
import Derived.RangeFuncLeaves
import Derived.Shelf.Spec.TrailingZeros
import Derived.OwnWalkIn
import Derived.Laws.StructEq
import Derived.Deep.MidRow
import Derived.Laws.Rows
import Derived.Shelf.Abstract
import Derived.Shelf.RegionOpen
import Derived.TacticsInMore
import Derived.LoopNIn
import Derived.LoopIn
import Derived.Sort.CutIn
import Derived.Deep.RegionHeld3
import Derived.Deep.AppendLies
import Derived.Deep.DeepCutAuto
import Derived.Deep.RegionLaw
import Derived.Deep.RegionLawGrows
/-
  Graphs as plain data: what the document's words say, without the program.
-/

namespace Go.Proofs.YthnhacncnhknnaaGreatDoor

structure Ed where
  ty : Int
  fr : Int
  tq : Int
deriving DecidableEq
instance : Inhabited Ed := ⟨⟨0, 0, 0⟩⟩
structure Gr where
  ns : List Int
  es : List Ed
deriving DecidableEq
structure Mo where
  ns : List Int
  es : List Int
deriving DecidableEq
instance : Inhabited Mo := ⟨⟨[], []⟩⟩

/-! lists that grow round by round -/
section
variable {β : Type}
def coll (f : Nat → List β) : Nat → List β
  | 0 => []
  | k + 1 => coll f k ++ f k
theorem coll_ext {f g : Nat → List β} {k : Nat} (h : ∀ i, i < k → f i = g i) : coll f k = coll g k := by
  induction k with
  | zero => rfl
  | succ k ih => simp only [coll]; rw [ih fun i hi => h i (by omega), h k (by omega)]
theorem coll_le {f : Nat → List β} (h : ∀ i, (f i).length ≤ 1) (k : Nat) : (coll f k).length ≤ k := by
  induction k with
  | zero => exact Nat.le_refl _
  | succ k ih => simp only [coll, List.length_append]; have := h k; omega
theorem coll_len (h : Nat → β) (k : Nat) : (coll (fun i => [h i]) k).length = k := by
  induction k with
  | zero => rfl
  | succ k ih => simp only [coll, List.length_append, ih, List.length_singleton]
theorem coll_get (h : Nat → β) {i k : Nat} (hi : i < k) : (coll (fun i => [h i]) k)[i]? = some (h i) := by
  induction k with
  | zero => omega
  | succ k ih =>
    simp only [coll]
    by_cases e : i < k
    · rw [List.getElem?_append_left (by rw [coll_len]; exact e)]; exact ih e
    · have : i = k := by omega
      subst this
      rw [List.getElem?_append_right (by rw [coll_len]; exact Nat.le_refl _), coll_len, Nat.sub_self]; rfl
theorem coll_getD (h : Nat → β) {i k : Nat} (hi : i < k) (d : β) : (coll (fun i => [h i]) k).getD i d = h i := by
  rw [List.getD_eq_getElem?_getD, coll_get h hi]; rfl
theorem coll_self (l : List β) (d : β) : coll (fun i => [l.getD i d]) l.length = l := by
  apply List.ext_getElem?
  intro i
  by_cases h : i < l.length
  · rw [coll_get _ h, List.getD_eq_getElem?_getD, List.getElem?_eq_getElem h]; rfl
  · rw [List.getElem?_eq_none (by rw [coll_len]; omega), List.getElem?_eq_none (by omega)]
theorem coll_map {γ : Type} (q : β → γ) (f : Nat → List β) (k : Nat) : (coll f k).map q = coll (fun i => (f i).map q) k := by
  induction k with
  | zero => rfl
  | succ k ih => simp only [coll, List.map_append, ih]
theorem coll_mem {f : Nat → List β} {k : Nat} {x : β} : x ∈ coll f k ↔ ∃ i, i < k ∧ x ∈ f i := by
  induction k with
  | zero => simp [coll]
  | succ k ih =>
    simp only [coll, List.mem_append, ih]
    constructor
    · rintro (⟨i, h1, h2⟩ | h)
      · exact ⟨i, by omega, h2⟩
      · exact ⟨k, by omega, h⟩
    · rintro ⟨i, h1, h2⟩
      by_cases e : i = k
      · subst e; exact .inr h2
      · exact .inl ⟨i, by omega, h2⟩
/-- the first k places are written, the others hold z -/
def pad (f : Nat → β) (z : β) (n k : Nat) : List β := coll (fun i => [f i]) k ++ List.replicate (n - k) z
theorem pad_len (f : Nat → β) (z : β) {n k : Nat} (h : k ≤ n) : (pad f z n k).length = n := by simp [pad, coll_len]; omega
theorem pad_zero (f : Nat → β) (z : β) (n : Nat) : pad f z n 0 = List.replicate n z := by simp [pad, coll]
theorem pad_all (f : Nat → β) (z : β) (n : Nat) : pad f z n n = coll (fun i => [f i]) n := by simp [pad]
theorem pad_set (f : Nat → β) (z : β) {n k : Nat} (h : k < n) : (pad f z n k).set k (f k) = pad f z n (k + 1) := by
  unfold pad
  rw [List.set_append_right _ _ (by rw [coll_len]; exact Nat.le_refl _), coll_len, Nat.sub_self]
  obtain ⟨m, hm⟩ : ∃ m, n - k = m + 1 := ⟨n - k - 1, by omega⟩
  rw [hm, show n - (k + 1) = m by omega, List.replicate_succ, List.set_cons_zero]
  simp [coll]
end

/-! the first error -/
def fstN (f : Nat → Nat) : Nat → Nat → Nat
  | _, 0 => 0
  | k, d + 1 => if f k ≠ 0 then f k else fstN f (k + 1) d
theorem fstN_hit {f : Nat → Nat} {k n : Nat} (h : k < n) (hf : f k ≠ 0) : fstN f k (n - k) = f k := by
  obtain ⟨d, e⟩ : ∃ d, n - k = d + 1 := ⟨n - k - 1, by omega⟩
  rw [e]; simp only [fstN]; rw [if_pos hf]
theorem fstN_pass {f : Nat → Nat} {k n : Nat} (h : k < n) (hf : f k = 0) : fstN f k (n - k) = fstN f (k + 1) (n - (k + 1)) := by
  obtain ⟨d, e⟩ : ∃ d, n - k = d + 1 := ⟨n - k - 1, by omega⟩
  rw [e, show n - (k + 1) = d by omega]; simp only [fstN]; rw [if_neg (by omega)]
theorem fstN_end {f : Nat → Nat} {k n : Nat} (h : n ≤ k) : fstN f k (n - k) = 0 := by
  rw [show n - k = 0 by omega]; rfl
theorem fstN_zero {f : Nat → Nat} : ∀ {d k : Nat}, fstN f k d = 0 → ∀ i, k ≤ i → i < k + d → f i = 0 := by
  intro d
  induction d with
  | zero => intro k _ i h1 h2; omega
  | succ d ih =>
    intro k h i h1 h2
    simp only [fstN] at h
    split at h
    · omega
    · rename_i hf
      by_cases e : i = k
      · subst e; omega
      · exact ih h i (by omega) (by omega)
theorem fstN_all {f : Nat → Nat} : ∀ {d k : Nat}, (∀ i, k ≤ i → i < k + d → f i = 0) → fstN f k d = 0 := by
  intro d
  induction d with
  | zero => intro k _; rfl
  | succ d ih =>
    intro k h
    simp only [fstN]
    rw [if_neg (fun e => e (h k (Nat.le_refl _) (by omega)))]
    exact ih fun i h1 h2 => h i (by omega) (by omega)

/-! errors of graphs -/
def idxB (i : Int) (n : Nat) : Bool := decide (0 ≤ i) && decide (i < (n : Int))
theorem idxB_iff {i : Int} {n : Nat} : idxB i n = true ↔ 0 ≤ i ∧ i < n := by simp [idxB]
theorem idxB_not {i : Int} {n : Nat} : idxB i n = false ↔ i < 0 ∨ (n : Int) ≤ i := by
  rw [← Bool.not_eq_true, idxB_iff]; omega
def edB (x : Ed) (n : Nat) : Bool := idxB x.ty 100 && idxB x.fr n && idxB x.tq n
theorem edB_iff {x : Ed} {n : Nat} : edB x n = true ↔ (0 ≤ x.ty ∧ x.ty < 100) ∧ (0 ≤ x.fr ∧ x.fr < n) ∧ (0 ≤ x.tq ∧ x.tq < n) := by
  simp only [edB, Bool.and_eq_true, idxB_iff]; omega
def validE (g : Gr) : Nat := if 40 < g.ns.length ∨ 80 < g.es.length then 3 else if g.ns.all (idxB · 100) && g.es.all (edB · g.ns.length) then 0 else 6
theorem valid_long {g : Gr} (h : 40 < g.ns.length ∨ 80 < g.es.length) : validE g = 3 := if_pos h
theorem valid_node {g : Gr} (h1 : g.ns.length ≤ 40) (h2 : g.es.length ≤ 80) {i : Nat} (hi : i < g.ns.length) (h : idxB (g.ns.getD i 0) 100 = false) : validE g = 6 := by
  unfold validE
  rw [if_neg (by omega), if_neg]
  intro hc
  rw [Bool.and_eq_true, List.all_eq_true] at hc
  have := hc.1 (g.ns.getD i 0) (by rw [List.getD_eq_getElem?_getD, List.getElem?_eq_getElem hi]; exact List.getElem_mem hi)
  rw [h] at this; cases this
theorem valid_edge {g : Gr} (h1 : g.ns.length ≤ 40) (h2 : g.es.length ≤ 80) {i : Nat} (hi : i < g.es.length) (h : edB (g.es.getD i default) g.ns.length = false) : validE g = 6 := by
  unfold validE
  rw [if_neg (by omega), if_neg]
  intro hc
  rw [Bool.and_eq_true, List.all_eq_true, List.all_eq_true] at hc
  have := hc.2 (g.es.getD i default) (by rw [List.getD_eq_getElem?_getD, List.getElem?_eq_getElem hi]; exact List.getElem_mem hi)
  rw [h] at this; cases this
theorem valid_ok {g : Gr} (h1 : g.ns.length ≤ 40) (h2 : g.es.length ≤ 80) (h3 : ∀ i, i < g.ns.length → idxB (g.ns.getD i 0) 100 = true) (h4 : ∀ i, i < g.es.length → edB (g.es.getD i default) g.ns.length = true) : validE g = 0 := by
  unfold validE
  rw [if_neg (by omega), if_pos]
  rw [Bool.and_eq_true, List.all_eq_true, List.all_eq_true]
  constructor
  · intro x hx
    obtain ⟨i, hi, rfl⟩ := List.mem_iff_getElem.1 hx
    have := h3 i hi
    rwa [List.getD_eq_getElem?_getD, List.getElem?_eq_getElem hi] at this
  · intro x hx
    obtain ⟨i, hi, rfl⟩ := List.mem_iff_getElem.1 hx
    have := h4 i hi
    rwa [List.getD_eq_getElem?_getD, List.getElem?_eq_getElem hi] at this
theorem valid_zero {g : Gr} (h : validE g = 0) : g.ns.length ≤ 40 ∧ g.es.length ≤ 80 ∧ (∀ x ∈ g.ns, 0 ≤ x ∧ x < 100) ∧ (∀ x ∈ g.es, edB x g.ns.length = true) := by
  unfold validE at h
  split at h
  · omega
  · split at h
    · rename_i h1 h2
      rw [Bool.and_eq_true, List.all_eq_true, List.all_eq_true] at h2
      exact ⟨by omega, by omega, fun x hx => idxB_iff.1 (h2.1 x hx), h2.2⟩
    · omega
theorem getD_mem {β : Type} {l : List β} {d : β} {i : Nat} (h : i < l.length) : l.getD i d ∈ l := by
  rw [List.getD_eq_getElem?_getD, List.getElem?_eq_getElem h]; exact List.getElem_mem h
theorem valid_at {g : Gr} (h : validE g = 0) {i : Nat} (hi : i < g.es.length) : (0 ≤ (g.es.getD i default).fr ∧ (g.es.getD i default).fr < g.ns.length) ∧ (0 ≤ (g.es.getD i default).tq ∧ (g.es.getD i default).tq < g.ns.length) :=
  (edB_iff.1 ((valid_zero h).2.2.2 _ (getD_mem hi))).2

/-- the ends of an edge -/
def frN (g : Gr) (i : Nat) : Nat := (g.es.getD i default).fr.toNat
def toN (g : Gr) (i : Nat) : Nat := (g.es.getD i default).tq.toNat

def noG : Gr := ⟨[], []⟩
def noM : Mo := ⟨[], []⟩
/-! Remove -/
def ascAt (l : List Int) (n k : Nat) : Nat := if idxB (l.getD k 0) n = false then 6 else if 0 < k ∧ l.getD k 0 ≤ l.getD (k - 1) 0 then 12 else 0
def ascE (l : List Int) (n : Nat) : Nat := fstN (ascAt l n) 0 l.length
def Asc (l : List Int) : Prop := l.Pairwise (· < ·)
theorem asc_of {l : List Int} (h : ∀ i, i + 1 < l.length → l.getD i 0 < l.getD (i + 1) 0) : Asc l := by
  induction l with
  | nil => exact List.Pairwise.nil
  | cons x r ih =>
    have hr : Asc r := ih fun i hi => by have := h (i + 1) (by simp; omega); simpa using this
    refine List.Pairwise.cons ?_ hr
    intro y hy
    cases r with
    | nil => simp at hy
    | cons z s =>
      have h0 : x < z := by have := h 0 (by simp); simpa using this
      rcases List.mem_cons.1 hy with rfl | hy
      · exact h0
      · have := List.rel_of_pairwise_cons hr hy; omega
theorem asc_zero {l : List Int} {n : Nat} (h : ascE l n = 0) : (∀ x ∈ l, 0 ≤ x ∧ x < n) ∧ Asc l := by
  have hz := fstN_zero h
  have hat : ∀ i, i < l.length → idxB (l.getD i 0) n = true ∧ ¬ (0 < i ∧ l.getD i 0 ≤ l.getD (i - 1) 0) := by
    intro i hi
    have := hz i (by omega) (by omega)
    unfold ascAt at this
    split at this
    · omega
    · split at this
      · omega
      · rename_i h1 h2; exact ⟨by simpa using h1, h2⟩
  constructor
  · intro x hx
    obtain ⟨i, hi, rfl⟩ := List.mem_iff_getElem.1 hx
    have := (hat i hi).1
    rw [List.getD_eq_getElem?_getD, List.getElem?_eq_getElem hi] at this
    exact idxB_iff.1 this
  · apply asc_of
    intro i hi
    have := (hat (i + 1) hi).2
    rw [Nat.add_sub_cancel] at this
    omega
theorem asc_mk {l : List Int} {n : Nat} (h1 : ∀ x ∈ l, 0 ≤ x ∧ x < n) (h2 : ∀ i, i + 1 < l.length → l.getD i 0 < l.getD (i + 1) 0) : ascE l n = 0 := by
  apply fstN_all
  intro i _ hi
  unfold ascAt
  rw [if_neg (by rw [idxB_iff.2 (h1 _ (getD_mem (by omega)))]; simp), if_neg]
  rintro ⟨h3, h4⟩
  have := h2 (i - 1) (by omega)
  rw [show i - 1 + 1 = i by omega] at this
  omega
def cntL (l : List Int) (i : Nat) : Nat := l.countP (fun x => decide (x < (i : Int)))
theorem cnt_zero {l : List Int} (h : ∀ x ∈ l, 0 ≤ x) : cntL l 0 = 0 := by
  unfold cntL
  rw [List.countP_eq_zero]
  intro x hx
  have := h x hx
  simp; omega
theorem cnt_none {l : List Int} {i : Nat} (h : ∀ x ∈ l, (i : Int) ≤ x) : cntL l i = 0 := by
  unfold cntL
  rw [List.countP_eq_zero]
  intro x hx
  have := h x hx
  simp; omega
theorem cnt_cons (x : Int) (r : List Int) (i : Nat) : cntL (x :: r) i = cntL r i + if x < (i : Int) then 1 else 0 := by
  unfold cntL
  rw [List.countP_cons]
  simp
theorem asc_at {l : List Int} (h : Asc l) (i : Nat) : l[cntL l i]? = some (i : Int) ↔ (i : Int) ∈ l := by
  induction l with
  | nil => simp
  | cons x r ih =>
    obtain ⟨h1, h2⟩ := List.pairwise_cons.1 h
    rw [cnt_cons]
    by_cases hx : x < (i : Int)
    · rw [if_pos hx, List.getElem?_cons_succ, ih h2, List.mem_cons]
      constructor
      · exact fun h => .inr h
      · rintro (h | h)
        · omega
        · exact h
    · rw [if_neg hx, Nat.add_zero, cnt_none fun y hy => by have := h1 y hy; omega, List.getElem?_cons_zero, List.mem_cons]
      constructor
      · intro h; injection h with h; exact .inl h.symm
      · rintro (h | h)
        · rw [h]
        · have := h1 _ h; omega
theorem cnt_succ {l : List Int} (h : Asc l) (i : Nat) : cntL l (i + 1) = cntL l i + if (i : Int) ∈ l then 1 else 0 := by
  induction l with
  | nil => simp [cntL]
  | cons x r ih =>
    obtain ⟨h1, h2⟩ := List.pairwise_cons.1 h
    rw [cnt_cons, cnt_cons, ih h2]
    by_cases hx : x = (i : Int)
    · subst hx
      have hn : ¬ (i : Int) ∈ r := fun hm => by have := h1 _ hm; omega
      rw [if_neg hn, if_pos (by omega), if_neg (by omega), if_pos (by simp)]
    · have em : ((i : Int) ∈ x :: r) ↔ (i : Int) ∈ r := by
        rw [List.mem_cons]
        exact ⟨fun h => h.elim (fun h => absurd h.symm hx) id, .inr⟩
      have ex : x < ((i + 1 : Nat) : Int) ↔ x < (i : Int) := by omega
      simp only [em, ex]
      exact Nat.add_right_comm _ _ _
theorem cnt_le {l : List Int} (h : Asc l) (h0 : ∀ x ∈ l, 0 ≤ x) (i : Nat) : cntL l i ≤ i := by
  induction i with
  | zero => rw [cnt_zero h0]; exact Nat.le_refl _
  | succ i ih => rw [cnt_succ h]; split <;> omega
/-- where an element is without those of l: -1 if it is one of them -/
def plc (l : List Int) (i : Nat) : Int := if (i : Int) ∈ l then -1 else (i : Int) - cntL l i
theorem plc_in {l : List Int} {i : Nat} (h : (i : Int) ∈ l) : plc l i = -1 := if_pos h
theorem plc_out {l : List Int} {i : Nat} (h : ¬ (i : Int) ∈ l) : plc l i = (i : Int) - cntL l i := if_neg h
theorem plc_nonneg {l : List Int} (h : Asc l) (h0 : ∀ x ∈ l, 0 ≤ x) {i : Nat} : 0 ≤ plc l i ↔ ¬ (i : Int) ∈ l := by
  constructor
  · intro h1 h2; rw [plc_in h2] at h1; omega
  · intro h1; rw [plc_out h1]; have := cnt_le h h0 i; omega
def dangB (g : Gr) (vs xs : List Int) (i : Nat) : Bool := !decide ((i : Int) ∈ xs) && (decide ((g.es.getD i default).fr ∈ vs) || decide ((g.es.getD i default).tq ∈ vs))
def dangAt (g : Gr) (vs xs : List Int) (i : Nat) : Nat := if dangB g vs xs i then 14 else 0
def remE (g : Gr) (vs xs : List Int) : Nat := if validE g ≠ 0 then validE g else if ascE vs g.ns.length ≠ 0 then ascE vs g.ns.length else if ascE xs g.es.length ≠ 0 then ascE xs g.es.length else fstN (dangAt g vs xs) 0 g.es.length
def remNs (g : Gr) (vs : List Int) (k : Nat) : List Int := coll (fun i => if (i : Int) ∈ vs then [] else [g.ns.getD i 0]) k
def mvd (g : Gr) (vs : List Int) (i : Nat) : Ed := ⟨(g.es.getD i default).ty, plc vs (frN g i), plc vs (toN g i)⟩
def remEs (g : Gr) (vs xs : List Int) (k : Nat) : List Ed := coll (fun i => if (i : Int) ∈ xs then [] else [mvd g vs i]) k
def remG (g : Gr) (vs xs : List Int) : Gr := if remE g vs xs = 0 then ⟨remNs g vs g.ns.length, remEs g vs xs g.es.length⟩ else noG
def plcs (l : List Int) (n : Nat) : List Int := coll (fun i => [plc l i]) n
def remM (g : Gr) (vs xs : List Int) : Mo := if remE g vs xs = 0 then ⟨plcs vs g.ns.length, plcs xs g.es.length⟩ else noM
theorem rem_zero {g : Gr} {vs xs : List Int} (h : remE g vs xs = 0) : validE g = 0 ∧ ascE vs g.ns.length = 0 ∧ ascE xs g.es.length = 0 ∧ ∀ i, i < g.es.length → dangB g vs xs i = false := by
  unfold remE at h
  split at h
  · omega
  · split at h
    · omega
    · split at h
      · omega
      · rename_i h1 h2 h3
        refine ⟨by omega, by omega, by omega, fun i hi => ?_⟩
        have := fstN_zero h i (by omega) (by omega)
        unfold dangAt at this
        split at this
        · omega
        · rename_i h4; simpa using h4
/-! Union, Incident -/
end Go.Proofs.YthnhacncnhknnaaGreatDoor

/-
  Partitions as plain lists of numbers (stage 2's texts): what the document's words say, and quotients.
-/

namespace Go.Proofs.YthnhacncnhknnaaGreatDoor.Pt


/-- the number at a place (0 beyond the end) -/
def at_ (p : List Nat) (i : Nat) : Nat := p.getD i 0

/-- p is a partition -/
def V (p : List Nat) : Prop := ∀ i, i < p.length → at_ p i ≤ i ∧ at_ p (at_ p i) = at_ p i

/-- p is finer than q -/
def F (p q : List Nat) : Prop := ∀ i, i < p.length → at_ q (at_ p i) = at_ q i

theorem at_map {p : List Nat} {f : Nat → Nat} {i : Nat} (h : i < p.length) : at_ (p.map f) i = f (at_ p i) := by simp [at_, List.getD, h]
theorem at_range {n i : Nat} (h : i < n) : at_ (List.range n) i = i := by simp [at_, List.getD, h]
theorem V.le {p : List Nat} (h : V p) {i : Nat} (hi : i < p.length) : at_ p i ≤ i := (h i hi).1
theorem V.lt {p : List Nat} (h : V p) {i : Nat} (hi : i < p.length) : at_ p i < p.length := Nat.lt_of_le_of_lt (h i hi).1 hi
theorem V.idem {p : List Nat} (h : V p) {i : Nat} (hi : i < p.length) : at_ p (at_ p i) = at_ p i := (h i hi).2

theorem V_range (n : Nat) : V (List.range n) := by
  intro i hi
  rw [List.length_range] at hi
  rw [at_range hi, at_range hi]
  exact ⟨Nat.le_refl _, rfl⟩

theorem F.refl {p : List Nat} (h : V p) : F p p := fun _ hi => h.idem hi
theorem F.trans {p q r : List Nat} (hp : V p) (hl : p.length = q.length) (h : F p q) (k : F q r) : F p r := by
  intro i hi
  have h1 := h i hi
  have h2 := k (at_ p i) (by rw [← hl]; exact hp.lt hi)
  have h3 := k i (by rw [← hl]; exact hi)
  rw [← h2, h1, h3]
theorem F.rel {p q : List Nat} (h : F p q) {i k : Nat} (hi : i < p.length) (hk : k < p.length) (e : at_ p i = at_ p k) : at_ q i = at_ q k := by
  rw [← h i hi, ← h k hk, e]
theorem F_range {n : Nat} {q : List Nat} : F (List.range n) q := by
  intro i hi
  rw [List.length_range] at hi
  rw [at_range hi]

/-- the classes of two elements joined -/
def mergeS (p : List Nat) (i k : Nat) : List Nat := p.map fun x => if x = max (at_ p i) (at_ p k) then min (at_ p i) (at_ p k) else x
theorem mergeS_length (p : List Nat) (i k : Nat) : (mergeS p i k).length = p.length := by simp [mergeS]
theorem at_merge {p : List Nat} {a b i : Nat} (hi : i < p.length) : at_ (mergeS p a b) i = if at_ p i = max (at_ p a) (at_ p b) then min (at_ p a) (at_ p b) else at_ p i := at_map hi

theorem V_merge {p : List Nat} (h : V p) {a b : Nat} (ha : a < p.length) (hb : b < p.length) : V (mergeS p a b) := by
  intro i hi
  rw [mergeS_length] at hi
  have hpa := h.idem ha
  have hpb := h.idem hb
  have hla := h.lt ha
  have hlb := h.lt hb
  have hle := h.le hi
  have hid := h.idem hi
  have hlt := h.lt hi
  by_cases he : at_ p i = max (at_ p a) (at_ p b)
  · have e1 : at_ (mergeS p a b) i = min (at_ p a) (at_ p b) := by rw [at_merge hi, if_pos he]
    rw [e1]
    refine ⟨by omega, ?_⟩
    have hm : at_ p (min (at_ p a) (at_ p b)) = min (at_ p a) (at_ p b) := by
      rcases Nat.le_total (at_ p a) (at_ p b) with h1 | h1
      · rw [Nat.min_eq_left h1, hpa]
      · rw [Nat.min_eq_right h1, hpb]
    rw [at_merge (by omega), hm]
    split <;> rfl
  · have e1 : at_ (mergeS p a b) i = at_ p i := by rw [at_merge hi, if_neg he]
    rw [e1]
    refine ⟨hle, ?_⟩
    rw [at_merge hlt, hid, if_neg he]

theorem F_merge {p : List Nat} (h : V p) (a b : Nat) : F p (mergeS p a b) := by
  intro i hi
  rw [at_merge (h.lt hi), at_merge hi, h.idem hi]

theorem merge_same {p : List Nat} {a b : Nat} (ha : a < p.length) (hb : b < p.length) : at_ (mergeS p a b) a = at_ (mergeS p a b) b := by
  rw [at_merge ha, at_merge hb]
  rcases Nat.lt_trichotomy (at_ p a) (at_ p b) with h | h | h
  · rw [if_neg (by omega), if_pos (by omega)]; omega
  · rw [h]
  · rw [if_pos (by omega), if_neg (by omega)]; omega

theorem merge_least {p q : List Nat} {a b : Nat} (ha : a < p.length) (hb : b < p.length) (hf : F p q) (hs : at_ q a = at_ q b) : F (mergeS p a b) q := by
  intro i hi
  rw [mergeS_length] at hi
  have h1 := hf i hi
  have h2 := hf a ha
  have h3 := hf b hb
  rw [at_merge hi]
  by_cases he : at_ p i = max (at_ p a) (at_ p b)
  · rw [if_pos he]
    rcases Nat.le_total (at_ p a) (at_ p b) with h4 | h4
    · rw [Nat.min_eq_left h4, h2, hs, ← h3, ← h1, he, Nat.max_eq_right h4]
    · rw [Nat.min_eq_right h4, h3, ← hs, ← h2, ← h1, he, Nat.max_eq_left h4]
  · rw [if_neg he, h1]

/-- the pairs of a list, joined one after another -/
def merges (p : List Nat) (l : List (Nat × Nat)) : List Nat := l.foldl (fun p x => mergeS p x.1 x.2) p
def inR (n : Nat) (l : List (Nat × Nat)) : Prop := ∀ x ∈ l, x.1 < n ∧ x.2 < n
def Resp (q : List Nat) (l : List (Nat × Nat)) : Prop := ∀ x ∈ l, at_ q x.1 = at_ q x.2

theorem merges_length (l : List (Nat × Nat)) : ∀ p, (merges p l).length = p.length := by
  induction l with
  | nil => intro p; rfl
  | cons x r ih => intro p; show (merges (mergeS p x.1 x.2) r).length = _; rw [ih, mergeS_length]
theorem merges_all (l : List (Nat × Nat)) : ∀ p, V p → inR p.length l →
    V (merges p l) ∧ F p (merges p l) ∧ Resp (merges p l) l ∧ ∀ q, F p q → Resp q l → F (merges p l) q := by
  induction l with
  | nil => intro p h _; exact ⟨h, F.refl h, fun x hx => by simp at hx, fun q hq _ => hq⟩
  | cons x r ih =>
    intro p h hi
    obtain ⟨h1, h2⟩ := hi x (by simp)
    have hv := V_merge h h1 h2
    have hi' : inR (mergeS p x.1 x.2).length r := by rw [mergeS_length]; exact fun y hy => hi y (by simp [hy])
    obtain ⟨k1, k2, k3, k4⟩ := ih _ hv hi'
    have e : merges p (x :: r) = merges (mergeS p x.1 x.2) r := rfl
    rw [e]
    refine ⟨k1, F.trans h (mergeS_length ..).symm (F_merge h _ _) k2, ?_, ?_⟩
    · intro y hy
      rcases List.mem_cons.1 hy with rfl | hy
      · exact k2.rel (by rw [mergeS_length]; exact h1) (by rw [mergeS_length]; exact h2) (merge_same h1 h2)
      · exact k3 y hy
    · intro q hq hr
      exact k4 q (merge_least h1 h2 hq (hr x (by simp))) (fun y hy => hr y (by simp [hy]))

/-- what pairs generate -/
def genS (n : Nat) (l : List (Nat × Nat)) : List Nat := merges (List.range n) l
theorem genS_length (n : Nat) (l : List (Nat × Nat)) : (genS n l).length = n := by unfold genS; rw [merges_length, List.length_range]
theorem V_gen {n : Nat} {l : List (Nat × Nat)} (h : inR n l) : V (genS n l) := (merges_all l _ (V_range n) (by rw [List.length_range]; exact h)).1
theorem gen_resp {n : Nat} {l : List (Nat × Nat)} (h : inR n l) : Resp (genS n l) l := (merges_all l _ (V_range n) (by rw [List.length_range]; exact h)).2.2.1
theorem gen_least {n : Nat} {l : List (Nat × Nat)} (h : inR n l) {q : List Nat} (hq : Resp q l) : F (genS n l) q := (merges_all l _ (V_range n) (by rw [List.length_range]; exact h)).2.2.2 q F_range hq

/-- the least elements below k -/
def fixsTo (p : List Nat) (k : Nat) : List Nat := (List.range k).filter fun j => at_ p j == j
end Go.Proofs.YthnhacncnhknnaaGreatDoor.Pt

/-
  Components as plain data: the classes of the ends, and the rounds of the reference, which come tq the same.
-/
namespace Go.Proofs.YthnhacncnhknnaaGreatDoor
open Pt (at_)

def endsL (g : Gr) : List (Nat × Nat) := g.es.map fun x => (x.fr.toNat, x.tq.toNat)
theorem endsL_len (g : Gr) : (endsL g).length = g.es.length := by simp [endsL]
theorem endsL_get {g : Gr} {i : Nat} (h : i < g.es.length) : (endsL g)[i]? = some (frN g i, toN g i) := by
  unfold endsL frN toN
  rw [List.getElem?_map, List.getD_eq_getElem?_getD, List.getElem?_eq_getElem h]; rfl
theorem ends_lt {g : Gr} (h : validE g = 0) {i : Nat} (hi : i < g.es.length) : frN g i < g.ns.length ∧ toN g i < g.ns.length := by
  obtain ⟨⟨h1, h2⟩, h3, h4⟩ := valid_at h hi
  unfold frN toN
  omega
theorem ends_inR {g : Gr} (h : validE g = 0) : Pt.inR g.ns.length (endsL g) := by
  intro x hx
  obtain ⟨i, hi, rfl⟩ := List.mem_iff_getElem.1 hx
  rw [endsL_len] at hi
  have := endsL_get hi
  rw [List.getElem?_eq_getElem (by rw [endsL_len]; exact hi)] at this
  injection this with this
  rw [this]
  exact ends_lt h hi
/-- the least node of each node's component -/
def lstS (g : Gr) : List Nat := Pt.genS g.ns.length (endsL g)
theorem lstS_len (g : Gr) : (lstS g).length = g.ns.length := Pt.genS_length _ _
theorem lstS_V {g : Gr} (h : validE g = 0) : Pt.V (lstS g) := Pt.V_gen (ends_inR h)
theorem lst_edge {g : Gr} (h : validE g = 0) {i : Nat} (hi : i < g.es.length) : at_ (lstS g) (frN g i) = at_ (lstS g) (toN g i) :=
  Pt.gen_resp (ends_inR h) (frN g i, toN g i) (List.mem_of_getElem? (endsL_get hi))

def ndsOf (L : List Nat) (n r : Nat) : List Int := coll (fun i => if at_ L i = r then [(i : Int)] else []) n
def edsOf (g : Gr) (L : List Nat) (m r : Nat) : List Int := coll (fun j => if at_ L (frN g j) = r then [(j : Int)] else []) m
def compTo (g : Gr) (L : List Nat) (k : Nat) : List Mo := (Pt.fixsTo L k).map fun r => ⟨ndsOf L g.ns.length r, edsOf g L g.es.length r⟩
def compR (g : Gr) : List Mo := if validE g = 0 then compTo g (lstS g) g.ns.length else []
/-! the rounds of the reference -/
end Go.Proofs.YthnhacncnhknnaaGreatDoor

/-
  Reordering as plain data: permutations, what lands where, and back.
-/
namespace Go.Proofs.YthnhacncnhknnaaGreatDoor

theorem getD_eq {l : List Int} {i : Nat} (h : i < l.length) : l.getD i 0 = l[i] := by rw [List.getD_eq_getElem?_getD, List.getElem?_eq_getElem h]; rfl
/-! what lands where -/
section
variable {β : Type}
end

/-! a step of the shuffle -/
end Go.Proofs.YthnhacncnhknnaaGreatDoor

/-
  Morphisms of graphs as plain data: their error, composition, what is injective and surjective, inverses. (Work ahead for stage 6; imports only plain texts of stage 5.)
-/
namespace Go.Proofs.YthnhacncnhknnaaGreatDoor

def mnAt (a b : Gr) (m : Mo) (i : Nat) : Nat := if idxB (m.ns.getD i 0) b.ns.length = false then 6 else if b.ns.getD (m.ns.getD i 0).toNat 0 ≠ a.ns.getD i 0 then 13 else 0
def meAt (a b : Gr) (m : Mo) (i : Nat) : Nat :=
  if idxB (m.es.getD i 0) b.es.length = false then 6
  else if (a.es.getD i default).ty ≠ (b.es.getD (m.es.getD i 0).toNat default).ty then 13
  else if m.ns.getD (a.es.getD i default).fr.toNat 0 ≠ (b.es.getD (m.es.getD i 0).toNat default).fr ∨ m.ns.getD (a.es.getD i default).tq.toNat 0 ≠ (b.es.getD (m.es.getD i 0).toNat default).tq then 11 else 0
def morE (a b : Gr) (m : Mo) : Nat :=
  if validE a ≠ 0 then validE a else if validE b ≠ 0 then validE b
  else if m.ns.length ≠ a.ns.length ∨ m.es.length ≠ a.es.length then 20
  else if fstN (mnAt a b m) 0 a.ns.length ≠ 0 then fstN (mnAt a b m) 0 a.ns.length
  else fstN (meAt a b m) 0 a.es.length
structure MorOk (a b : Gr) (m : Mo) : Prop where
  va : validE a = 0
  vb : validE b = 0
  ln : m.ns.length = a.ns.length
  le : m.es.length = a.es.length
  nd : ∀ i, i < a.ns.length → (0 ≤ m.ns.getD i 0 ∧ m.ns.getD i 0 < b.ns.length) ∧ b.ns.getD (m.ns.getD i 0).toNat 0 = a.ns.getD i 0
  ed : ∀ i, i < a.es.length → (0 ≤ m.es.getD i 0 ∧ m.es.getD i 0 < b.es.length) ∧ (a.es.getD i default).ty = (b.es.getD (m.es.getD i 0).toNat default).ty ∧
    m.ns.getD (a.es.getD i default).fr.toNat 0 = (b.es.getD (m.es.getD i 0).toNat default).fr ∧ m.ns.getD (a.es.getD i default).tq.toNat 0 = (b.es.getD (m.es.getD i 0).toNat default).tq
theorem mnAt_zero {a b : Gr} {m : Mo} {i : Nat} : mnAt a b m i = 0 ↔ (0 ≤ m.ns.getD i 0 ∧ m.ns.getD i 0 < b.ns.length) ∧ b.ns.getD (m.ns.getD i 0).toNat 0 = a.ns.getD i 0 := by
  unfold mnAt
  cases h : idxB (m.ns.getD i 0) b.ns.length with
  | false =>
    rw [if_pos rfl]
    have := idxB_not.1 h
    constructor
    · intro h; omega
    · rintro ⟨h, _⟩; omega
  | true =>
    rw [if_neg (by simp)]
    have := idxB_iff.1 h
    by_cases e : b.ns.getD (m.ns.getD i 0).toNat 0 = a.ns.getD i 0
    · rw [if_neg (fun h => h e)]; exact ⟨fun _ => ⟨this, e⟩, fun _ => rfl⟩
    · rw [if_pos e]; exact ⟨fun h => by omega, fun h => absurd h.2 e⟩
theorem meAt_zero {a b : Gr} {m : Mo} {i : Nat} : meAt a b m i = 0 ↔ (0 ≤ m.es.getD i 0 ∧ m.es.getD i 0 < b.es.length) ∧ (a.es.getD i default).ty = (b.es.getD (m.es.getD i 0).toNat default).ty ∧
    m.ns.getD (a.es.getD i default).fr.toNat 0 = (b.es.getD (m.es.getD i 0).toNat default).fr ∧ m.ns.getD (a.es.getD i default).tq.toNat 0 = (b.es.getD (m.es.getD i 0).toNat default).tq := by
  unfold meAt
  cases h : idxB (m.es.getD i 0) b.es.length with
  | false =>
    rw [if_pos rfl]
    have := idxB_not.1 h
    constructor
    · intro h; omega
    · rintro ⟨h, _⟩; omega
  | true =>
    rw [if_neg (by simp)]
    have := idxB_iff.1 h
    by_cases e : (a.es.getD i default).ty = (b.es.getD (m.es.getD i 0).toNat default).ty
    · rw [if_neg (fun h => h e)]
      by_cases e2 : m.ns.getD (a.es.getD i default).fr.toNat 0 ≠ (b.es.getD (m.es.getD i 0).toNat default).fr ∨ m.ns.getD (a.es.getD i default).tq.toNat 0 ≠ (b.es.getD (m.es.getD i 0).toNat default).tq
      · rw [if_pos e2]
        exact ⟨fun h => by omega, fun h => by rcases e2 with e2 | e2 <;> exact absurd (by first | exact h.2.2.1 | exact h.2.2.2) e2⟩
      · rw [if_neg e2]
        exact ⟨fun _ => ⟨this, e, Classical.byContradiction fun h => e2 (.inl h), Classical.byContradiction fun h => e2 (.inr h)⟩, fun _ => rfl⟩
    · rw [if_pos e]; exact ⟨fun h => by omega, fun h => absurd h.2.1 e⟩
theorem mor_zero {a b : Gr} {m : Mo} : morE a b m = 0 ↔ MorOk a b m := by
  unfold morE
  constructor
  · intro h
    split at h
    · omega
    · split at h
      · omega
      · split at h
        · omega
        · split at h
          · omega
          · rename_i h1 h2 h3 h4
            refine ⟨by omega, by omega, by omega, by omega, fun i hi => ?_, fun i hi => ?_⟩
            · exact mnAt_zero.1 (fstN_zero (Decidable.not_not.1 h4) i (Nat.zero_le _) (by omega))
            · exact meAt_zero.1 (fstN_zero h i (Nat.zero_le _) (by omega))
  · intro h
    have e1 : fstN (mnAt a b m) 0 a.ns.length = 0 := fstN_all fun i _ hi => mnAt_zero.2 (h.nd i (by omega))
    have e2 : fstN (meAt a b m) 0 a.es.length = 0 := fstN_all fun i _ hi => meAt_zero.2 (h.ed i (by omega))
    rw [h.va, h.vb, e1, e2]
    simp [h.ln, h.le]

/-! composition -/
def thr (l by_ : List Int) : List Int := l.map fun x => by_.getD x.toNat 0
theorem thr_len (l k : List Int) : (thr l k).length = l.length := by simp [thr]
theorem thr_get {l k : List Int} {i : Nat} (h : i < l.length) : (thr l k).getD i 0 = k.getD (l.getD i 0).toNat 0 := by
  unfold thr
  rw [List.getD_eq_getElem?_getD, List.getElem?_map, List.getElem?_eq_getElem h, getD_eq h]; rfl
def compM (m n : Mo) : Mo := ⟨thr m.ns n.ns, thr m.es n.es⟩
theorem comp_ok {a b c : Gr} {m n : Mo} (h : MorOk a b m) (k : MorOk b c n) : MorOk a c (compM m n) := by
  refine ⟨h.va, k.vb, by rw [show (compM m n).ns.length = m.ns.length from thr_len _ _]; exact h.ln, by rw [show (compM m n).es.length = m.es.length from thr_len _ _]; exact h.le, fun i hi => ?_, fun i hi => ?_⟩
  · obtain ⟨⟨h1, h2⟩, h3⟩ := h.nd i hi
    obtain ⟨k1, k3⟩ := k.nd (m.ns.getD i 0).toNat (by omega)
    have e : (compM m n).ns.getD i 0 = n.ns.getD (m.ns.getD i 0).toNat 0 := thr_get (by rw [h.ln]; exact hi)
    rw [e]
    exact ⟨k1, k3.trans h3⟩
  · obtain ⟨⟨h1, h2⟩, h3, h4, h5⟩ := h.ed i hi
    obtain ⟨k1, k3, k4, k5⟩ := k.ed (m.es.getD i 0).toNat (by omega)
    obtain ⟨⟨f1, f2⟩, f3, f4⟩ := valid_at h.va hi
    have e : (compM m n).es.getD i 0 = n.es.getD (m.es.getD i 0).toNat 0 := thr_get (by rw [h.le]; exact hi)
    have e1 : (compM m n).ns.getD (a.es.getD i default).fr.toNat 0 = n.ns.getD (m.ns.getD (a.es.getD i default).fr.toNat 0).toNat 0 := thr_get (by rw [h.ln]; omega)
    have e2 : (compM m n).ns.getD (a.es.getD i default).tq.toNat 0 = n.ns.getD (m.ns.getD (a.es.getD i default).tq.toNat 0).toNat 0 := thr_get (by rw [h.ln]; omega)
    rw [e, e1, e2, h4, h5]
    exact ⟨k1, h3.trans k3, k4, k5⟩
theorem MorOk.rn {a b : Gr} {m : Mo} (h : MorOk a b m) : ∀ x ∈ m.ns, 0 ≤ x ∧ x < b.ns.length := fun x hx => by
  obtain ⟨i, hi, rfl⟩ := List.mem_iff_getElem.1 hx
  have := (h.nd i (by rw [← h.ln]; exact hi)).1
  rwa [getD_eq hi] at this
theorem MorOk.re {a b : Gr} {m : Mo} (h : MorOk a b m) : ∀ x ∈ m.es, 0 ≤ x ∧ x < b.es.length := fun x hx => by
  obtain ⟨i, hi, rfl⟩ := List.mem_iff_getElem.1 hx
  have := (h.ed i (by rw [← h.le]; exact hi)).1
  rwa [getD_eq hi] at this
/-! injective, surjective -/
theorem nodup_iff {l : List Int} : l.Nodup ↔ ∀ i k, i < l.length → k < i → l.getD i 0 ≠ l.getD k 0 := by
  constructor
  · intro h i k hi hk e
    rw [getD_eq hi, getD_eq (by omega)] at e
    exact List.pairwise_iff_getElem.1 h k i (by omega) hi hk e.symm
  · intro h
    apply List.pairwise_iff_getElem.2
    intro i j hi hj hij e
    exact h j i hj hij (by rw [getD_eq hj, getD_eq hi]; exact e.symm)
/-! inverses -/
/-! what the laws about kinds ask of compositions -/
def InjM (m : Mo) : Prop := m.ns.Nodup ∧ m.es.Nodup
end Go.Proofs.YthnhacncnhknnaaGreatDoor

/-
  Parts of graphs as plain data (a part is a Mo: ns its nodes, es its edges): their error, the least part, union and intersection, the graph of a part, images and preimages, the boundary; what follows of it.
-/
namespace Go.Proofs.YthnhacncnhknnaaGreatDoor

/-! the numbers below n that a test names -/
def sel (f : Nat → Bool) (n : Nat) : List Int := coll (fun i => if f i = true then [(i : Int)] else []) n
theorem sel_mem {f : Nat → Bool} {n : Nat} {x : Int} : x ∈ sel f n ↔ ∃ i : Nat, i < n ∧ f i = true ∧ x = i := by
  unfold sel
  rw [coll_mem]
  constructor
  · rintro ⟨i, hi, h⟩
    by_cases hf : f i = true
    · rw [if_pos hf] at h; exact ⟨i, hi, hf, by simpa using h⟩
    · rw [if_neg hf] at h; simp at h
  · rintro ⟨i, hi, hf, rfl⟩; exact ⟨i, hi, by rw [if_pos hf]; simp⟩
theorem sel_has {f : Nat → Bool} {n i : Nat} : (i : Int) ∈ sel f n ↔ i < n ∧ f i = true := by
  rw [sel_mem]
  constructor
  · rintro ⟨k, h1, h2, e⟩; have : i = k := by omega
    subst this; exact ⟨h1, h2⟩
  · rintro ⟨h1, h2⟩; exact ⟨i, h1, h2, rfl⟩
theorem sel_rng {f : Nat → Bool} {n : Nat} : ∀ x ∈ sel f n, 0 ≤ x ∧ x < n := fun x hx => by
  obtain ⟨i, h1, _, rfl⟩ := sel_mem.1 hx
  omega
theorem sel_succ (f : Nat → Bool) (n : Nat) : sel f (n + 1) = sel f n ++ if f n = true then [(n : Int)] else [] := rfl
theorem sel_asc (f : Nat → Bool) (n : Nat) : Asc (sel f n) := by
  induction n with
  | zero => exact List.Pairwise.nil
  | succ n ih =>
    rw [sel_succ]
    unfold Asc
    rw [List.pairwise_append]
    refine ⟨ih, ?_, fun a ha b hb => ?_⟩
    · split
      · exact List.pairwise_singleton _ _
      · exact List.Pairwise.nil
    · have := sel_rng a ha
      split at hb
      · simp at hb; omega
      · simp at hb
theorem sel_le (f : Nat → Bool) (n : Nat) : (sel f n).length ≤ n := coll_le (fun i => by split <;> simp) n
theorem sel_ext {f g : Nat → Bool} {n : Nat} (h : ∀ i, i < n → f i = g i) : sel f n = sel g n := coll_ext fun i hi => by rw [h i hi]
/-- ascending lists with the same numbers are equal -/
theorem ascI_ext {l k : List Int} (h1 : Asc l) (h2 : Asc k) (h : ∀ x, x ∈ l ↔ x ∈ k) : l = k := by
  induction l generalizing k with
  | nil =>
    cases k with
    | nil => rfl
    | cons y s => exact absurd ((h y).2 List.mem_cons_self) (by simp)
  | cons x r ih =>
    cases k with
    | nil => exact absurd ((h x).1 List.mem_cons_self) (by simp)
    | cons y s =>
      have hx := List.pairwise_cons.1 h1
      have hy := List.pairwise_cons.1 h2
      have e : x = y := by
        have a := (h x).1 List.mem_cons_self
        have b := (h y).2 List.mem_cons_self
        rcases List.mem_cons.1 a with e | a
        · exact e
        · rcases List.mem_cons.1 b with e | b
          · exact e.symm
          · have := hx.1 y b; have := hy.1 x a; omega
      subst e
      refine congrArg (x :: ·) (ih hx.2 hy.2 fun z => ?_)
      have hz := h z
      simp only [List.mem_cons] at hz
      constructor
      · intro m
        rcases hz.1 (.inr m) with e | m'
        · subst e; exact absurd (hx.1 z m) (by omega)
        · exact m'
      · intro m
        rcases hz.2 (.inr m) with e | m'
        · subst e; exact absurd (hy.1 z m) (by omega)
        · exact m'
theorem sel_self {l : List Int} {n : Nat} (h : Asc l) (hr : ∀ x ∈ l, 0 ≤ x ∧ x < n) : sel (fun i => decide ((i : Int) ∈ l)) n = l := by
  refine ascI_ext (sel_asc _ _) h fun x => ?_
  rw [sel_mem]
  constructor
  · rintro ⟨i, _, h2, rfl⟩; exact of_decide_eq_true h2
  · intro hx
    have := hr x hx
    exact ⟨x.toNat, by omega, by rw [decide_eq_true_iff, show (x.toNat : Int) = x by omega]; exact hx, by omega⟩
theorem asc_eq_sel {l : List Int} {n : Nat} {f : Nat → Bool} (h : Asc l) (hr : ∀ x ∈ l, 0 ≤ x ∧ x < n) (hf : ∀ i : Nat, i < n → ((i : Int) ∈ l ↔ f i = true)) : l = sel f n := by
  rw [← sel_self h hr]
  refine sel_ext fun i hi => ?_
  rw [Bool.eq_iff_iff, decide_eq_true_iff]
  exact hf i hi
theorem asc_step {l : List Int} (h : Asc l) : ∀ i, i + 1 < l.length → l.getD i 0 < l.getD (i + 1) 0 := fun i hi => by
  rw [List.getD_eq_getElem?_getD, List.getD_eq_getElem?_getD, List.getElem?_eq_getElem (by omega), List.getElem?_eq_getElem hi]
  exact List.pairwise_iff_getElem.1 h i (i + 1) (by omega) hi (by omega)
theorem asc_iff {l : List Int} {n : Nat} : ascE l n = 0 ↔ (∀ x ∈ l, 0 ≤ x ∧ x < n) ∧ Asc l := ⟨asc_zero, fun h => asc_mk h.1 (asc_step h.2)⟩
theorem asc_nodup {l : List Int} (h : Asc l) : l.Nodup := h.imp fun h => by omega

/-! the error of a part -/
def pdAt (g : Gr) (p : Mo) (k : Nat) : Nat := if (g.es.getD (p.es.getD k 0).toNat default).fr ∈ p.ns ∧ (g.es.getD (p.es.getD k 0).toNat default).tq ∈ p.ns then 0 else 14
def rightE (g : Gr) (p : Mo) : Nat := if ascE p.ns g.ns.length ≠ 0 then ascE p.ns g.ns.length else if ascE p.es g.es.length ≠ 0 then ascE p.es g.es.length else fstN (pdAt g p) 0 p.es.length
def partE (g : Gr) (p : Mo) : Nat := if validE g ≠ 0 then validE g else rightE g p
structure PartOk (g : Gr) (p : Mo) : Prop where
  an : Asc p.ns
  rn : ∀ x ∈ p.ns, 0 ≤ x ∧ x < g.ns.length
  ae : Asc p.es
  re : ∀ x ∈ p.es, 0 ≤ x ∧ x < g.es.length
  dn : ∀ i : Nat, (i : Int) ∈ p.es → (g.es.getD i default).fr ∈ p.ns ∧ (g.es.getD i default).tq ∈ p.ns
theorem right_zero {g : Gr} {p : Mo} : rightE g p = 0 ↔ PartOk g p := by
  unfold rightE
  constructor
  · intro h
    split at h
    · omega
    · split at h
      · omega
      · rename_i h1 h2
        obtain ⟨r1, a1⟩ := asc_zero (l := p.ns) (n := g.ns.length) (by omega)
        obtain ⟨r2, a2⟩ := asc_zero (l := p.es) (n := g.es.length) (by omega)
        refine ⟨a1, r1, a2, r2, fun i hi => ?_⟩
        obtain ⟨k, hk, e⟩ := List.mem_iff_getElem.1 hi
        have hz := fstN_zero h k (by omega) (by omega)
        unfold pdAt at hz
        rw [List.getD_eq_getElem?_getD (l := p.es), List.getElem?_eq_getElem hk, Option.getD_some, e, Int.toNat_natCast] at hz
        split at hz
        · assumption
        · omega
  · intro h
    rw [if_neg (by rw [asc_iff.2 ⟨h.rn, h.an⟩]; simp), if_neg (by rw [asc_iff.2 ⟨h.re, h.ae⟩]; simp)]
    apply fstN_all
    intro i _ hi
    have hm := getD_mem (l := p.es) (d := 0) (i := i) (by omega)
    have hr := h.re _ hm
    unfold pdAt
    rw [if_pos (h.dn _ (by rw [show ((p.es.getD i 0).toNat : Int) = p.es.getD i 0 by omega]; exact hm))]
theorem part_zero {g : Gr} {p : Mo} : partE g p = 0 ↔ validE g = 0 ∧ PartOk g p := by
  unfold partE
  rw [← right_zero]
  split
  · rename_i h; exact ⟨fun e => absurd e h, fun e => absurd e.1 h⟩
  · rename_i h; exact ⟨fun e => ⟨by omega, e⟩, fun e => e.2⟩

/-! the least part with some elements -/
def touch (g : Gr) (eb : Nat → Bool) (i : Nat) : Bool := (List.range g.es.length).any fun e => eb e && (decide (frN g e = i) || decide (toN g e = i))
theorem touch_iff {g : Gr} {eb : Nat → Bool} {i : Nat} : touch g eb i = true ↔ ∃ e, e < g.es.length ∧ eb e = true ∧ (frN g e = i ∨ toN g e = i) := by
  unfold touch
  simp [List.any_eq_true]
def leastP (g : Gr) (nb eb : Nat → Bool) : Mo := ⟨sel (fun i => nb i || touch g eb i) g.ns.length, sel eb g.es.length⟩
theorem fr_eq {g : Gr} (h : validE g = 0) {i : Nat} (hi : i < g.es.length) : (g.es.getD i default).fr = (frN g i : Int) ∧ frN g i < g.ns.length ∧ (g.es.getD i default).tq = (toN g i : Int) ∧ toN g i < g.ns.length := by
  obtain ⟨⟨h1, h2⟩, h3, h4⟩ := valid_at h hi
  unfold frN toN
  omega
theorem least_ok {g : Gr} (h : validE g = 0) (nb eb : Nat → Bool) : PartOk g (leastP g nb eb) := by
  refine ⟨sel_asc _ _, sel_rng, sel_asc _ _, sel_rng, fun i hi => ?_⟩
  obtain ⟨h1, h2⟩ := sel_has.1 hi
  obtain ⟨e1, l1, e2, l2⟩ := fr_eq h h1
  rw [e1, e2]
  exact ⟨sel_has.2 ⟨l1, by rw [Bool.or_eq_true]; exact .inr (touch_iff.2 ⟨i, h1, h2, .inl rfl⟩)⟩, sel_has.2 ⟨l2, by rw [Bool.or_eq_true]; exact .inr (touch_iff.2 ⟨i, h1, h2, .inr rfl⟩)⟩⟩
/-- it is contained in every part that contains them -/
theorem least_in {g : Gr} (h : validE g = 0) {nb eb : Nat → Bool} {q : Mo} (hq : PartOk g q) (h1 : ∀ i, i < g.ns.length → nb i = true → (i : Int) ∈ q.ns) (h2 : ∀ i, i < g.es.length → eb i = true → (i : Int) ∈ q.es) :
    (∀ x ∈ (leastP g nb eb).ns, x ∈ q.ns) ∧ ∀ x ∈ (leastP g nb eb).es, x ∈ q.es := by
  constructor
  · intro x hx
    obtain ⟨i, hi, hb, rfl⟩ := sel_mem.1 hx
    rcases Bool.or_eq_true _ _ ▸ hb with hb | hb
    · exact h1 i hi hb
    · obtain ⟨e, he, hb, ht⟩ := touch_iff.1 hb
      obtain ⟨e1, _, e2, _⟩ := fr_eq h he
      have hd := hq.dn e (h2 e he hb)
      rcases ht with rfl | rfl
      · rw [← e1]; exact hd.1
      · rw [← e2]; exact hd.2
  · intro x hx
    obtain ⟨i, hi, hb, rfl⟩ := sel_mem.1 hx
    exact h2 i hi hb
def rngAt (l : List Int) (n k : Nat) : Nat := if idxB (l.getD k 0) n = true then 0 else 6
def rngE (l : List Int) (n : Nat) : Nat := fstN (rngAt l n) 0 l.length
theorem rng_iff {l : List Int} {n : Nat} : rngE l n = 0 ↔ ∀ x ∈ l, 0 ≤ x ∧ x < n := by
  constructor
  · intro h x hx
    obtain ⟨k, hk, rfl⟩ := List.mem_iff_getElem.1 hx
    have hz := fstN_zero h k (by omega) (by omega)
    unfold rngAt at hz
    rw [List.getD_eq_getElem?_getD, List.getElem?_eq_getElem hk, Option.getD_some] at hz
    split at hz
    · rename_i h; exact idxB_iff.1 h
    · omega
  · intro h
    apply fstN_all
    intro i _ hi
    unfold rngAt
    rw [if_pos (idxB_iff.2 (h _ (getD_mem (by omega))))]
def closeE (g : Gr) (vs xs : List Int) : Nat := if validE g ≠ 0 then validE g else if rngE vs g.ns.length ≠ 0 then rngE vs g.ns.length else rngE xs g.es.length
def inB (l : List Int) (i : Nat) : Bool := decide ((i : Int) ∈ l)
theorem inB_iff {l : List Int} {i : Nat} : inB l i = true ↔ (i : Int) ∈ l := decide_eq_true_iff
def closeP (g : Gr) (vs xs : List Int) : Mo := if closeE g vs xs = 0 then leastP g (inB vs) (inB xs) else noM
theorem close_zero {g : Gr} {vs xs : List Int} : closeE g vs xs = 0 ↔ validE g = 0 ∧ (∀ x ∈ vs, 0 ≤ x ∧ x < g.ns.length) ∧ ∀ x ∈ xs, 0 ≤ x ∧ x < g.es.length := by
  rw [← rng_iff, ← rng_iff]
  unfold closeE
  split
  · rename_i h; exact ⟨fun e => absurd e h, fun e => absurd e.1 h⟩
  · split
    · rename_i h; exact ⟨fun e => absurd e h, fun e => absurd e.2.1 h⟩
    · rename_i h1 h2; exact ⟨fun e => ⟨by omega, by omega, e⟩, fun e => e.2.2⟩

/-! union and intersection -/
def twoE (g : Gr) (p q : Mo) : Nat := if partE g p ≠ 0 then partE g p else rightE g q
theorem two_zero {g : Gr} {p q : Mo} : twoE g p q = 0 ↔ validE g = 0 ∧ PartOk g p ∧ PartOk g q := by
  unfold twoE
  rw [← right_zero (p := q), ← and_assoc, ← part_zero]
  split
  · rename_i h; exact ⟨fun e => absurd e h, fun e => absurd e.1 h⟩
  · rename_i h; exact ⟨fun e => ⟨by omega, e⟩, fun e => e.2⟩
def orL (a b : List Int) (n : Nat) : List Int := sel (fun i => inB a i || inB b i) n
def andL (a b : List Int) (n : Nat) : List Int := sel (fun i => inB a i && inB b i) n
theorem orL_has {a b : List Int} {n i : Nat} : (i : Int) ∈ orL a b n ↔ i < n ∧ ((i : Int) ∈ a ∨ (i : Int) ∈ b) := by
  unfold orL; rw [sel_has, Bool.or_eq_true, inB_iff, inB_iff]
theorem andL_has {a b : List Int} {n i : Nat} : (i : Int) ∈ andL a b n ↔ i < n ∧ (i : Int) ∈ a ∧ (i : Int) ∈ b := by
  unfold andL; rw [sel_has, Bool.and_eq_true, inB_iff, inB_iff]
def orP (g : Gr) (p q : Mo) : Mo := ⟨orL p.ns q.ns g.ns.length, orL p.es q.es g.es.length⟩
def andP (g : Gr) (p q : Mo) : Mo := ⟨andL p.ns q.ns g.ns.length, andL p.es q.es g.es.length⟩
def joinP (g : Gr) (p q : Mo) : Mo := if twoE g p q = 0 then orP g p q else noM
def meetP (g : Gr) (p q : Mo) : Mo := if twoE g p q = 0 then andP g p q else noM
theorem has_nat {l : List Int} {n : Nat} (h : ∀ x ∈ l, 0 ≤ x ∧ x < (n : Int)) {x : Int} (hx : x ∈ l) : ∃ i : Nat, i < n ∧ x = i := ⟨x.toNat, by have := h x hx; omega, by have := h x hx; omega⟩
theorem or_ok {g : Gr} {p q : Mo} (h : PartOk g p) (k : PartOk g q) : PartOk g (orP g p q) := by
  refine ⟨sel_asc _ _, sel_rng, sel_asc _ _, sel_rng, fun i hi => ?_⟩
  obtain ⟨_, hb⟩ := orL_has.1 hi
  have lift : ∀ x : Int, (x ∈ p.ns ∨ x ∈ q.ns) → x ∈ orL p.ns q.ns g.ns.length := fun x hx => by
    obtain ⟨j, hj, rfl⟩ : ∃ j : Nat, j < g.ns.length ∧ x = j := by
      rcases hx with hx | hx
      · exact has_nat h.rn hx
      · exact has_nat k.rn hx
    exact orL_has.2 ⟨hj, hx⟩
  rcases hb with hb | hb
  · exact ⟨lift _ (.inl (h.dn i hb).1), lift _ (.inl (h.dn i hb).2)⟩
  · exact ⟨lift _ (.inr (k.dn i hb).1), lift _ (.inr (k.dn i hb).2)⟩
theorem and_ok {g : Gr} {p q : Mo} (h : PartOk g p) (k : PartOk g q) : PartOk g (andP g p q) := by
  refine ⟨sel_asc _ _, sel_rng, sel_asc _ _, sel_rng, fun i hi => ?_⟩
  obtain ⟨_, h1, h2⟩ := andL_has.1 hi
  have lift : ∀ x : Int, x ∈ p.ns → x ∈ q.ns → x ∈ andL p.ns q.ns g.ns.length := fun x hx hy => by
    obtain ⟨j, hj, rfl⟩ := has_nat h.rn hx
    exact andL_has.2 ⟨hj, hx, hy⟩
  exact ⟨lift _ (h.dn i h1).1 (k.dn i h2).1, lift _ (h.dn i h1).2 (k.dn i h2).2⟩
theorem abs_and {a b : List Int} {n : Nat} (h : Asc a) (hr : ∀ x ∈ a, 0 ≤ x ∧ x < n) : andL a (orL a b n) n = a := by
  refine (asc_eq_sel h hr fun i hi => ?_).symm
  rw [Bool.and_eq_true, inB_iff, inB_iff, orL_has]
  exact ⟨fun m => ⟨m, hi, .inl m⟩, fun m => m.1⟩
theorem abs_or {a b : List Int} {n : Nat} (h : Asc a) (hr : ∀ x ∈ a, 0 ≤ x ∧ x < n) : orL a (andL a b n) n = a := by
  refine (asc_eq_sel h hr fun i hi => ?_).symm
  rw [Bool.or_eq_true, inB_iff, inB_iff, andL_has]
  exact ⟨.inl, fun m => m.elim id fun m => m.2.1⟩
/-- they absorb one another -/
theorem meet_join {g : Gr} {p q : Mo} (h : PartOk g p) : andP g p (orP g p q) = p := by
  unfold andP orP; rw [abs_and h.an h.rn, abs_and h.ae h.re]
theorem join_meet {g : Gr} {p q : Mo} (h : PartOk g p) : orP g p (andP g p q) = p := by
  unfold andP orP; rw [abs_or h.an h.rn, abs_or h.ae h.re]

/-! the graph of a part, and its inclusion -/
def idxOf (l : List Int) (x : Int) : Nat → Int
  | 0 => -1
  | k + 1 => if idxOf l x k ≠ -1 then idxOf l x k else if l.getD k 0 = x then k else -1
theorem idx_not {l : List Int} {x : Int} {k : Nat} (h : ∀ i, i < k → l.getD i 0 ≠ x) : idxOf l x k = -1 := by
  induction k with
  | zero => rfl
  | succ k ih =>
    simp only [idxOf]
    rw [ih fun i hi => h i (by omega), if_neg (by simp), if_neg (h k (by omega))]
theorem idx_at {l : List Int} (h : l.Nodup) {i j : Nat} (hi : i < j) (hj : j ≤ l.length) : idxOf l (l.getD i 0) j = i := by
  induction j with
  | zero => omega
  | succ j ih =>
    simp only [idxOf]
    by_cases e : i < j
    · rw [ih e (by omega), if_pos (by omega)]
    · have e : i = j := by omega
      subst e
      rw [idx_not (fun k hk => (nodup_iff.1 h i k (by omega) hk).symm), if_neg (by simp), if_pos rfl]
def subEd (g : Gr) (p : Mo) (k : Nat) : Ed := ⟨(g.es.getD (p.es.getD k 0).toNat default).ty, idxOf p.ns (g.es.getD (p.es.getD k 0).toNat default).fr p.ns.length, idxOf p.ns (g.es.getD (p.es.getD k 0).toNat default).tq p.ns.length⟩
def subNd (g : Gr) (p : Mo) (k : Nat) : Int := g.ns.getD (p.ns.getD k 0).toNat 0
def subG (g : Gr) (p : Mo) : Gr := ⟨coll (fun k => [subNd g p k]) p.ns.length, coll (fun k => [subEd g p k]) p.es.length⟩
def extG (g : Gr) (p : Mo) : Gr := if partE g p = 0 then subG g p else noG
def extM (g : Gr) (p : Mo) : Mo := if partE g p = 0 then p else noM
theorem asc_len {l : List Int} {n : Nat} (h : Asc l) (hr : ∀ x ∈ l, 0 ≤ x ∧ x < n) : l.length ≤ n := by
  rw [← sel_self h hr]; exact sel_le _ _
theorem sub_fr {g : Gr} {p : Mo} (h : PartOk g p) {k : Nat} (hk : k < p.es.length) :
    ∃ i j : Nat, i < p.ns.length ∧ j < p.ns.length ∧ (subEd g p k).fr = i ∧ (subEd g p k).tq = j ∧ p.ns.getD i 0 = (g.es.getD (p.es.getD k 0).toNat default).fr ∧ p.ns.getD j 0 = (g.es.getD (p.es.getD k 0).toNat default).tq := by
  have hm := getD_mem (l := p.es) (d := 0) hk
  have hr := h.re _ hm
  obtain ⟨h1, h2⟩ := h.dn (p.es.getD k 0).toNat (by rw [show ((p.es.getD k 0).toNat : Int) = p.es.getD k 0 by omega]; exact hm)
  obtain ⟨i, hi, e1⟩ := List.mem_iff_getElem.1 h1
  obtain ⟨j, hj, e2⟩ := List.mem_iff_getElem.1 h2
  have e1' : p.ns.getD i 0 = (g.es.getD (p.es.getD k 0).toNat default).fr := by rw [List.getD_eq_getElem?_getD, List.getElem?_eq_getElem hi]; exact e1
  have e2' : p.ns.getD j 0 = (g.es.getD (p.es.getD k 0).toNat default).tq := by rw [List.getD_eq_getElem?_getD, List.getElem?_eq_getElem hj]; exact e2
  refine ⟨i, j, hi, hj, ?_, ?_, e1', e2'⟩
  · show idxOf p.ns _ _ = _
    rw [← e1']; exact idx_at (asc_nodup h.an) hi (Nat.le_refl _)
  · show idxOf p.ns _ _ = _
    rw [← e2']; exact idx_at (asc_nodup h.an) hj (Nat.le_refl _)
theorem sub_valid {g : Gr} {p : Mo} (hg : validE g = 0) (h : PartOk g p) : validE (subG g p) = 0 := by
  obtain ⟨v1, v2, v3, v4⟩ := valid_zero hg
  have l1 := asc_len h.an h.rn
  have l2 := asc_len h.ae h.re
  have q1 : (subG g p).ns.length = p.ns.length := coll_len _ _
  have q2 : (subG g p).es.length = p.es.length := coll_len _ _
  refine valid_ok (by omega) (by omega) (fun i hi => ?_) (fun i hi => ?_)
  · rw [q1] at hi
    show idxB ((coll (fun k => [subNd g p k]) p.ns.length).getD i 0) 100 = true
    rw [coll_getD _ hi]
    have := h.rn _ (getD_mem (d := 0) hi)
    exact idxB_iff.2 (v3 _ (getD_mem (by omega)))
  · rw [q1]
    rw [q2] at hi
    show edB ((coll (fun k => [subEd g p k]) p.es.length).getD i default) p.ns.length = true
    rw [coll_getD _ hi]
    obtain ⟨a, b, ha, hb, e1, e2, _, _⟩ := sub_fr h hi
    have hr := h.re _ (getD_mem (d := 0) hi)
    have ht := edB_iff.1 (v4 _ (getD_mem (d := default) (i := (p.es.getD i 0).toNat) (by omega)))
    refine edB_iff.2 ⟨ht.1, ?_, ?_⟩
    · rw [e1]; omega
    · rw [e2]; omega
theorem incl_ok {g : Gr} {p : Mo} (hg : validE g = 0) (h : PartOk g p) : MorOk (subG g p) g p := by
  have q1 : (subG g p).ns.length = p.ns.length := coll_len _ _
  have q2 : (subG g p).es.length = p.es.length := coll_len _ _
  refine ⟨sub_valid hg h, hg, q1.symm, q2.symm, fun i hi => ?_, fun i hi => ?_⟩
  · rw [q1] at hi
    have := h.rn _ (getD_mem (d := 0) hi)
    refine ⟨this, ?_⟩
    show _ = (coll (fun k => [subNd g p k]) p.ns.length).getD i 0
    rw [coll_getD _ hi]; rfl
  · rw [q2] at hi
    have := h.re _ (getD_mem (d := 0) hi)
    obtain ⟨a, b, ha, hb, e1, e2, e3, e4⟩ := sub_fr h hi
    have e : (subG g p).es.getD i default = subEd g p i := coll_getD _ hi _
    refine ⟨this, ?_, ?_, ?_⟩
    · rw [e]; rfl
    · rw [e, e1, Int.toNat_natCast]; exact e3
    · rw [e, e2, Int.toNat_natCast]; exact e4
theorem incl_inj {g : Gr} {p : Mo} (h : PartOk g p) : InjM p := ⟨asc_nodup h.an, asc_nodup h.ae⟩

/-! images and preimages -/
def imgP (b : Gr) (m : Mo) : Mo := ⟨sel (inB m.ns) b.ns.length, sel (inB m.es) b.es.length⟩
def imR (a b : Gr) (m : Mo) : Mo := if morE a b m = 0 then imgP b m else noM
def intoL (l k : List Int) : List Int := sel (fun i => decide (l.getD i 0 ∈ k)) l.length
def preP (m p : Mo) : Mo := ⟨intoL m.ns p.ns, intoL m.es p.es⟩
def preE (a b : Gr) (m p : Mo) : Nat := if morE a b m ≠ 0 then morE a b m else rightE b p
def preR (a b : Gr) (m p : Mo) : Mo := if preE a b m p = 0 then preP m p else noM
theorem into_has {l k : List Int} {i : Nat} : (i : Int) ∈ intoL l k ↔ i < l.length ∧ l.getD i 0 ∈ k := by
  unfold intoL; rw [sel_has, decide_eq_true_iff]
theorem img_self {g : Gr} {p : Mo} (h : PartOk g p) : imgP g p = p := by
  have e1 : sel (inB p.ns) g.ns.length = p.ns := sel_self h.an h.rn
  have e2 : sel (inB p.es) g.es.length = p.es := sel_self h.ae h.re
  unfold imgP; rw [e1, e2]
/-- containment, as the reference decides it -/
def inP (p q : Mo) : Bool := decide ((intoL p.ns q.ns).length = p.ns.length) && decide ((intoL p.es q.es).length = p.es.length)
theorem sel_full {f : Nat → Bool} {n : Nat} : (sel f n).length = n ↔ ∀ i, i < n → f i = true := by
  induction n with
  | zero => exact ⟨fun _ i hi => by omega, fun _ => rfl⟩
  | succ n ih =>
    have hl := sel_le f n
    rw [sel_succ, List.length_append]
    constructor
    · intro h i hi
      by_cases hf : f n = true
      · rw [if_pos hf, List.length_singleton] at h
        by_cases e : i = n
        · subst e; exact hf
        · exact ih.1 (by omega) i (by omega)
      · rw [if_neg hf, List.length_nil] at h; omega
    · intro h
      rw [if_pos (h n (by omega)), List.length_singleton, ih.2 fun i hi => h i (by omega)]
theorem into_full {l k : List Int} : (intoL l k).length = l.length ↔ ∀ x ∈ l, x ∈ k := by
  unfold intoL
  rw [sel_full]
  constructor
  · intro h x hx
    obtain ⟨i, hi, rfl⟩ := List.mem_iff_getElem.1 hx
    have := of_decide_eq_true (h i hi)
    rwa [List.getD_eq_getElem?_getD, List.getElem?_eq_getElem hi] at this
  · intro h i hi
    exact decide_eq_true (h _ (getD_mem hi))
theorem inP_iff {p q : Mo} : inP p q = true ↔ (∀ x ∈ p.ns, x ∈ q.ns) ∧ ∀ x ∈ p.es, x ∈ q.es := by
  unfold inP
  rw [Bool.and_eq_true, decide_eq_true_iff, decide_eq_true_iff, into_full, into_full]
theorem img_in {l k : List Int} {n : Nat} (hr : ∀ x ∈ l, 0 ≤ x ∧ x < n) : (∀ x ∈ sel (inB l) n, x ∈ k) ↔ ∀ x ∈ l, x ∈ k := by
  constructor
  · intro h x hx
    obtain ⟨i, hi, rfl⟩ := has_nat hr hx
    exact h _ (sel_has.2 ⟨hi, inB_iff.2 hx⟩)
  · intro h x hx
    obtain ⟨i, _, hb, rfl⟩ := sel_mem.1 hx
    exact h _ (inB_iff.1 hb)
theorem thr_in {l m k : List Int} (hr : ∀ x ∈ l, 0 ≤ x ∧ x < m.length) : (∀ x ∈ thr l m, x ∈ k) ↔ ∀ x ∈ l, x ∈ intoL m k := by
  constructor
  · intro h x hx
    obtain ⟨i, hi, rfl⟩ := has_nat hr hx
    exact into_has.2 ⟨hi, h _ (List.mem_map.2 ⟨(i : Int), hx, by simp⟩)⟩
  · intro h x hx
    obtain ⟨y, hy, rfl⟩ := List.mem_map.1 hx
    obtain ⟨i, hi, rfl⟩ := has_nat hr hy
    have := (into_has.1 (h _ hy)).2
    simpa using this
/-- the image of a part is contained in a part exactly if the part is contained in its preimage -/
theorem adjoint {a b : Gr} {m : Mo} (h : MorOk a b m) {p q : Mo} (hp : PartOk a p) : inP (imgP b (compM p m)) q = inP p (preP m q) := by
  have hc := comp_ok (incl_ok h.va hp) h
  have r1 : ∀ x ∈ thr p.ns m.ns, 0 ≤ x ∧ x < b.ns.length := hc.rn
  have r2 : ∀ x ∈ thr p.es m.es, 0 ≤ x ∧ x < b.es.length := hc.re
  rw [Bool.eq_iff_iff, inP_iff, inP_iff]
  show ((∀ x ∈ sel (inB (thr p.ns m.ns)) b.ns.length, x ∈ q.ns) ∧ ∀ x ∈ sel (inB (thr p.es m.es)) b.es.length, x ∈ q.es) ↔ (∀ x ∈ p.ns, x ∈ intoL m.ns q.ns) ∧ ∀ x ∈ p.es, x ∈ intoL m.es q.es
  rw [img_in r1, img_in r2, thr_in (by have := hp.rn; rw [h.ln]; exact this), thr_in (by have := hp.re; rw [h.le]; exact this)]

/-! the boundary -/
def bndL (g : Gr) (p : Mo) : List Int := sel (fun i => inB p.ns i && touch g (fun e => !inB p.es e) i) g.ns.length
def bndR (g : Gr) (p : Mo) : List Int := if partE g p = 0 then bndL g p else []
theorem bnd_has {g : Gr} {p : Mo} {i : Nat} : (i : Int) ∈ bndL g p ↔ i < g.ns.length ∧ (i : Int) ∈ p.ns ∧ ∃ e, e < g.es.length ∧ ¬ (e : Int) ∈ p.es ∧ (frN g e = i ∨ toN g e = i) := by
  unfold bndL
  rw [sel_has, Bool.and_eq_true, inB_iff, touch_iff]
  simp only [Bool.not_eq_true', ← Bool.not_eq_true, inB_iff]

end Go.Proofs.YthnhacncnhknnaaGreatDoor

/-
  Sets of small numbers as the bits of a number: their elements ascending, the lowest one, their count.
-/
namespace Go.Proofs.YthnhacncnhknnaaGreatDoor
open Go

/-! the count of the bits, as math/bits has it -/
def g1 (b : Nat) : Nat := (b / 2 &&& 85) + (b &&& 85)
def g2 (b : Nat) : Nat := (b / 4 &&& 51) + (b &&& 51)
def g3 (b : Nat) : Nat := b / 16 + b % 16
end Go.Proofs.YthnhacncnhknnaaGreatDoor

/-
  Slices of any kind of plain element in memory: reading one, owning one, append, make. Over a seat's own program.
-/
namespace Go.Proofs.YthnhacncnhknnaaGreatDoor
open Go.RowKit

theorem ret_bool {a b : Bool} (h : a = b) : Ending.returned (.bool a) = .returned (.bool b) := by rw [h]
theorem ret_int {k : IntKind} {a b : Int} (h : a = b) : Ending.returned (.int k a) = .returned (.int k b) := by rw [h]
theorem below_draws {B : Nat} {a w : World} (h : Below B a w) (n : Nat) : Below B a (w.drewN n) := ⟨h.os, h.tape, h.output, h.size, h.block⟩
theorem addr_plain (b off j : Nat) : (⟨b, off, none⟩ : Addr).add j = ⟨b, off + j, none⟩ := Addr.add_lit _ _ _
theorem cell_new (w : World) (u : Value) (t : TypeId) : (w.alloc (.cells #[u] t)).cell? ⟨w.heap.size, 0, none⟩ = some u := by simp
theorem slice_of {w : World} {base : Nat} {e : TypeId} {size : Nat} {v : Value} {n : Nat} {xs : List Value} (h : w.ownsRow base e size v n xs) : ∃ ao cap, v = .slice ao n cap := by
  rcases h.2 with ⟨hv, h0⟩ | ⟨g, cap, cur, hv, _⟩
  · exact ⟨none, 0, by rw [hv, h0]⟩
  · exact ⟨_, _, hv⟩
theorem grown_refl (a : World) (r : Option Nat) : a.grownBy a r := ⟨rfl, rfl, rfl, Nat.le_refl _, fun _ _ _ => rfl⟩
theorem heap_two (w : World) (o o2 : Obj) : ((w.alloc o).alloc o2).heap[w.heap.size]? = some o :=
  (Below.heap_alloc (w.alloc o) o2 w.heap.size (by simp)).trans (heap_alloc_new w o)
theorem heap_two' (w : World) (o o2 : Obj) : ((w.alloc o).alloc o2).heap[w.heap.size + 1]? = some o2 := by
  have := heap_alloc_new (w.alloc o) o2
  simpa using this

/-- how an element lies in cells -/
structure El (α : Type) where
  enc : α → List Value
  size : Nat
  len : ∀ x, (enc x).length = size
  one : ∀ x, ∀ u ∈ enc x, u.oneCell' = true

section
variable {α : Type} (E : El α)
def cellsE (xs : List α) : List Value := xs.flatMap E.enc
theorem cellsE_length (xs : List α) : (cellsE E xs).length = xs.length * E.size := by
  induction xs with
  | nil => simp [cellsE]
  | cons x r ih =>
    have : cellsE E (x :: r) = E.enc x ++ cellsE E r := rfl
    rw [this, List.length_append, ih, E.len, List.length_cons, Nat.succ_mul]
    omega
theorem cellsE_snoc (xs : List α) (x : α) : cellsE E (xs ++ [x]) = cellsE E xs ++ E.enc x := by simp [cellsE]
theorem cellsE_get {xs : List α} {i : Nat} {x : α} (h : xs[i]? = some x) {j : Nat} {u : Value} (hu : (E.enc x)[j]? = some u) : (cellsE E xs)[i * E.size + j]? = some u := by
  induction xs generalizing i with
  | nil => simp at h
  | cons y r ih =>
    have e : cellsE E (y :: r) = E.enc y ++ cellsE E r := rfl
    rw [e]
    cases i with
    | zero =>
      simp at h
      subst h
      have hj : j < (E.enc y).length := by
        rcases Nat.lt_or_ge j (E.enc y).length with h1 | h1
        · exact h1
        · rw [List.getElem?_eq_none h1] at hu; cases hu
      rw [Nat.zero_mul, Nat.zero_add, List.getElem?_append_left hj]
      exact hu
    | succ i =>
      rw [List.getElem?_append_right (by rw [E.len, Nat.succ_mul]; omega), E.len, show (i + 1) * E.size + j - E.size = i * E.size + j by rw [Nat.succ_mul]; omega]
      exact ih (by simpa using h)
theorem cellsE_one (xs : List α) : ∀ u ∈ cellsE E xs, u.oneCell' = true := by
  intro u hu
  simp only [cellsE, List.mem_flatMap] at hu
  obtain ⟨x, _, h⟩ := hu
  exact E.one x u h

/-- the slice at A reads as xs, in a block below B -/
def Reads (w : World) (B : Nat) (A : Option Addr) (xs : List α) : Prop :=
  xs = [] ∨ ∃ b off, A = some ⟨b, off, none⟩ ∧ b < B ∧ ∀ i x, xs[i]? = some x → ∀ j u, (E.enc x)[j]? = some u → w.cell? ⟨b, off + i * E.size + j, none⟩ = some u
/-- a slice that a call made -/
def OwnE (t : TypeId) (w : World) (base : Nat) (v : Value) (xs : List α) : Prop := w.ownsRow base t E.size v xs.length (cellsE E xs)
end

section
variable {α : Type} {E : El α}
theorem Reads.at {w : World} {B : Nat} {A : Option Addr} {xs : List α} (h : Reads E w B A xs) {k : Nat} (hk : k < xs.length) :
    ∃ b off, A = some ⟨b, off, none⟩ ∧ b < B ∧ ∀ i (hi : i < xs.length), ∀ j u, (E.enc xs[i])[j]? = some u → w.cell? ⟨b, off + i * E.size + j, none⟩ = some u := by
  rcases h with h | ⟨b, off, h1, h2, h3⟩
  · subst h; simp at hk
  · exact ⟨b, off, h1, h2, fun i hi j u hu => h3 i xs[i] (List.getElem?_eq_getElem hi) j u hu⟩
theorem Reads.below {w w' : World} {B : Nat} {A : Option Addr} {xs : List α} (h : Reads E w B A xs) (hb : Below B w w') : Reads E w' B A xs := by
  rcases h with h | ⟨b, off, h1, h2, h3⟩
  · exact .inl h
  · exact .inr ⟨b, off, h1, h2, fun i x hx j u hu => (hb.cell (p := ⟨b, off + i * E.size + j, none⟩) h2).trans (h3 i x hx j u hu)⟩
theorem Reads.mono {w : World} {B B' : Nat} {A : Option Addr} {xs : List α} (h : Reads E w B A xs) (hb : B ≤ B') : Reads E w B' A xs := by
  rcases h with h | ⟨b, off, h1, h2, h3⟩
  · exact .inl h
  · exact .inr ⟨b, off, h1, by omega, h3⟩
theorem Reads.up {w w' : World} {A : Option Addr} {xs : List α} (h : Reads E w w.heap.size A xs) (hb : Below w.heap.size w w') : Reads E w' w'.heap.size A xs := (h.below hb).mono hb.size
theorem Reads.take {w : World} {B : Nat} {A : Option Addr} {xs : List α} (h : Reads E w B A xs) (k : Nat) : Reads E w B A (xs.take k) := by
  rcases h with h | ⟨b, off, h1, h2, h3⟩
  · exact .inl (by rw [h]; simp)
  · refine .inr ⟨b, off, h1, h2, fun i x hx => h3 i x ?_⟩
    rw [List.getElem?_take] at hx
    split at hx
    · exact hx
    · cases hx

theorem OwnE.nil (t : TypeId) (w : World) (base : Nat) : OwnE E t w base (.slice none 0 0) [] := by
  have := World.ownsRow_nil w base t E.size
  exact this
theorem OwnE.slice {t : TypeId} {w : World} {base : Nat} {v : Value} {xs : List α} (h : OwnE E t w base v xs) : ∃ ao cap, v = .slice ao xs.length cap := slice_of h
theorem OwnE.cast {t : TypeId} {w : World} {base : Nat} {v : Value} {xs ys : List α} (e : xs = ys) (h : OwnE E t w base v xs) : OwnE E t w base v ys := e ▸ h
theorem OwnE.mono {t : TypeId} {w : World} {base base' : Nat} {v : Value} {xs : List α} (h : OwnE E t w base v xs) (hb : base' ≤ base) : OwnE E t w base' v xs := by
  refine ⟨h.1, ?_⟩
  rcases h.2 with hn | ⟨g, cap, cur, hv, hg, r⟩
  · exact .inl hn
  · exact .inr ⟨g, cap, cur, hv, Nat.le_trans hb hg, r⟩
theorem OwnE.below {t : TypeId} {w w' : World} {base B : Nat} {v : Value} {xs : List α} (h : OwnE E t w base v xs) (hb : Below B w w') (hB : w.heap.size ≤ B) : OwnE E t w' base v xs := by
  refine ⟨h.1, ?_⟩
  rcases h.2 with hn | ⟨g, cap, cur, hv, hbg, hg, rest⟩
  · exact .inl hn
  · exact .inr ⟨g, cap, cur, hv, hbg, by rw [hb.block g (Nat.lt_of_lt_of_le (World.ownsRow.lt h g (by rw [hv]; rfl)).2 hB)]; exact hg, rest⟩
theorem OwnE.alloc {t : TypeId} {w : World} {base : Nat} {v : Value} {xs : List α} (h : OwnE E t w base v xs) (o : Obj) : OwnE E t (w.alloc o) base v xs := World.ownsRow.alloc h o
theorem OwnE.kept {t : TypeId} {w w' : World} {base : Nat} {v : Value} {xs : List α} {row : Option Nat} (h : OwnE E t w base v xs) (hg : w.grownBy w' row) (hne : v.ownBlock = none ∨ v.ownBlock ≠ row) : OwnE E t w' base v xs := World.ownsRow.kept h hg hne
theorem OwnE.lt {t : TypeId} {w : World} {base : Nat} {v : Value} {xs : List α} (h : OwnE E t w base v xs) : ∀ k, v.ownBlock = some k → base ≤ k ∧ k < w.heap.size := World.ownsRow.lt h
theorem OwnE.pos {t : TypeId} {w : World} {base : Nat} {v : Value} {xs : List α} (h : OwnE E t w base v xs) (hp : 0 < xs.length) : ∃ g c, v = .slice (some ⟨g, 0, none⟩) xs.length c ∧ base ≤ g ∧ g < w.heap.size := by
  rcases h.2 with ⟨_, hn⟩ | ⟨g, cap, cur, hv, hb, hg, _⟩
  · omega
  · exact ⟨g, cap, hv, hb, (Array.getElem?_eq_some_iff.1 hg).1⟩
theorem OwnE.reads {t : TypeId} {w : World} {base : Nat} {v : Value} {xs : List α} (h : OwnE E t w base v xs) : ∃ A c, v = .slice A xs.length c ∧ Reads E w w.heap.size A xs := by
  rcases h.2 with ⟨hv, hn⟩ | ⟨g, cap, cur, hv, hb, hg, _⟩
  · exact ⟨none, 0, by rw [hv, hn], .inl (List.eq_nil_of_length_eq_zero hn)⟩
  · refine ⟨_, cap, hv, .inr ⟨g, 0, rfl, (Array.getElem?_eq_some_iff.1 hg).1, fun i x hx j u hu => ?_⟩⟩
    have := World.ownsRow.cells h (g := g) (by rw [hv]; rfl) _ _ (cellsE_get E hx hu)
    rw [addr_plain] at this
    rw [← this]
    congr 2
    omega
/-- a new block's cells -/
theorem news_of {w : World} {g : Nat} {cs : Array Value} {t : TypeId} {x : α} (h : w.heap[g]? = some (.cells cs t (0, 0))) (hc : cs.toList = E.enc x) : ∀ j u, (E.enc x)[j]? = some u → w.cell? ((⟨g, 0, none⟩ : Addr).add j) = some u := by
  intro j u hu
  rw [addr_plain, Nat.zero_add, cell_of_row w g j cs t (0, 0) h, ← Array.getElem?_toList, hc]
  exact hu

theorem wpList_append_E {w : World} {ops : Array Oper} {rest : List Oper} {o : Oper} {a : Act} {Q : Exit → Act → World → Prop} (hgd : o.guard = none) (s x : Operand) (T t : TypeId)
    (ho : o.op = .call { callee := .builtin .append, args := #[s, x], argTypes := #[T, T] }) {z : Value} {bytes : Nat}
    (hT : Tryz.prog.underlying T = some (.slice t)) (hinfo : (Tryz.prog.info? t).map (fun i => (i.zero, i.size, i.bytes)) = some (some z, E.size, bytes)) (hzc : z.cells.size = E.size) (hpos : 0 < E.size) (hby : bytes ≤ 1000)
    (base : Nat) (v : Value) (xs : List α) (hs : a.eval s = v) (hown : OwnE E t w base v xs) (ad : Addr) (c : Nat) (m : α) (hx : a.eval x = .slice (some ad) 1 c)
    (hc : ∀ j u, (E.enc m)[j]? = some u → w.cell? (ad.add j) = some u) (hl : xs.length ≤ 1000000) (hbase : base ≤ w.heap.size)
    (hK : ∀ v' w', OwnE E t w' base v' (xs ++ [m]) → w.grownBy w' v.ownBlock → Below base w w' → wpList Tryz.prog ops Q rest (a.put o.dst v') w') : wpList Tryz.prog ops Q (o :: rest) a w := by
  obtain ⟨i0, hi, hz0, hz1, hz2⟩ := info_parts hinfo
  have hb : (xs.length + 1) * bytes ≤ 1000001 * 1000 := Nat.mul_le_mul (by omega) hby
  refine wpList_append_own w hgd s x T ho base t i0 z E.size bytes hT hi hz0 hz1 hz2 hzc hpos v xs.length (cellsE E xs) hs hown ad 1 c (E.enc m) hx (by rw [E.len]; omega) hc (E.one m) (by unfold maxLen; omega) (by omega) hbase ?_
  intro v' w' h1 h2 _
  refine hK v' w' ?_ h2 ((Below.refl base w).grown h2 hbase (fun k hk => (hown.lt k hk).1))
  unfold OwnE
  rw [cellsE_snoc, List.length_append]
  exact h1
end

/-! ints -/
def EInt : El Int := ⟨fun n => [.int .i64 n], 1, fun _ => rfl, fun x u hu => by simp at hu; subst hu; rfl⟩
theorem infoInt : (Tryz.prog.info? 3).map (fun i => (i.zero, i.size, i.bytes)) = some (some (.int .i64 0), 1, 8) := by kernel_rfl
abbrev Ints (w : World) (B : Nat) (A : Option Addr) (xs : List Int) : Prop := Reads EInt w B A xs
abbrev OwnI (w : World) (base : Nat) (v : Value) (xs : List Int) : Prop := OwnE EInt 3 w base v xs
theorem cellsE_int (xs : List Int) : cellsE EInt xs = xs.map (Value.int .i64) := by
  induction xs with
  | nil => rfl
  | cons x r ih =>
    have : cellsE EInt (x :: r) = .int .i64 x :: cellsE EInt r := rfl
    rw [this, ih]; rfl
theorem Ints.cells {w : World} {B : Nat} {A : Option Addr} {xs : List Int} (h : Ints w B A xs) {k : Nat} (hk : k < xs.length) :
    ∃ b off, A = some ⟨b, off, none⟩ ∧ b < B ∧ ∀ i, i < xs.length → w.cell? ⟨b, off + i, none⟩ = some (.int .i64 (xs.getD i 0)) := by
  obtain ⟨b, off, h1, h2, h3⟩ := Reads.at h hk
  refine ⟨b, off, h1, h2, fun i hi => ?_⟩
  have := h3 i hi 0 (.int .i64 xs[i]) rfl
  have e : EInt.size = 1 := rfl
  rw [e, Nat.mul_one, Nat.add_zero] at this
  rw [this]
  simp [List.getD, hi]
theorem OwnI.cell {w : World} {base g c n : Nat} {xs : List Int} (hn : n = xs.length) (h : OwnI w base (.slice (some ⟨g, 0, none⟩) n c) xs) {j : Nat} (hj : j < n) : w.cell? ⟨g, j, none⟩ = some (.int .i64 (xs.getD j 0)) := by
  subst hn
  obtain ⟨A, c', e, hR⟩ := OwnE.reads h
  simp only [Value.slice.injEq] at e
  obtain ⟨b, off, e1, _, h3⟩ := Ints.cells hR hj
  rw [← e.1] at e1
  injection e1 with e1
  injection e1 with e2 e3 _
  subst e2 e3
  have := h3 j hj
  rwa [Nat.zero_add] at this
theorem OwnI.free {w : World} {base g c n : Nat} {xs : List Int} (hn : n = xs.length) (h : OwnI w base (.slice (some ⟨g, 0, none⟩) n c) xs) (j : Nat) : w.frozen? ⟨g, j, none⟩ = false := by
  subst hn
  exact World.ownsRow.frozenAt h j
theorem OwnI.set {w : World} {base g c n : Nat} {xs : List Int} (hn : n = xs.length) (h : OwnI w base (.slice (some ⟨g, 0, none⟩) n c) xs) (j : Nat) (m : Int) :
    OwnI (w.setCell ⟨g, j, none⟩ (.int .i64 m)) base (.slice (some ⟨g, 0, none⟩) n c) (xs.set j m) ∧ w.grownBy (w.setCell ⟨g, j, none⟩ (.int .i64 m)) (some g) := by
  subst hn
  have := World.ownsRow.stored h j (.int .i64 m)
  refine ⟨?_, this.2⟩
  have e : (xs.set j m).length = xs.length := by simp
  unfold OwnI OwnE
  rw [e, cellsE_int, List.map_set, ← cellsE_int]
  exact this.1

/-- append of one int -/
theorem wpList_append_int {w : World} {ops : Array Oper} {rest : List Oper} {o : Oper} {a : Act} {Q : Exit → Act → World → Prop} (hgd : o.guard = none) (s x : Operand)
    (ho : o.op = .call { callee := .builtin .append, args := #[s, x], argTypes := #[22, 22] })
    (base : Nat) (v : Value) (xs : List Int) (hs : a.eval s = v) (hown : OwnI w base v xs) (g c : Nat) (m : Int) (hx : a.eval x = .slice (some ⟨g, 0, none⟩) 1 c)
    (hc : w.cell? ⟨g, 0, none⟩ = some (.int .i64 m)) (hl : xs.length ≤ 1000000) (hbase : base ≤ w.heap.size)
    (hK : ∀ v' w', OwnI w' base v' (xs ++ [m]) → w.grownBy w' v.ownBlock → Below base w w' → wpList Tryz.prog ops Q rest (a.put o.dst v') w') : wpList Tryz.prog ops Q (o :: rest) a w := by
  refine wpList_append_E (E := EInt) hgd s x 22 3 ho Tryz.underlying22 infoInt rfl (by decide) (by decide) base v xs hs hown ⟨g, 0, none⟩ c m hx ?_ hl hbase hK
  intro j u hj
  cases j with
  | zero => rw [addr_plain]; simp [EInt] at hj; subst hj; exact hc
  | succ j => simp [EInt] at hj

end Go.Proofs.YthnhacncnhknnaaGreatDoor

/-
  A loop over an iterator that writes blocks of its own between two rounds: what the iterator holds and what its rounds hold are sets of blocks that do not meet.
-/
namespace Go.Proofs.YthnhacncnhknnaaGreatDoor
open Go.RowKit

/-- a set of blocks -/
abbrev Blks := Nat → Prop

/-- what is not among these blocks lies as it lay -/
structure Keeps (H : Blks) (w w' : World) : Prop where
  os : w'.os = w.os
  tape : w'.tape = w.tape
  output : w'.output = w.output
  size : w.heap.size ≤ w'.heap.size
  block : ∀ k, k < w.heap.size → ¬ H k → w'.heap[k]? = w.heap[k]?

theorem Keeps.refl (H : Blks) (w : World) : Keeps H w w := ⟨rfl, rfl, rfl, Nat.le_refl _, fun _ _ _ => rfl⟩
theorem Keeps.trans {H K : Blks} {a b c : World} (h : Keeps H a b) (k : Keeps K b c) (hK : ∀ i, i < a.heap.size → K i → H i) : Keeps H a c :=
  ⟨k.os.trans h.os, k.tape.trans h.tape, k.output.trans h.output, Nat.le_trans h.size k.size, fun i hi hn => (k.block i (Nat.lt_of_lt_of_le hi h.size) (fun e => hn (hK i hi e))).trans (h.block i hi hn)⟩
theorem Keeps.mono {H K : Blks} {a b : World} (h : Keeps H a b) (hK : ∀ i, i < a.heap.size → H i → K i) : Keeps K a b := ⟨h.os, h.tape, h.output, h.size, fun i hi hn => h.block i hi fun e => hn (hK i hi e)⟩
theorem Keeps.of_below {H : Blks} {B : Nat} {a b : World} (h : Below B a b) (hH : ∀ i, i < a.heap.size → B ≤ i → H i) : Keeps H a b :=
  ⟨h.os, h.tape, h.output, h.size, fun i hi hn => h.block i (Nat.lt_of_not_le fun e => hn (hH i hi e))⟩
theorem Keeps.of_below' (H : Blks) {a b : World} (h : Below a.heap.size a b) : Keeps H a b := Keeps.of_below h fun i h1 h2 => by omega
theorem Keeps.below {H : Blks} {B : Nat} {a b : World} (h : Keeps H a b) (hB : B ≤ a.heap.size) (hH : ∀ i, i < B → ¬ H i) : Below B a b :=
  ⟨h.os, h.tape, h.output, h.size, fun i hi => h.block i (by omega) (hH i hi)⟩
theorem keeps_putObj {H : Blks} (w : World) (l : Nat) (o : Obj) (h : H l) : Keeps H w (w.putObj l o) :=
  ⟨rfl, rfl, rfl, by simp, fun k _ hn => World.putObj_heap_other (fun e => hn (e ▸ h))⟩
theorem at_alloc (W : World) (o : Obj) (b : Nat) : (W.alloc o).heap[b]? = if b = W.heap.size then some o else W.heap[b]? := by
  show (W.heap.push o)[b]? = _
  rw [Array.getElem?_push]
theorem size_alloc (W : World) (o : Obj) : (W.alloc o).heap.size = W.heap.size + 1 := by simp
/-- what is said of a world speaks of its own blocks H and of Rd alone -/
def Foot (Rd : Blks) (J : Blks → World → Prop) : Prop :=
  ∀ H V, J H V → (∀ b, H b → b < V.heap.size) ∧ ∀ V', V.heap.size ≤ V'.heap.size → (∀ b, H b ∨ Rd b → V'.heap[b]? = V.heap[b]?) → J H V'

theorem Foot.lt {Rd : Blks} {J : Blks → World → Prop} (h : Foot Rd J) {H : Blks} {V : World} (hj : J H V) {b : Nat} (hb : H b) : b < V.heap.size := (h H V hj).1 b hb
theorem Foot.keep {Rd : Blks} {J : Blks → World → Prop} (h : Foot Rd J) {H : Blks} {V V' : World} (hj : J H V) (hs : V.heap.size ≤ V'.heap.size) (hb : ∀ b, H b ∨ Rd b → V'.heap[b]? = V.heap[b]?) : J H V' := (h H V hj).2 V' hs hb
theorem Foot.keeps {Rd : Blks} {J : Blks → World → Prop} (h : Foot Rd J) {H K : Blks} {V V' : World} (hj : J H V) (hk : Keeps K V V') (hr : ∀ b, Rd b → b < V.heap.size) (hd : ∀ b, H b ∨ Rd b → ¬ K b) : J H V' :=
  h.keep hj hk.size fun b hb => hk.block b (hb.elim (fun e => h.lt hj e) (hr b)) (hd b hb)
theorem Foot.below {Rd : Blks} {J : Blks → World → Prop} (h : Foot Rd J) {H : Blks} {V V' : World} (hj : J H V) (hr : ∀ b, Rd b → b < V.heap.size) (hk : Below V.heap.size V V') : J H V' :=
  h.keep hj hk.size fun b hb => hk.block b (hb.elim (fun e => h.lt hj e) (hr b))

theorem foot_false (Rd : Blks) : Foot Rd (fun _ _ => False) := fun _ _ h => h.elim

/-- the end of a round: what it held, what it was given and what is new are the blocks that it holds now -/
def Turn (HG : Blks) (V : World) (J Jx : Blks → World → Prop) (e : Ending) (V' : World) : Prop :=
  Keeps HG V V' ∧ ∃ H', (∀ b, H' b → HG b ∨ V.heap.size ≤ b) ∧ ((e = .returned (.bool true) ∧ J H' V') ∨ (e = .returned (.bool false) ∧ Jx H' V'))

/-- the iterator hands the elements of a list tq its rounds in their order, until one says no; R: what it hands over, and the blocks that it gives away with it; O: the blocks from before that it relies on -/
def Visits (P : Program) (g : Nat) (ba lb : Array Value) {α : Type} (xs : List α) (R : α → Blks → World → Array Value → Prop) (O : Blks) (w : World) : Prop :=
  ∀ (l : Nat) (J : List α → Blks → World → Prop) (Jx : Blks → World → Prop) (H : Blks) (W : World), Below w.heap.size w W → (∀ pre, Foot (fun b => b < W.heap.size) (J pre)) → Foot (fun b => b < W.heap.size) Jx → (∀ b, O b → ¬ H b) →
    (∀ pre x H V G vs, J pre H V → pre ++ [x] <+: xs → R x G V vs → (∀ b, G b → ¬ H b ∧ b < V.heap.size) →
      YieldAt Fence.wide 0 P l vs V (Turn (fun b => H b ∨ G b) V (J (pre ++ [x])) Jx)) →
    J [] H W →
    Calls P g (ba ++ #[.func (.yield l) #[] #[]] ++ lb) W fun e W' => (∃ v, e = .returned v) ∧ Keeps H W W' ∧ ∃ H', (∀ b, H' b → H b ∨ W.heap.size ≤ b) ∧ (J xs H' W' ∨ Jx H' W')

/-- what a round keeps, behind what was kept before it -/
theorem keeps_turn {H H' G H3 : Blks} {W w1 w3 : World} (hk : Keeps H W w1) (hg : ∀ b, H' b → H b ∨ W.heap.size ≤ b) (hG : ∀ b, G b → W.heap.size ≤ b) (hk3 : Keeps (fun b => H' b ∨ G b) w1 w3) (hg3 : ∀ b, H3 b → (H' b ∨ G b) ∨ w1.heap.size ≤ b) :
    Keeps H W w3 ∧ ∀ b, H3 b → H b ∨ W.heap.size ≤ b := by
  refine ⟨hk.trans hk3 fun i hi h => ?_, fun b hb => ?_⟩
  · rcases h with h | h
    · rcases hg i h with h | h
      · exact h
      · omega
    · have := hG i h; omega
  · have := hk.size
    rcases hg3 b hb with (h | h) | h
    · exact hg b h
    · exact .inr (hG b h)
    · exact .inr (by omega)

theorem room_of_none {F : Fence} (hd : F.depth = none) (k : Nat) : F.room k := fun d h => by rw [hd] at h; cases h
theorem RoundIn.anyDepth {F : Fence} (hd : F.depth = none) {m m' : Nat} {P : Program} {l : Nat} {f : FuncId} {tmps : Array Value} {assign body : Code} {w : World} {R : Ending → World → Prop}
    (h : RoundIn F m P l f tmps assign body w R) : RoundIn F m' P l f tmps assign body w R := ⟨h.1, fun c cs _ => h.2 c cs (room_of_none hd _)⟩
theorem YieldAt.anyDepth {F : Fence} (hd : F.depth = none) {m : Nat} (m' : Nat) {P : Program} {l : Nat} {args : Array Value} {W : World} {R : Ending → World → Prop} (h : YieldAt F m P l args W R) : YieldAt F m' P l args W R := by
  obtain ⟨fn, tmps, assign, body, hy, hR⟩ := h
  exact ⟨fn, tmps, assign, body, hy, RoundIn.anyDepth hd hR⟩

/-- how a round's body may end -/
def RoundEnd (HG : Blks) (sz : Nat) (I : Blks → World → Prop) (Ix : Code → Blks → World → Prop) (W : World) : Exit → Act → World → Prop
  | .normal, _, W' => Keeps HG W W' ∧ ∃ H', (∀ b, H' b → HG b ∨ sz ≤ b) ∧ I H' W'
  | .ret, _, W' => Keeps HG W W' ∧ ∃ H', (∀ b, H' b → HG b ∨ sz ≤ b) ∧ Ix .ret H' W'
  | .exit id, _, W' => Keeps HG W W' ∧ ∃ H', (∀ b, H' b → HG b ∨ sz ≤ b) ∧ Ix (.exit id) H' W'
  | .goto t, _, W' => Keeps HG W W' ∧ ∃ H', (∀ b, H' b → HG b ∨ sz ≤ b) ∧ Ix (.goto t) H' W'
  | .panic _, _, _ => False
  | .outgrown, _, _ => False

variable {n : Nat} {P : Program} {w : World}

/-- one round of a loop over an iterator, the loop's record being block L; held: the blocks of the loop's own -/
theorem round_turn {α : Type} {assign body : Code} {tmps : Array Value} {ps : Array Tmp} {fn : FuncId} {L : Nat} {rec : LoopState → Option Code → Loop} {D : Nat}
    (hrec : rec = fun st pe => { state := st, pending := pe, fn, tmps := tmps, params := ps, assign, body, defers := D })
    {held : Blks} (hheldL : held L) (B0 : World → Prop) (hB0 : ∀ V V' : World, B0 V → (∀ b, held b → b ≠ L → V'.heap[b]? = V.heap[b]?) → B0 V')
    {Rd : Blks} (hRL : ¬ Rd L) {I : List α → Blks → World → Prop} {Ix : Code → Blks → World → Prop} (hI : ∀ pre, Foot Rd (I pre)) (hIx : ∀ c, Foot Rd (Ix c))
    {pre : List α} {x : α} {H G : Blks} {V : World} {vs : Array Value} (hvs : vs.size = ps.size)
    (hHL : ∀ b, held b → ¬ H b) (hGL : ∀ b, held b → ¬ G b) (hlt : ∀ b, held b → b < V.heap.size) (hL : V.heap[L]? = some (.loop (rec .ready none))) (hD : B0 V)
    (hround : ∀ (K : Act → World → Prop), (∀ a' V1, Keeps (fun b => H b ∨ G b) V V1 → (∀ r, body.wpIn (Fence.wide.inRound L) n P (RoundEnd (fun b => H b ∨ G b) V.heap.size (I (pre ++ [x])) Ix (V1.putObj L (.loop r))) a' (V1.putObj L (.loop r))) → K a' V1) →
      assign.wpIn (Fence.wide.inRound L) n P (Exit.then K (fun _ _ _ => False)) { tmps := (ps.zip vs).foldl (fun t (p, v) => t.setIfInBounds p v) tmps, defers := [] } V) :
    YieldAt Fence.wide 0 P L vs V (Turn (fun b => (H b ∨ held b) ∨ G b) V
      (fun H' V' => ∃ H, I (pre ++ [x]) H V' ∧ H' = (fun b => H b ∨ held b) ∧ (∀ b, held b → ¬ H b ∧ b < V'.heap.size) ∧ V'.heap[L]? = some (.loop (rec .ready none)) ∧ B0 V')
      (fun H' V' => ∃ H c, Ix c H V' ∧ H' = (fun b => H b ∨ held b) ∧ (∀ b, held b → ¬ H b ∧ b < V'.heap.size) ∧ V'.heap[L]? = some (.loop (rec .done (some c))) ∧ B0 V')) := by
  have hy := run_yield (P := P) (args := vs) hL (by rw [hrec]; exact hvs)
  rw [hrec] at hy
  refine ⟨fn, _, assign, body, hy, RoundIn.anyDepth rfl (roundIn_of_wpIn (F := Fence.wide) (n := n) trivial (hround _ ?_))⟩
  clear hround hy
  intro a' V1 hk1 hbody
  have hL1 : V1.heap[L]? = some (.loop (rec .ready none)) := (hk1.block L (hlt L hheldL) (fun e => e.elim (hHL L hheldL) (hGL L hheldL))).trans hL
  have hlt1 : L < V1.heap.size := (Array.getElem?_eq_some_iff.1 hL1).1
  refine ⟨_, run_beginRound hL1 (by rw [hrec]), ?_⟩
  obtain ⟨busy, hbusy⟩ : ∃ busy, busy = ({ rec .ready none with state := .busy } : Loop) := ⟨_, rfl⟩
  rw [← hbusy]
  have hL2 : (V1.putObj L (.loop busy)).heap[L]? = some (.loop busy) := World.putObj_heap_same hlt1
  have hk2 : Keeps (fun b => (H b ∨ held b) ∨ G b) V (V1.putObj L (.loop busy)) :=
    (hk1.mono fun i _ h => h.elim (fun h => .inl (.inl h)) .inr).trans (keeps_putObj (H := fun b => (H b ∨ held b) ∨ G b) V1 L _ (.inl (.inr hheldL))) fun _ _ h => h
  refine wpIn_mono (hbody busy) ?_
  have fin : ∀ (jump : Option Code) (V3 : World), Keeps (fun b => H b ∨ G b) (V1.putObj L (.loop busy)) V3 →
      (Instr.endRound L jump).run P V3 = .ok (.bool jump.isNone) (V3.putObj L (.loop (rec (if jump.isNone then .ready else .done) jump))) ∧
      (V3.putObj L (.loop (rec (if jump.isNone then .ready else .done) jump))).heap[L]? = some (.loop (rec (if jump.isNone then .ready else .done) jump)) ∧
      Keeps (fun b => (H b ∨ held b) ∨ G b) V (V3.putObj L (.loop (rec (if jump.isNone then .ready else .done) jump))) ∧
      (B0 (V3.putObj L (.loop (rec (if jump.isNone then .ready else .done) jump)))) ∧ (∀ b, held b → b < V3.heap.size) := fun jump V3 hk3 => by
    have hL3 := (hk3.block L (by simpa using hlt1) (fun e => e.elim (hHL L hheldL) (hGL L hheldL))).trans hL2
    have hr := run_endRound (P := P) jump hL3
    have hlt3 := (Array.getElem?_eq_some_iff.1 hL3).1
    refine ⟨?_, World.putObj_heap_same hlt3, ?_, ?_, fun b hb => ?_⟩
    · rw [hr, hbusy, hrec]
    · exact (hk2.trans (hk3.mono (K := fun b => (H b ∨ held b) ∨ G b) fun i _ h => h.elim (fun h => .inl (.inl h)) .inr) fun _ _ h => h).trans (keeps_putObj (H := fun b => (H b ∨ held b) ∨ G b) V3 L _ (.inl (.inr hheldL))) fun _ _ h => h
    · refine hB0 V _ hD fun b hb hne => ?_
      have hbl := hlt b hb
      rw [World.putObj_heap_other hne, hk3.block b (by have := hk1.size; simp; omega) (fun e => e.elim (hHL b hb) (hGL b hb)), World.putObj_heap_other hne]
      exact hk1.block b hbl (fun e => e.elim (hHL b hb) (hGL b hb))
    · have := hlt b hb
      have := hk1.size
      have := hk3.size
      simp at this
      omega
  have app : ∀ (H' : Blks) (V3 : World), (∀ b, H' b → (H b ∨ G b) ∨ V.heap.size ≤ b) → (∀ b, held b → ¬ H' b) := fun H' V3 h b hb e => by
    rcases h b e with (h1 | h1) | h1
    · exact hHL b hb h1
    · exact hGL b hb h1
    · have := hlt b hb; omega
  have grow : ∀ (H' : Blks), (∀ b, H' b → (H b ∨ G b) ∨ V.heap.size ≤ b) → ∀ b, (H' b ∨ held b) → ((H b ∨ held b) ∨ G b) ∨ V.heap.size ≤ b := fun H' h b hb => by
    rcases hb with hb | hb
    · rcases h b hb with (h1 | h1) | h1
      · exact .inl (.inl (.inl h1))
      · exact .inl (.inr h1)
      · exact .inr h1
    · exact .inl (.inl (.inr hb))
  have put : ∀ {J : Blks → World → Prop} (hJ : Foot Rd J) (H' : Blks) (V3 : World) (o : Obj), J H' V3 → (∀ b, H' b → (H b ∨ G b) ∨ V.heap.size ≤ b) → J H' (V3.putObj L o) := fun hJ H' V3 o hj h =>
    hJ.keep hj (by simp) fun b hb => World.putObj_heap_other fun e => hb.elim (fun hb => app H' V3 h L hheldL (e ▸ hb)) (fun hb => hRL (e ▸ hb))
  rintro e a3 V3 hp
  cases e with
  | normal =>
    obtain ⟨hk3, H', hg, hi⟩ := hp
    obtain ⟨hr, hl4, hk4, hb4, hlt4⟩ := fin none V3 hk3
    exact ⟨_, _, hr, hk4, _, grow H' hg, .inl ⟨rfl, H', put (hI _) H' V3 _ hi hg, rfl, fun b hb => ⟨app H' V3 hg b hb, by simpa using hlt4 b hb⟩, hl4, hb4⟩⟩
  | ret =>
    obtain ⟨hk3, H', hg, hi⟩ := hp
    obtain ⟨hr, hl4, hk4, hb4, hlt4⟩ := fin (some .ret) V3 hk3
    exact ⟨_, _, hr, hk4, _, grow H' hg, .inr ⟨rfl, H', .ret, put (hIx _) H' V3 _ hi hg, rfl, fun b hb => ⟨app H' V3 hg b hb, by simpa using hlt4 b hb⟩, hl4, hb4⟩⟩
  | exit id =>
    obtain ⟨hk3, H', hg, hi⟩ := hp
    obtain ⟨hr, hl4, hk4, hb4, hlt4⟩ := fin (some (.exit id)) V3 hk3
    exact ⟨_, _, hr, hk4, _, grow H' hg, .inr ⟨rfl, H', .exit id, put (hIx _) H' V3 _ hi hg, rfl, fun b hb => ⟨app H' V3 hg b hb, by simpa using hlt4 b hb⟩, hl4, hb4⟩⟩
  | goto t =>
    obtain ⟨hk3, H', hg, hi⟩ := hp
    obtain ⟨hr, hl4, hk4, hb4, hlt4⟩ := fin (some (.goto t)) V3 hk3
    exact ⟨_, _, hr, hk4, _, grow H' hg, .inr ⟨rfl, H', .goto t, put (hIx _) H' V3 _ hi hg, rfl, fun b hb => ⟨app H' V3 hg b hb, by simpa using hlt4 b hb⟩, hl4, hb4⟩⟩
  | panic ch => exact hp.elim
  | outgrown => exact hp.elim

theorem foot_held {α : Type} {β : Type} {Rd Rd' : Blks} (hRd : ∀ b, Rd b → Rd' b) {I : α → Blks → World → Prop} (hI : ∀ s, Foot Rd (I s)) (held : Blks) (C : β → World → Prop) (hC : ∀ c V V', C c V → (∀ b, held b → V'.heap[b]? = V.heap[b]?) → C c V') (f : β → α) :
    Foot Rd' (fun H' V' => ∃ (H : Blks) (c : β), I (f c) H V' ∧ H' = (fun b => H b ∨ held b) ∧ (∀ b, held b → ¬ H b ∧ b < V'.heap.size) ∧ C c V') := by
  rintro H' V ⟨H, c, hi, rfl, hh, hc⟩
  refine ⟨fun b hb => hb.elim (fun h => (hI _).lt hi h) (fun h => (hh b h).2), fun V' hs hb => ⟨H, c, (hI _).keep hi hs fun b h => hb b (h.elim (fun h => .inl (.inl h)) (fun h => .inr (hRd b h))), rfl, fun b h => ⟨(hh b h).1, Nat.lt_of_lt_of_le (hh b h).2 hs⟩, hC c V V' hc fun b h => hb b (.inl (.inr h))⟩⟩

/-- a loop over an iterator, not within another one -/
theorem wpIn_visits {α : Type} {g : Operand} {ps : Array Tmp} {assign body : Code} {Q : Exit → Act → World → Prop} {a : Act} {gf : Nat} {ba lb : Array Value}
    (hg : a.eval g = .func (.func gf) ba lb) (eg : ∀ args u, (callFunc gf args).run P u = .ok (.enter gf args) u)
    {xs : List α} {R : α → Blks → World → Array Value → Prop} {O : Blks} (hseq : Visits P gf ba lb xs R O w) (hps : ∀ x G V vs, R x G V vs → vs.size = ps.size)
    (I : List α → Blks → World → Prop) (Ix : Code → Blks → World → Prop) (hI : ∀ pre, Foot (fun b => b < w.heap.size) (I pre)) (hIx : ∀ c, Foot (fun b => b < w.heap.size) (Ix c)) (H0 : Blks) (h0 : I [] H0 w) (hO : ∀ b, O b → ¬ H0 b ∧ b < w.heap.size)
    (hround : ∀ (l : Nat) (pre : List α) (x : α) (H G : Blks) (vs : Array Value) (V : World) (K : Act → World → Prop), w.heap.size ≤ l → (∃ r, V.heap[l]? = some (.loop r)) → ¬ H l → ¬ G l → I pre H V → pre ++ [x] <+: xs → R x G V vs → (∀ b, G b → ¬ H b ∧ b < V.heap.size) →
      (∀ a' V1, Keeps (fun b => H b ∨ G b) V V1 → (∀ r, body.wpIn (Fence.wide.inRound l) n P (RoundEnd (fun b => H b ∨ G b) V.heap.size (I (pre ++ [x])) Ix (V1.putObj l (.loop r))) a' (V1.putObj l (.loop r))) → K a' V1) →
      assign.wpIn (Fence.wide.inRound l) n P (Exit.then K (fun _ _ _ => False)) { tmps := (ps.zip vs).foldl (fun t (p, v) => t.setIfInBounds p v) a.tmps, defers := [] } V)
    (hdone : ∀ (D : Nat) (H : Blks) (W : World), w.heap.size ≤ D → ¬ H D → (∀ b, H b → H0 b ∨ w.heap.size ≤ b) → I xs H W → Keeps H0 w W → W.heap[D]? = some (.deferred (some [])) → Q .normal { a with defers := { target := .collected D, args := #[] } :: a.defers } W)
    (hstop : ∀ (D : Nat) (c : Code) (H : Blks) (W : World), w.heap.size ≤ D → ¬ H D → (∀ b, H b → H0 b ∨ w.heap.size ≤ b) → Ix c H W → Keeps H0 w W → W.heap[D]? = some (.deferred (some [])) → c.wpIn Fence.wide n P Q { a with defers := { target := .collected D, args := #[] } :: a.defers } W) :
    (Code.rangeFunc g ps assign body).wpIn Fence.wide n P Q a w := by
  refine wpIn_rangeFunc ?_
  intro fn hfn
  rw [show Fence.wide.round = none from rfl]
  obtain ⟨rec, hrec⟩ : ∃ rec : LoopState → Option Code → Loop, rec = fun st pe => { state := st, pending := pe, fn, tmps := a.tmps, params := ps, assign, body, defers := w.heap.size } := ⟨_, rfl⟩
  obtain ⟨W1, hW1⟩ : ∃ W1, (w.alloc (.deferred (some []))).alloc (.loop (rec .ready none)) = W1 := ⟨_, rfl⟩
  have hL1 : W1.heap[w.heap.size + 1]? = some (.loop (rec .ready none)) := by
    rw [← hW1]; have := World.alloc_heap_new (w.alloc (.deferred (some []))) (.loop (rec .ready none)); rwa [World.size_alloc] at this
  have hK1 : W1.heap[w.heap.size]? = some (.deferred (some [])) := by
    rw [← hW1]; exact (Below.heap_alloc _ _ _ (by simp)).trans (World.alloc_heap_new w _)
  have hb1 : Below w.heap.size w W1 := by rw [← hW1]; exact ((Below.refl _ w).alloc (Nat.le_refl _) _).alloc (by simp) _
  have hs1 : W1.heap.size = w.heap.size + 2 := by rw [← hW1]; simp
  have hlt0 : ∀ b, H0 b → b < w.heap.size := fun b hb => (hI []).lt h0 hb
  obtain ⟨held, hheld⟩ : ∃ held : Blks, held = fun b => b = w.heap.size ∨ b = w.heap.size + 1 := ⟨_, rfl⟩
  have hhL : held (w.heap.size + 1) := by rw [hheld]; exact .inr rfl
  have hhD : held w.heap.size := by rw [hheld]; exact .inl rfl
  have hhge : ∀ b, held b → w.heap.size ≤ b ∧ b < w.heap.size + 2 := by rw [hheld]; rintro b (rfl | rfl) <;> omega
  refine ⟨w.heap.size + 1, [{ target := .collected w.heap.size, args := #[] }], W1, { target := .fn (.func gf) lb, args := ba ++ #[.func (.yield (w.heap.size + 1)) #[] #[]] }, W1, gf,
    ba ++ #[.func (.yield (w.heap.size + 1)) #[] #[]] ++ lb, W1, ?_, ?_, ?_, ?_, (fun h => by cases h), ?_⟩
  · rw [← hW1, hrec]; exact run_enterLoop_outer _ _ _ _ _
  · simp only [resolve, hg]
    simp [go_sem]
  · intro f' _; trivial
  · simp [invoke, go_sem, eg]
  · refine (callsIn_wide.2 (hseq (w.heap.size + 1)
      (fun pre H' V' => ∃ (H : Blks) (_ : Unit), I pre H V' ∧ H' = (fun b => H b ∨ held b) ∧ (∀ b, held b → ¬ H b ∧ b < V'.heap.size) ∧ V'.heap[w.heap.size + 1]? = some (.loop (rec .ready none)) ∧ V'.heap[w.heap.size]? = some (.deferred (some [])))
      (fun H' V' => ∃ (H : Blks) (c : Code), Ix c H V' ∧ H' = (fun b => H b ∨ held b) ∧ (∀ b, held b → ¬ H b ∧ b < V'.heap.size) ∧ V'.heap[w.heap.size + 1]? = some (.loop (rec .done (some c))) ∧ V'.heap[w.heap.size]? = some (.deferred (some [])))
      (fun b => H0 b ∨ held b) W1 hb1 (fun pre => foot_held (fun b hb => Nat.lt_of_lt_of_le hb hb1.size) hI held (fun (_ : Unit) V' => V'.heap[w.heap.size + 1]? = some (.loop (rec .ready none)) ∧ V'.heap[w.heap.size]? = some (.deferred (some []))) (fun _ V V' h hb => ⟨(hb _ hhL).trans h.1, (hb _ hhD).trans h.2⟩) (fun _ => pre))
      (foot_held (α := Code) (fun b hb => Nat.lt_of_lt_of_le hb hb1.size) hIx held (fun c V' => V'.heap[w.heap.size + 1]? = some (.loop (rec .done (some c))) ∧ V'.heap[w.heap.size]? = some (.deferred (some []))) (fun _ V V' h hb => ⟨(hb _ hhL).trans h.1, (hb _ hhD).trans h.2⟩) id)
      (fun b hb e => e.elim (hO b hb).1 (fun e => by have := (hhge b e).1; have := (hO b hb).2; omega)) ?_
      ⟨H0, (), (hI []).below h0 (fun _ h => h) hb1, rfl, fun b hb => ⟨fun e => by have := hlt0 b e; have := (hhge b hb).1; omega, by have := (hhge b hb).2; omega⟩, hL1, hK1⟩)).mono ?_
    · rintro pre x H' V G vs ⟨H, _, hi, rfl, hh, hl, hd⟩ hx hR hG
      have := round_turn (n := n) (P := P) (L := w.heap.size + 1) (D := w.heap.size) hrec (held := held) hhL (fun V => V.heap[w.heap.size]? = some (.deferred (some []))) (fun V V' h hb => (hb _ hhD (by omega)).trans h) (Rd := fun b => b < w.heap.size) (Nat.not_lt.2 (by omega)) hI hIx (pre := pre) (x := x) (H := H) (G := G) (V := V) (vs := vs) (hps x G V vs hR)
        (fun b hb => (hh b hb).1) (fun b hb e => (hG b e).1 (.inr hb)) (fun b hb => (hh b hb).2) hl hd
        (fun K hK => hround (w.heap.size + 1) pre x H G vs V K (by omega) ⟨_, hl⟩ (hh _ hhL).1 (fun e => (hG _ e).1 (.inr hhL)) hi hx hR (fun b hb => ⟨fun e => (hG b hb).1 (.inl e), (hG b hb).2⟩) hK)
      obtain ⟨fn', t', as', bd', h1, h2⟩ := this
      refine ⟨fn', t', as', bd', h1, h2.mono ?_⟩
      rintro e V' ⟨hk, H', hg, hres⟩
      refine ⟨hk, H', hg, ?_⟩
      rcases hres with ⟨he, H2, a1, a2, a3, a4, a5⟩ | ⟨he, H2, c, a1, a2, a3, a4, a5⟩
      · exact .inl ⟨he, H2, (), a1, a2, a3, a4, a5⟩
      · exact .inr ⟨he, H2, c, a1, a2, a3, a4, a5⟩
    · have kp : ∀ (W2 : World) (o : Obj), Keeps (fun b => H0 b ∨ held b) W1 W2 → Keeps H0 w (W2.putObj (w.heap.size + 1) o) := fun W2 o hk => by
        have h2 : Keeps (fun b => H0 b ∨ held b) w (W2.putObj (w.heap.size + 1) o) := ((Keeps.of_below' _ hb1).trans hk fun _ _ h => h).trans (keeps_putObj (H := fun b => H0 b ∨ held b) W2 _ o (.inr hhL)) fun _ _ h => h
        exact h2.mono fun i hi h => by
          rcases h with h | h
          · exact h
          · have := (hhge i h).1; omega
      have gr : ∀ (H : Blks), (∀ b, (H b ∨ held b) → (H0 b ∨ held b) ∨ W1.heap.size ≤ b) → (∀ b, held b → ¬ H b) → ∀ b, H b → H0 b ∨ w.heap.size ≤ b := fun H h hn b hb => by
        rcases h b (.inl hb) with (h1 | h1) | h1
        · exact .inl h1
        · exact absurd hb (hn b h1)
        · exact .inr (by omega)
      rintro e W2 ⟨⟨v, rfl⟩, hk, H', hg, (⟨H, _, hi, rfl, hh, hl, hd⟩ | ⟨H, c, hi, rfl, hh, hl, hd⟩)⟩
      · exact ⟨none, _, by have := run_endLoop (P := P) hl (by rw [hrec]; simp); rw [hrec] at this; exact this,
          hdone _ H _ (Nat.le_refl _) (hh _ hhD).1 (gr H hg fun b hb => (hh b hb).1) ((hI _).keep hi (by simp) fun b hb => World.putObj_heap_other fun e => hb.elim (fun hb => (hh _ hhL).1 (by rw [← e]; exact hb)) (fun hb => by omega)) (kp _ _ hk) ((World.putObj_heap_other (by omega)).trans hd)⟩
      · exact ⟨some c, _, by have := run_endLoop (P := P) hl (by rw [hrec]; simp); rw [hrec] at this; exact this,
          hstop _ c H _ (Nat.le_refl _) (hh _ hhD).1 (gr H hg fun b hb => (hh b hb).1) ((hIx c).keep hi (by simp) fun b hb => World.putObj_heap_other fun e => hb.elim (fun hb => (hh _ hhL).1 (by rw [← e]; exact hb)) (fun hb => by omega)) (kp _ _ hk) ((World.putObj_heap_other (by omega)).trans hd)⟩

end Go.Proofs.YthnhacncnhknnaaGreatDoor

/-
  The program's links in memory, and what one of them leaves of the choices of its ends.
-/
namespace Go.Proofs.YthnhacncnhknnaaGreatDoor
open Go.RowKit Go.Shelf

attribute [local go_sem] Oper.semAt_some

theorem cell_heap {w w' : World} {p : Addr} (h : w'.heap[p.block]? = w.heap[p.block]?) : w'.cell? p = w.cell? p := by
  unfold World.cell?
  rw [h]
end Go.Proofs.YthnhacncnhknnaaGreatDoor

/-
  append of one element, at a step of a region that draws its order.
-/
namespace Go.Proofs.YthnhacncnhknnaaGreatDoor
open Go.RowKit

theorem step_append_E {α : Type} {E : El α} {w : World} {ops : Array Oper} {o : Oper} {a : Act} {K : Act → World → Prop} {Q : Exit → Act → World → Prop} {X : Prop} (hgd : o.guard = none) (s x : Operand) (T t : TypeId)
    (ho : o.op = .call { callee := .builtin .append, args := #[s, x], argTypes := #[T, T] }) {z : Value} {bytes : Nat}
    (hT : Tryz.prog.underlying T = some (.slice t)) (hinfo : (Tryz.prog.info? t).map (fun i => (i.zero, i.size, i.bytes)) = some (some z, E.size, bytes)) (hzc : z.cells.size = E.size) (hpos : 0 < E.size) (hby : bytes ≤ 1000)
    (base : Nat) (v : Value) (xs : List α) (hs : a.eval s = v) (hown : OwnE E t w base v xs) (ad : Addr) (c : Nat) (m : α) (hx : a.eval x = .slice (some ad) 1 c)
    (hc : ∀ j u, (E.enc m)[j]? = some u → w.cell? (ad.add j) = some u) (hl : xs.length ≤ 1000000) (hbase : base ≤ w.heap.size)
    (hK : ∀ v' w', OwnE E t w' base v' (xs ++ [m]) → w.grownBy w' v.ownBlock → Below base w w' → K (a.put o.dst v') w') : if Region.wanted o (yielded ops a.tmps) = true then Oper.wp Tryz.prog o a w K Q else X := by
  obtain ⟨i0, hi, hz0, hz1, hz2⟩ := info_parts hinfo
  have hb : (xs.length + 1) * bytes ≤ 1000001 * 1000 := Nat.mul_le_mul (by omega) hby
  refine step_append_lies w hgd s x T ho base t i0 z E.size bytes hT hi hz0 hz1 hz2 hzc hpos v xs.length (cellsE E xs) hs hown ad 1 c (E.enc m) hx (by rw [E.len]; omega) hc (E.one m) (by omega) (by unfold maxLen; omega) (by omega) hbase w.heap.size rfl ?_
  intro g cap w' h1 h2 _ _
  refine hK _ w' ?_ h2 ((Below.refl base w).grown h2 hbase (fun k hk => (hown.lt k hk).1))
  unfold OwnE
  rw [cellsE_snoc, List.length_append]
  exact h1
end Go.Proofs.YthnhacncnhknnaaGreatDoor

/-
  The program's narrowing of choices.
-/
namespace Go.Proofs.YthnhacncnhknnaaGreatDoor
open Go.RowKit

theorem oper_at {l r : List Oper} {i : Nat} {o : Oper} (h : l.drop i = o :: r) : l.toArray[i]? = some o := by
  have h2 : (l.drop i)[0]? = some o := by rw [h]; rfl
  rw [List.getElem?_drop] at h2
  simpa using h2

end Go.Proofs.YthnhacncnhknnaaGreatDoor

/-
  append of a whole slice (nil or not) tq a row of the call's own.
-/
namespace Go.Proofs.YthnhacncnhknnaaGreatDoor
open Go.RowKit

theorem run_append_empty {P : Program} {w : World} (base : Nat) (t ty e : TypeId) (i : TypeInfo) (size c : Nat) (ht : P.underlying t = some (.slice e)) (hi : P.info? e = some i) (v : Value) (n : Nat) (xs : List Value) (hown : w.ownsRow base e size v n xs) :
    (Builtin.append_ #[t, t] ty #[v, .slice none 0 c]).run P w = .ok v w := by
  rcases hown.2 with ⟨rfl, rfl⟩ | ⟨g, cap, cur, rfl, _, _, hnc, _⟩
  · simp [Builtin.append_, run_underlying ht, sizeOf, typeInfo, hi, Builtin.lenOf, Builtin.firstCells]
  · simp [Builtin.append_, run_underlying ht, sizeOf, typeInfo, hi, Builtin.lenOf, Builtin.firstCells, hnc, storeCells]

section
variable {α : Type} {E : El α}
theorem wp_append_many {w : World} {o : Oper} {a : Act} {K : Act → World → Prop} {Q : Exit → Act → World → Prop} (s x : Operand) (T t : TypeId)
    (ho : o.op = .call { callee := .builtin .append, args := #[s, x], argTypes := #[T, T] }) {z : Value} {bytes : Nat}
    (hT : Tryz.prog.underlying T = some (.slice t)) (hinfo : (Tryz.prog.info? t).map (fun i => (i.zero, i.size, i.bytes)) = some (some z, E.size, bytes)) (hzc : z.cells.size = E.size) (hpos : 0 < E.size) (hby : bytes ≤ 1000)
    (base : Nat) (v : Value) (xs : List α) (hs : a.eval s = v) (hown : OwnE E t w base v xs) (A : Option Addr) (m c B : Nat) (ys : List α) (hx : a.eval x = .slice A m c) (hm : m = ys.length) (hR : Reads E w B A ys) (hl : xs.length ≤ 100000) (hl2 : m ≤ 100000) (hbase : base ≤ w.heap.size)
    (hK : ∀ v' w', OwnE E t w' base v' (xs ++ ys) → w.grownBy w' v.ownBlock → Below base w w' → (v' = .slice none 0 0 ↔ v = .slice none 0 0 ∧ m = 0) → K (a.put o.dst v') w') : o.wp Tryz.prog a w K Q := by
  obtain ⟨i0, hi, hz0, hz1, hz2⟩ := info_parts hinfo
  subst hm
  cases A with
  | none =>
    have e : ys = [] := by
      rcases hR with h | ⟨b, off, h, _⟩
      · exact h
      · cases h
    subst e
    have hr := run_append_empty (P := Tryz.prog) (w := w) base T o.type t i0 E.size c hT hi v xs.length (cellsE E xs) hown
    unfold Oper.wp execOp
    simp only [List.length_nil] at hx
    simp only [ho, resolve, invoke, builtin, Sem.run_bind, Sem.run_pure, Result.andThen_ok, List.map_toArray, List.map_cons, List.map_nil, hs, hx, hr]
    exact hK v w (by rw [List.append_nil]; exact hown) (grown_refl w _) (Below.refl _ _) (by simp)
  | some ad =>
    have hb : (xs.length + ys.length) * bytes ≤ 200000 * 1000 := Nat.mul_le_mul (by omega) hby
    refine wp_append_own w s x T ho base t i0 z E.size bytes hT hi hz0 hz1 hz2 hzc hpos v xs.length (cellsE E xs) hs hown ad ys.length c (cellsE E ys) hx (cellsE_length E ys) ?_ (cellsE_one E ys) (by unfold maxLen; omega) (by omega) hbase fun v' w' h1 h2 h3 => hK v' w' ?_ h2 ((Below.refl base w).grown h2 hbase (fun k hk => (hown.lt k hk).1)) h3
    · intro j u hj
      rcases hR with h | ⟨b, off, h, _, h3⟩
      · subst h; simp [cellsE] at hj
      · cases h
        obtain ⟨hj1, _⟩ := List.getElem?_eq_some_iff.1 hj
        rw [cellsE_length] at hj1
        have hi2 : j / E.size < ys.length := (Nat.div_lt_iff_lt_mul hpos).2 hj1
        have hq := List.getElem?_eq_getElem hi2
        have hu : (E.enc ys[j / E.size])[j % E.size]? = some u := by
          have hlt : j % E.size < (E.enc ys[j / E.size]).length := by rw [E.len]; exact Nat.mod_lt _ hpos
          have := cellsE_get E hq (List.getElem?_eq_getElem hlt)
          rw [show j / E.size * E.size + j % E.size = j by rw [Nat.mul_comm]; exact Nat.div_add_mod j E.size, hj] at this
          rw [List.getElem?_eq_getElem hlt, this]
        have := h3 _ _ hq _ _ hu
        rw [addr_plain]
        have e : off + j = off + j / E.size * E.size + j % E.size := by rw [Nat.add_assoc, show j / E.size * E.size + j % E.size = j by rw [Nat.mul_comm]; exact Nat.div_add_mod j E.size]
        rw [e]
        exact this
    · unfold OwnE
      rw [List.length_append]
      unfold cellsE at h1 ⊢
      rw [List.flatMap_append]
      exact h1
theorem step_append_many {w : World} {ops : Array Oper} {o : Oper} {a : Act} {K : Act → World → Prop} {Q : Exit → Act → World → Prop} {X : Prop} (hgd : o.guard = none) (s x : Operand) (T t : TypeId)
    (ho : o.op = .call { callee := .builtin .append, args := #[s, x], argTypes := #[T, T] }) {z : Value} {bytes : Nat}
    (hT : Tryz.prog.underlying T = some (.slice t)) (hinfo : (Tryz.prog.info? t).map (fun i => (i.zero, i.size, i.bytes)) = some (some z, E.size, bytes)) (hzc : z.cells.size = E.size) (hpos : 0 < E.size) (hby : bytes ≤ 1000)
    (base : Nat) (v : Value) (xs : List α) (hs : a.eval s = v) (hown : OwnE E t w base v xs) (A : Option Addr) (m c B : Nat) (ys : List α) (hx : a.eval x = .slice A m c) (hm : m = ys.length) (hR : Reads E w B A ys) (hl : xs.length ≤ 100000) (hl2 : m ≤ 100000) (hbase : base ≤ w.heap.size)
    (hK : ∀ v' w', OwnE E t w' base v' (xs ++ ys) → w.grownBy w' v.ownBlock → Below base w w' → (v' = .slice none 0 0 ↔ v = .slice none 0 0 ∧ m = 0) → K (a.put o.dst v') w') : if Region.wanted o (yielded ops a.tmps) = true then Oper.wp Tryz.prog o a w K Q else X := by
  have hw : Region.wanted o (yielded ops a.tmps) = true := by simp [Region.wanted, hgd]
  rw [if_pos hw]
  exact wp_append_many s x T t ho hT hinfo hzc hpos hby base v xs hs hown A m c B ys hx hm hR hl hl2 hbase hK
/-- an empty literal is a row of the call's own -/
theorem OwnE.empty {t : TypeId} {w : World} {base g : Nat} (h : w.heap[g]? = some (.cells #[] t (0, 0))) (hb : base ≤ g) : OwnE E t w base (.slice (some ⟨g, 0, none⟩) 0 0) [] :=
  ⟨by simp [cellsE], .inr ⟨g, 0, #[], rfl, hb, h, Nat.le_refl _, by simp, by simp, by simp [cellsE]⟩⟩
end

/-- a row lies in another block than one of another type -/
theorem own_far {α : Type} {E : El α} {t t' : TypeId} {w : World} {base B : Nat} {v : Value} {xs : List α} {cs : Array Value} (h : OwnE E t w base v xs) (hb : w.heap[B]? = some (.cells cs t' (0, 0))) (hne : t ≠ t') : v.ownBlock ≠ some B := by
  rcases h.2 with ⟨rfl, _⟩ | ⟨g, cap, cur, rfl, _, hg, _⟩
  · simp [Value.ownBlock]
  · intro he
    have e : g = B := by simpa [Value.ownBlock] using he
    subst e
    rw [hg] at hb
    simp only [Option.some.injEq, Obj.cells.injEq] at hb
    exact hne hb.2.1
end Go.Proofs.YthnhacncnhknnaaGreatDoor
