import Derived.Test.YtaeelanbkdkppaaDoorProg
import Derived.WalkKit
import Derived.WalkSpells
import Derived.WalkLawsBesides
import Derived.Lib.Hide
import Derived.BigQuiet
import Derived.Deep.QuietTactic
import Derived.StillTailTactics
import Derived.IntWalk
import Derived.ArgAppend
import Derived.Lib.TrailingZeros
import Derived.Shelf.Spec.TrailingZeros
/-
  Graphs as plain data: what the document's words say, without the program.
-/
namespace Go.Proofs.YtaeelanbkdkppaaDoor

structure Ed where
  ty : Int
  fr : Int
  tq : Int
deriving DecidableEq
instance : Inhabited Ed := ⟨⟨0, 0, 0⟩⟩
structure Gr where
  ns : List Int
  es : List Ed
deriving DecidableEq
structure Mo where
  ns : List Int
  es : List Int
deriving DecidableEq
instance : Inhabited Mo := ⟨⟨[], []⟩⟩

/-! lists that grow round by round -/
section
variable {β : Type}
def coll (f : Nat → List β) : Nat → List β
  | 0 => []
  | k + 1 => coll f k ++ f k
theorem coll_len (h : Nat → β) (k : Nat) : (coll (fun i => [h i]) k).length = k := by
  induction k with
  | zero => rfl
  | succ k ih => simp only [coll, List.length_append, ih, List.length_singleton]
theorem coll_get (h : Nat → β) {i k : Nat} (hi : i < k) : (coll (fun i => [h i]) k)[i]? = some (h i) := by
  induction k with
  | zero => omega
  | succ k ih =>
    simp only [coll]
    by_cases e : i < k
    · rw [List.getElem?_append_left (by rw [coll_len]; exact e)]; exact ih e
    · have : i = k := by omega
      subst this
      rw [List.getElem?_append_right (by rw [coll_len]; exact Nat.le_refl _), coll_len, Nat.sub_self]; rfl
theorem coll_getD (h : Nat → β) {i k : Nat} (hi : i < k) (d : β) : (coll (fun i => [h i]) k).getD i d = h i := by
  rw [List.getD_eq_getElem?_getD, coll_get h hi]; rfl
theorem coll_mem {f : Nat → List β} {k : Nat} {x : β} : x ∈ coll f k ↔ ∃ i, i < k ∧ x ∈ f i := by
  induction k with
  | zero => simp [coll]
  | succ k ih =>
    simp only [coll, List.mem_append, ih]
    constructor
    · rintro (⟨i, h1, h2⟩ | h)
      · exact ⟨i, by omega, h2⟩
      · exact ⟨k, by omega, h⟩
    · rintro ⟨i, h1, h2⟩
      by_cases e : i = k
      · subst e; exact .inr h2
      · exact .inl ⟨i, by omega, h2⟩
/-- the first k places are written, the others hold z -/
def pad (f : Nat → β) (z : β) (n k : Nat) : List β := coll (fun i => [f i]) k ++ List.replicate (n - k) z
theorem pad_len (f : Nat → β) (z : β) {n k : Nat} (h : k ≤ n) : (pad f z n k).length = n := by simp [pad, coll_len]; omega
theorem pad_zero (f : Nat → β) (z : β) (n : Nat) : pad f z n 0 = List.replicate n z := by simp [pad, coll]
theorem pad_all (f : Nat → β) (z : β) (n : Nat) : pad f z n n = coll (fun i => [f i]) n := by simp [pad]
theorem pad_set (f : Nat → β) (z : β) {n k : Nat} (h : k < n) : (pad f z n k).set k (f k) = pad f z n (k + 1) := by
  unfold pad
  rw [List.set_append_right _ _ (by rw [coll_len]; exact Nat.le_refl _), coll_len, Nat.sub_self]
  obtain ⟨m, hm⟩ : ∃ m, n - k = m + 1 := ⟨n - k - 1, by omega⟩
  rw [hm, show n - (k + 1) = m by omega, List.replicate_succ, List.set_cons_zero]
  simp [coll]
end

/-! the first error -/
def fstN (f : Nat → Nat) : Nat → Nat → Nat
  | _, 0 => 0
  | k, d + 1 => if f k ≠ 0 then f k else fstN f (k + 1) d
theorem fstN_hit {f : Nat → Nat} {k n : Nat} (h : k < n) (hf : f k ≠ 0) : fstN f k (n - k) = f k := by
  obtain ⟨d, e⟩ : ∃ d, n - k = d + 1 := ⟨n - k - 1, by omega⟩
  rw [e]; simp only [fstN]; rw [if_pos hf]
theorem fstN_pass {f : Nat → Nat} {k n : Nat} (h : k < n) (hf : f k = 0) : fstN f k (n - k) = fstN f (k + 1) (n - (k + 1)) := by
  obtain ⟨d, e⟩ : ∃ d, n - k = d + 1 := ⟨n - k - 1, by omega⟩
  rw [e, show n - (k + 1) = d by omega]; simp only [fstN]; rw [if_neg (by omega)]
theorem fstN_end {f : Nat → Nat} {k n : Nat} (h : n ≤ k) : fstN f k (n - k) = 0 := by
  rw [show n - k = 0 by omega]; rfl
theorem fstN_zero {f : Nat → Nat} : ∀ {d k : Nat}, fstN f k d = 0 → ∀ i, k ≤ i → i < k + d → f i = 0 := by
  intro d
  induction d with
  | zero => intro k _ i h1 h2; omega
  | succ d ih =>
    intro k h i h1 h2
    simp only [fstN] at h
    split at h
    · omega
    · rename_i hf
      by_cases e : i = k
      · subst e; omega
      · exact ih h i (by omega) (by omega)
theorem fstN_all {f : Nat → Nat} : ∀ {d k : Nat}, (∀ i, k ≤ i → i < k + d → f i = 0) → fstN f k d = 0 := by
  intro d
  induction d with
  | zero => intro k _; rfl
  | succ d ih =>
    intro k h
    simp only [fstN]
    rw [if_neg (fun e => e (h k (Nat.le_refl _) (by omega)))]
    exact ih fun i h1 h2 => h i (by omega) (by omega)

/-! errors of graphs -/
def idxB (i : Int) (n : Nat) : Bool := decide (0 ≤ i) && decide (i < (n : Int))
theorem idxB_iff {i : Int} {n : Nat} : idxB i n = true ↔ 0 ≤ i ∧ i < n := by simp [idxB]
theorem idxB_not {i : Int} {n : Nat} : idxB i n = false ↔ i < 0 ∨ (n : Int) ≤ i := by
  rw [← Bool.not_eq_true, idxB_iff]; omega
def edB (x : Ed) (n : Nat) : Bool := idxB x.ty 100 && idxB x.fr n && idxB x.tq n
theorem edB_iff {x : Ed} {n : Nat} : edB x n = true ↔ (0 ≤ x.ty ∧ x.ty < 100) ∧ (0 ≤ x.fr ∧ x.fr < n) ∧ (0 ≤ x.tq ∧ x.tq < n) := by
  simp only [edB, Bool.and_eq_true, idxB_iff]; omega
def validE (g : Gr) : Nat := if 40 < g.ns.length ∨ 80 < g.es.length then 3 else if g.ns.all (idxB · 100) && g.es.all (edB · g.ns.length) then 0 else 6
theorem valid_long {g : Gr} (h : 40 < g.ns.length ∨ 80 < g.es.length) : validE g = 3 := if_pos h
theorem valid_node {g : Gr} (h1 : g.ns.length ≤ 40) (h2 : g.es.length ≤ 80) {i : Nat} (hi : i < g.ns.length) (h : idxB (g.ns.getD i 0) 100 = false) : validE g = 6 := by
  unfold validE
  rw [if_neg (by omega), if_neg]
  intro hc
  rw [Bool.and_eq_true, List.all_eq_true] at hc
  have := hc.1 (g.ns.getD i 0) (by rw [List.getD_eq_getElem?_getD, List.getElem?_eq_getElem hi]; exact List.getElem_mem hi)
  rw [h] at this; cases this
theorem valid_edge {g : Gr} (h1 : g.ns.length ≤ 40) (h2 : g.es.length ≤ 80) {i : Nat} (hi : i < g.es.length) (h : edB (g.es.getD i default) g.ns.length = false) : validE g = 6 := by
  unfold validE
  rw [if_neg (by omega), if_neg]
  intro hc
  rw [Bool.and_eq_true, List.all_eq_true, List.all_eq_true] at hc
  have := hc.2 (g.es.getD i default) (by rw [List.getD_eq_getElem?_getD, List.getElem?_eq_getElem hi]; exact List.getElem_mem hi)
  rw [h] at this; cases this
theorem valid_ok {g : Gr} (h1 : g.ns.length ≤ 40) (h2 : g.es.length ≤ 80) (h3 : ∀ i, i < g.ns.length → idxB (g.ns.getD i 0) 100 = true) (h4 : ∀ i, i < g.es.length → edB (g.es.getD i default) g.ns.length = true) : validE g = 0 := by
  unfold validE
  rw [if_neg (by omega), if_pos]
  rw [Bool.and_eq_true, List.all_eq_true, List.all_eq_true]
  constructor
  · intro x hx
    obtain ⟨i, hi, rfl⟩ := List.mem_iff_getElem.1 hx
    have := h3 i hi
    rwa [List.getD_eq_getElem?_getD, List.getElem?_eq_getElem hi] at this
  · intro x hx
    obtain ⟨i, hi, rfl⟩ := List.mem_iff_getElem.1 hx
    have := h4 i hi
    rwa [List.getD_eq_getElem?_getD, List.getElem?_eq_getElem hi] at this
theorem valid_zero {g : Gr} (h : validE g = 0) : g.ns.length ≤ 40 ∧ g.es.length ≤ 80 ∧ (∀ x ∈ g.ns, 0 ≤ x ∧ x < 100) ∧ (∀ x ∈ g.es, edB x g.ns.length = true) := by
  unfold validE at h
  split at h
  · omega
  · split at h
    · rename_i h1 h2
      rw [Bool.and_eq_true, List.all_eq_true, List.all_eq_true] at h2
      exact ⟨by omega, by omega, fun x hx => idxB_iff.1 (h2.1 x hx), h2.2⟩
    · omega
theorem getD_mem {β : Type} {l : List β} {d : β} {i : Nat} (h : i < l.length) : l.getD i d ∈ l := by
  rw [List.getD_eq_getElem?_getD, List.getElem?_eq_getElem h]; exact List.getElem_mem h
theorem valid_at {g : Gr} (h : validE g = 0) {i : Nat} (hi : i < g.es.length) : (0 ≤ (g.es.getD i default).fr ∧ (g.es.getD i default).fr < g.ns.length) ∧ (0 ≤ (g.es.getD i default).tq ∧ (g.es.getD i default).tq < g.ns.length) :=
  (edB_iff.1 ((valid_zero h).2.2.2 _ (getD_mem hi))).2

def noM : Mo := ⟨[], []⟩
/-! Remove -/
/-! Union, Incident -/
def numS (a : Int) (n : Nat) : List Int := coll (fun i => [a + (i : Int)]) n
end Go.Proofs.YtaeelanbkdkppaaDoor

/-
  Partitions as plain lists of numbers (stage 2's texts): what the document's words say, and quotients.
-/
namespace Go.Proofs.YtaeelanbkdkppaaDoor.Pt


/-- the number at a place (0 beyond the end) -/
def at_ (p : List Nat) (i : Nat) : Nat := p.getD i 0

/-- p is a partition -/
def V (p : List Nat) : Prop := ∀ i, i < p.length → at_ p i ≤ i ∧ at_ p (at_ p i) = at_ p i

/-- p is finer than q -/
def F (p q : List Nat) : Prop := ∀ i, i < p.length → at_ q (at_ p i) = at_ q i

theorem at_get {p : List Nat} {i : Nat} (h : i < p.length) : p[i] = at_ p i := by simp [at_, List.getD, h]
theorem at_get? {p : List Nat} {i : Nat} (h : i < p.length) : p[i]? = some (at_ p i) := by simp [at_, List.getD, h]
theorem at_map {p : List Nat} {f : Nat → Nat} {i : Nat} (h : i < p.length) : at_ (p.map f) i = f (at_ p i) := by simp [at_, List.getD, h]
theorem at_range {n i : Nat} (h : i < n) : at_ (List.range n) i = i := by simp [at_, List.getD, h]
theorem ext_at {p q : List Nat} (hl : p.length = q.length) (h : ∀ i, i < p.length → at_ p i = at_ q i) : p = q := by
  apply List.ext_getElem hl
  intro i h1 h2
  rw [at_get h1, at_get h2]
  exact h i h1

theorem V.le {p : List Nat} (h : V p) {i : Nat} (hi : i < p.length) : at_ p i ≤ i := (h i hi).1
theorem V.lt {p : List Nat} (h : V p) {i : Nat} (hi : i < p.length) : at_ p i < p.length := Nat.lt_of_le_of_lt (h i hi).1 hi
theorem V.idem {p : List Nat} (h : V p) {i : Nat} (hi : i < p.length) : at_ p (at_ p i) = at_ p i := (h i hi).2

theorem V_range (n : Nat) : V (List.range n) := by
  intro i hi
  rw [List.length_range] at hi
  rw [at_range hi, at_range hi]
  exact ⟨Nat.le_refl _, rfl⟩

theorem F.refl {p : List Nat} (h : V p) : F p p := fun _ hi => h.idem hi
theorem F.trans {p q r : List Nat} (hp : V p) (hl : p.length = q.length) (h : F p q) (k : F q r) : F p r := by
  intro i hi
  have h1 := h i hi
  have h2 := k (at_ p i) (by rw [← hl]; exact hp.lt hi)
  have h3 := k i (by rw [← hl]; exact hi)
  rw [← h2, h1, h3]
theorem F.antisymm {p q : List Nat} (hp : V p) (hq : V q) (hl : p.length = q.length) (h : F p q) (k : F q p) : p = q := by
  apply ext_at hl
  intro i hi
  have h1 := h i hi
  have h2 := k i (by rw [← hl]; exact hi)
  have h3 := hq.le (i := at_ p i) (by rw [← hl]; exact hp.lt hi)
  have h4 := hp.le (i := at_ q i) (by rw [hl]; exact hq.lt (by rw [← hl]; exact hi))
  omega
theorem F.rel {p q : List Nat} (h : F p q) {i k : Nat} (hi : i < p.length) (hk : k < p.length) (e : at_ p i = at_ p k) : at_ q i = at_ q k := by
  rw [← h i hi, ← h k hk, e]
/-- the classes of two elements joined -/
def mergeS (p : List Nat) (i k : Nat) : List Nat := p.map fun x => if x = max (at_ p i) (at_ p k) then min (at_ p i) (at_ p k) else x
theorem mergeS_length (p : List Nat) (i k : Nat) : (mergeS p i k).length = p.length := by simp [mergeS]
theorem at_merge {p : List Nat} {a b i : Nat} (hi : i < p.length) : at_ (mergeS p a b) i = if at_ p i = max (at_ p a) (at_ p b) then min (at_ p a) (at_ p b) else at_ p i := at_map hi

theorem V_merge {p : List Nat} (h : V p) {a b : Nat} (ha : a < p.length) (hb : b < p.length) : V (mergeS p a b) := by
  intro i hi
  rw [mergeS_length] at hi
  have hpa := h.idem ha
  have hpb := h.idem hb
  have hla := h.lt ha
  have hlb := h.lt hb
  have hle := h.le hi
  have hid := h.idem hi
  have hlt := h.lt hi
  by_cases he : at_ p i = max (at_ p a) (at_ p b)
  · have e1 : at_ (mergeS p a b) i = min (at_ p a) (at_ p b) := by rw [at_merge hi, if_pos he]
    rw [e1]
    refine ⟨by omega, ?_⟩
    have hm : at_ p (min (at_ p a) (at_ p b)) = min (at_ p a) (at_ p b) := by
      rcases Nat.le_total (at_ p a) (at_ p b) with h1 | h1
      · rw [Nat.min_eq_left h1, hpa]
      · rw [Nat.min_eq_right h1, hpb]
    rw [at_merge (by omega), hm]
    split <;> rfl
  · have e1 : at_ (mergeS p a b) i = at_ p i := by rw [at_merge hi, if_neg he]
    rw [e1]
    refine ⟨hle, ?_⟩
    rw [at_merge hlt, hid, if_neg he]

/-- the least elements below k -/
def fixsTo (p : List Nat) (k : Nat) : List Nat := (List.range k).filter fun j => at_ p j == j
/-- how many classes begin below k -/
def rank (p : List Nat) (k : Nat) : Nat := (fixsTo p k).length
theorem fixsTo_yes {p : List Nat} {k : Nat} (h : at_ p k = k) : fixsTo p (k + 1) = fixsTo p k ++ [k] := by
  unfold fixsTo
  rw [List.range_succ, List.filter_append]
  simp [h]
theorem fixsTo_no {p : List Nat} {k : Nat} (h : at_ p k ≠ k) : fixsTo p (k + 1) = fixsTo p k := by
  unfold fixsTo
  rw [List.range_succ, List.filter_append]
  simp [h]
theorem rank_yes {p : List Nat} {k : Nat} (h : at_ p k = k) : rank p (k + 1) = rank p k + 1 := by simp [rank, fixsTo_yes h]
theorem rank_no {p : List Nat} {k : Nat} (h : at_ p k ≠ k) : rank p (k + 1) = rank p k := by simp [rank, fixsTo_no h]
theorem rank_le (p : List Nat) (k : Nat) : rank p k ≤ k := by
  unfold rank fixsTo
  exact Nat.le_trans (List.length_filter_le _ _) (by simp)
theorem fixsTo_split (p : List Nat) (k d : Nat) : ∃ r, fixsTo p (k + d) = fixsTo p k ++ r ∧ (0 < d → at_ p k = k → r.head? = some k) := by
  induction d with
  | zero => exact ⟨[], by simp, fun h => by omega⟩
  | succ d ih =>
    obtain ⟨r, h1, h2⟩ := ih
    by_cases h : at_ p (k + d) = k + d
    · refine ⟨r ++ [k + d], ?_, fun _ hk => ?_⟩
      · rw [← Nat.add_assoc, fixsTo_yes h, h1, List.append_assoc]
      · rcases Nat.eq_zero_or_pos d with e | e
        · subst e
          have : r = [] := by simpa using h1
          rw [this]; rfl
        · have := h2 e hk
          cases r with
          | nil => simp at this
          | cons a s => simpa using this
    · refine ⟨r, by rw [← Nat.add_assoc, fixsTo_no h, h1], fun _ hk => ?_⟩
      rcases Nat.eq_zero_or_pos d with e | e
      · subst e; exact absurd hk h
      · exact h2 e hk
theorem fixs_at {p : List Nat} {k n : Nat} (hk : k < n) (h : at_ p k = k) : (fixsTo p n)[rank p k]? = some k := by
  obtain ⟨r, h1, h2⟩ := fixsTo_split p k (n - k)
  rw [show k + (n - k) = n by omega] at h1
  have := h2 (by omega) h
  rw [h1]
  unfold rank
  rw [List.getElem?_append_right (Nat.le_refl _), Nat.sub_self]
  cases r with
  | nil => simp at this
  | cons a s => simpa using this
theorem rank_lt {p : List Nat} {k n : Nat} (hk : k < n) (h : at_ p k = k) : rank p k < rank p n := by
  have := fixs_at hk h
  rcases Nat.lt_or_ge (rank p k) (fixsTo p n).length with h1 | h1
  · exact h1
  · rw [List.getElem?_eq_none h1] at this; cases this
theorem at_take {l : List Nat} {i k : Nat} (h : i < k) : at_ (l.take k) i = at_ l i := by
  unfold at_
  rw [List.getD_eq_getElem?_getD, List.getD_eq_getElem?_getD, List.getElem?_take, if_pos h]

def quoS (p : List Nat) : List Nat := (List.range p.length).map fun i => rank p (at_ p i)
theorem quoS_length (p : List Nat) : (quoS p).length = p.length := by simp [quoS]
theorem quoS_at {p : List Nat} {i : Nat} (h : i < p.length) : at_ (quoS p) i = rank p (at_ p i) := by
  unfold quoS
  rw [at_map (by simpa using h), at_range h]
theorem quoS_take {p : List Nat} {k : Nat} (h : k < p.length) : (quoS p).take (k + 1) = (quoS p).take k ++ [rank p (at_ p k)] := by
  rw [List.take_succ_eq_append_getElem (by rw [quoS_length]; exact h), at_get (by rw [quoS_length]; exact h), quoS_at h]

end Go.Proofs.YtaeelanbkdkppaaDoor.Pt

/-
  Unions as plain data: without one side, and their components.
-/
namespace Go.Proofs.YtaeelanbkdkppaaDoor
open Pt (at_)

theorem num_mem {a n : Nat} {x : Int} : x ∈ numS a n ↔ (a : Int) ≤ x ∧ x < (a : Int) + n := by
  unfold numS
  rw [coll_mem]
  constructor
  · rintro ⟨i, hi, hx⟩
    rw [List.mem_singleton] at hx
    omega
  · rintro ⟨h1, h2⟩
    exact ⟨(x - a).toNat, by omega, by rw [List.mem_singleton]; omega⟩
theorem num_get {a : Int} {n i : Nat} (h : i < n) : (numS a n).getD i 0 = a + i := coll_getD _ h _
theorem num_length (a : Int) (n : Nat) : (numS a n).length = n := coll_len _ _
/-! its components -/
/-! the components contain each element once -/
end Go.Proofs.YtaeelanbkdkppaaDoor

/-
  Reordering as plain data: permutations, what lands where, and back.
-/
namespace Go.Proofs.YtaeelanbkdkppaaDoor

def PermN (l : List Int) (n : Nat) : Prop := l.Perm (numS (0 : Nat) n)
theorem PermN.len {l : List Int} {n : Nat} (h : PermN l n) : l.length = n := by rw [List.Perm.length_eq h, num_length]
theorem getD_eq {l : List Int} {i : Nat} (h : i < l.length) : l.getD i 0 = l[i] := by rw [List.getD_eq_getElem?_getD, List.getElem?_eq_getElem h]; rfl
theorem PermN.at {l : List Int} {n i : Nat} (h : PermN l n) (hi : i < n) : 0 ≤ l.getD i 0 ∧ l.getD i 0 < n := by
  have hl := h.len
  have := (List.Perm.mem_iff h).1 (getD_mem (d := (0 : Int)) (show i < l.length by omega))
  have := num_mem.1 this
  omega
theorem num_nodup (a n : Nat) : (numS a n).Nodup := by
  unfold numS
  show List.Pairwise (· ≠ ·) _
  induction n with
  | zero => exact List.Pairwise.nil
  | succ n ih =>
    simp only [coll]
    rw [List.pairwise_append]
    refine ⟨ih, by simp, fun x hx y hy => ?_⟩
    obtain ⟨i, hi, hx⟩ := coll_mem.1 hx
    rw [List.mem_singleton] at hx hy
    omega
theorem PermN.nodup {l : List Int} {n : Nat} (h : PermN l n) : l.Nodup := (List.Perm.nodup_iff h).2 (num_nodup 0 n)
theorem PermN.inj {l : List Int} {n i j : Nat} (h : PermN l n) (hi : i < n) (hj : j < n) (e : l.getD i 0 = l.getD j 0) : i = j := by
  have hl := h.len
  rw [getD_eq (by omega), getD_eq (by omega)] at e
  have hp := List.pairwise_iff_getElem.1 h.nodup
  rcases Nat.lt_trichotomy i j with hlt | he | hlt
  · exact absurd e (hp i j (by omega) (by omega) hlt)
  · exact he
  · exact absurd e.symm (hp j i (by omega) (by omega) hlt)
/-! what lands where -/
section
variable {β : Type}
end

/-! a step of the shuffle -/
end Go.Proofs.YtaeelanbkdkppaaDoor

/-
  Morphisms of graphs as plain data: their error, composition, what is injective and surjective, inverses. (Work ahead for stage 6; imports only plain texts of stage 5.)
-/
namespace Go.Proofs.YtaeelanbkdkppaaDoor

def mnAt (a b : Gr) (m : Mo) (i : Nat) : Nat := if idxB (m.ns.getD i 0) b.ns.length = false then 6 else if b.ns.getD (m.ns.getD i 0).toNat 0 ≠ a.ns.getD i 0 then 13 else 0
def meAt (a b : Gr) (m : Mo) (i : Nat) : Nat :=
  if idxB (m.es.getD i 0) b.es.length = false then 6
  else if (a.es.getD i default).ty ≠ (b.es.getD (m.es.getD i 0).toNat default).ty then 13
  else if m.ns.getD (a.es.getD i default).fr.toNat 0 ≠ (b.es.getD (m.es.getD i 0).toNat default).fr ∨ m.ns.getD (a.es.getD i default).tq.toNat 0 ≠ (b.es.getD (m.es.getD i 0).toNat default).tq then 11 else 0
def morE (a b : Gr) (m : Mo) : Nat :=
  if validE a ≠ 0 then validE a else if validE b ≠ 0 then validE b
  else if m.ns.length ≠ a.ns.length ∨ m.es.length ≠ a.es.length then 20
  else if fstN (mnAt a b m) 0 a.ns.length ≠ 0 then fstN (mnAt a b m) 0 a.ns.length
  else fstN (meAt a b m) 0 a.es.length
structure MorOk (a b : Gr) (m : Mo) : Prop where
  va : validE a = 0
  vb : validE b = 0
  ln : m.ns.length = a.ns.length
  le : m.es.length = a.es.length
  nd : ∀ i, i < a.ns.length → (0 ≤ m.ns.getD i 0 ∧ m.ns.getD i 0 < b.ns.length) ∧ b.ns.getD (m.ns.getD i 0).toNat 0 = a.ns.getD i 0
  ed : ∀ i, i < a.es.length → (0 ≤ m.es.getD i 0 ∧ m.es.getD i 0 < b.es.length) ∧ (a.es.getD i default).ty = (b.es.getD (m.es.getD i 0).toNat default).ty ∧
    m.ns.getD (a.es.getD i default).fr.toNat 0 = (b.es.getD (m.es.getD i 0).toNat default).fr ∧ m.ns.getD (a.es.getD i default).tq.toNat 0 = (b.es.getD (m.es.getD i 0).toNat default).tq
theorem mnAt_zero {a b : Gr} {m : Mo} {i : Nat} : mnAt a b m i = 0 ↔ (0 ≤ m.ns.getD i 0 ∧ m.ns.getD i 0 < b.ns.length) ∧ b.ns.getD (m.ns.getD i 0).toNat 0 = a.ns.getD i 0 := by
  unfold mnAt
  cases h : idxB (m.ns.getD i 0) b.ns.length with
  | false =>
    rw [if_pos rfl]
    have := idxB_not.1 h
    constructor
    · intro h; omega
    · rintro ⟨h, _⟩; omega
  | true =>
    rw [if_neg (by simp)]
    have := idxB_iff.1 h
    by_cases e : b.ns.getD (m.ns.getD i 0).toNat 0 = a.ns.getD i 0
    · rw [if_neg (fun h => h e)]; exact ⟨fun _ => ⟨this, e⟩, fun _ => rfl⟩
    · rw [if_pos e]; exact ⟨fun h => by omega, fun h => absurd h.2 e⟩
theorem meAt_zero {a b : Gr} {m : Mo} {i : Nat} : meAt a b m i = 0 ↔ (0 ≤ m.es.getD i 0 ∧ m.es.getD i 0 < b.es.length) ∧ (a.es.getD i default).ty = (b.es.getD (m.es.getD i 0).toNat default).ty ∧
    m.ns.getD (a.es.getD i default).fr.toNat 0 = (b.es.getD (m.es.getD i 0).toNat default).fr ∧ m.ns.getD (a.es.getD i default).tq.toNat 0 = (b.es.getD (m.es.getD i 0).toNat default).tq := by
  unfold meAt
  cases h : idxB (m.es.getD i 0) b.es.length with
  | false =>
    rw [if_pos rfl]
    have := idxB_not.1 h
    constructor
    · intro h; omega
    · rintro ⟨h, _⟩; omega
  | true =>
    rw [if_neg (by simp)]
    have := idxB_iff.1 h
    by_cases e : (a.es.getD i default).ty = (b.es.getD (m.es.getD i 0).toNat default).ty
    · rw [if_neg (fun h => h e)]
      by_cases e2 : m.ns.getD (a.es.getD i default).fr.toNat 0 ≠ (b.es.getD (m.es.getD i 0).toNat default).fr ∨ m.ns.getD (a.es.getD i default).tq.toNat 0 ≠ (b.es.getD (m.es.getD i 0).toNat default).tq
      · rw [if_pos e2]
        exact ⟨fun h => by omega, fun h => by rcases e2 with e2 | e2 <;> exact absurd (by first | exact h.2.2.1 | exact h.2.2.2) e2⟩
      · rw [if_neg e2]
        exact ⟨fun _ => ⟨this, e, Classical.byContradiction fun h => e2 (.inl h), Classical.byContradiction fun h => e2 (.inr h)⟩, fun _ => rfl⟩
    · rw [if_pos e]; exact ⟨fun h => by omega, fun h => absurd h.2.1 e⟩
theorem mor_zero {a b : Gr} {m : Mo} : morE a b m = 0 ↔ MorOk a b m := by
  unfold morE
  constructor
  · intro h
    split at h
    · omega
    · split at h
      · omega
      · split at h
        · omega
        · split at h
          · omega
          · rename_i h1 h2 h3 h4
            refine ⟨by omega, by omega, by omega, by omega, fun i hi => ?_, fun i hi => ?_⟩
            · exact mnAt_zero.1 (fstN_zero (Decidable.not_not.1 h4) i (Nat.zero_le _) (by omega))
            · exact meAt_zero.1 (fstN_zero h i (Nat.zero_le _) (by omega))
  · intro h
    have e1 : fstN (mnAt a b m) 0 a.ns.length = 0 := fstN_all fun i _ hi => mnAt_zero.2 (h.nd i (by omega))
    have e2 : fstN (meAt a b m) 0 a.es.length = 0 := fstN_all fun i _ hi => meAt_zero.2 (h.ed i (by omega))
    rw [h.va, h.vb, e1, e2]
    simp [h.ln, h.le]

/-! composition -/
def thr (l by_ : List Int) : List Int := l.map fun x => by_.getD x.toNat 0
theorem thr_len (l k : List Int) : (thr l k).length = l.length := by simp [thr]
theorem thr_get {l k : List Int} {i : Nat} (h : i < l.length) : (thr l k).getD i 0 = k.getD (l.getD i 0).toNat 0 := by
  unfold thr
  rw [List.getD_eq_getElem?_getD, List.getElem?_map, List.getElem?_eq_getElem h, getD_eq h]; rfl
def compM (m n : Mo) : Mo := ⟨thr m.ns n.ns, thr m.es n.es⟩
theorem comp_ok {a b c : Gr} {m n : Mo} (h : MorOk a b m) (k : MorOk b c n) : MorOk a c (compM m n) := by
  refine ⟨h.va, k.vb, by rw [show (compM m n).ns.length = m.ns.length from thr_len _ _]; exact h.ln, by rw [show (compM m n).es.length = m.es.length from thr_len _ _]; exact h.le, fun i hi => ?_, fun i hi => ?_⟩
  · obtain ⟨⟨h1, h2⟩, h3⟩ := h.nd i hi
    obtain ⟨k1, k3⟩ := k.nd (m.ns.getD i 0).toNat (by omega)
    have e : (compM m n).ns.getD i 0 = n.ns.getD (m.ns.getD i 0).toNat 0 := thr_get (by rw [h.ln]; exact hi)
    rw [e]
    exact ⟨k1, k3.trans h3⟩
  · obtain ⟨⟨h1, h2⟩, h3, h4, h5⟩ := h.ed i hi
    obtain ⟨k1, k3, k4, k5⟩ := k.ed (m.es.getD i 0).toNat (by omega)
    obtain ⟨⟨f1, f2⟩, f3, f4⟩ := valid_at h.va hi
    have e : (compM m n).es.getD i 0 = n.es.getD (m.es.getD i 0).toNat 0 := thr_get (by rw [h.le]; exact hi)
    have e1 : (compM m n).ns.getD (a.es.getD i default).fr.toNat 0 = n.ns.getD (m.ns.getD (a.es.getD i default).fr.toNat 0).toNat 0 := thr_get (by rw [h.ln]; omega)
    have e2 : (compM m n).ns.getD (a.es.getD i default).tq.toNat 0 = n.ns.getD (m.ns.getD (a.es.getD i default).tq.toNat 0).toNat 0 := thr_get (by rw [h.ln]; omega)
    rw [e, e1, e2, h4, h5]
    exact ⟨k1, h3.trans k3, k4, k5⟩
theorem MorOk.rn {a b : Gr} {m : Mo} (h : MorOk a b m) : ∀ x ∈ m.ns, 0 ≤ x ∧ x < b.ns.length := fun x hx => by
  obtain ⟨i, hi, rfl⟩ := List.mem_iff_getElem.1 hx
  have := (h.nd i (by rw [← h.ln]; exact hi)).1
  rwa [getD_eq hi] at this
theorem MorOk.re {a b : Gr} {m : Mo} (h : MorOk a b m) : ∀ x ∈ m.es, 0 ≤ x ∧ x < b.es.length := fun x hx => by
  obtain ⟨i, hi, rfl⟩ := List.mem_iff_getElem.1 hx
  have := (h.ed i (by rw [← h.le]; exact hi)).1
  rwa [getD_eq hi] at this
/-! injective, surjective -/
def Cov (l : List Int) (n : Nat) : Prop := ∀ k : Nat, k < n → (k : Int) ∈ l
theorem nodup_iff {l : List Int} : l.Nodup ↔ ∀ i k, i < l.length → k < i → l.getD i 0 ≠ l.getD k 0 := by
  constructor
  · intro h i k hi hk e
    rw [getD_eq hi, getD_eq (by omega)] at e
    exact List.pairwise_iff_getElem.1 h k i (by omega) hi hk e.symm
  · intro h
    apply List.pairwise_iff_getElem.2
    intro i j hi hj hij e
    exact h j i hj hij (by rw [getD_eq hj, getD_eq hi]; exact e.symm)
theorem thr_inj {l k : List Int} (h : ∀ x ∈ l, 0 ≤ x ∧ x < k.length) (h1 : l.Nodup) (h2 : k.Nodup) : (thr l k).Nodup := by
  rw [nodup_iff] at *
  intro i j hi hj e
  rw [thr_len] at hi
  rw [thr_get hi, thr_get (by omega)] at e
  have a1 := h _ (getD_mem (d := (0 : Int)) hi)
  have a2 := h _ (getD_mem (d := (0 : Int)) (show j < l.length by omega))
  have hne := h1 i j hi hj
  rcases Nat.lt_trichotomy (l.getD i 0).toNat (l.getD j 0).toNat with h3 | h3 | h3
  · exact h2 _ _ (by omega) h3 e.symm
  · exact hne (by omega)
  · exact h2 _ _ (by omega) h3 e
theorem thr_inj_first {l k : List Int} (h : (thr l k).Nodup) : l.Nodup := by
  rw [nodup_iff] at *
  intro i j hi hj e
  exact h i j (by rw [thr_len]; exact hi) hj (by rw [thr_get hi, thr_get (by omega), e])
theorem thr_cov {l k : List Int} {n : Nat} (h1 : Cov l k.length) (h2 : Cov k n) : Cov (thr l k) n := by
  intro q hq
  obtain ⟨i, hi, e⟩ := List.mem_iff_getElem.1 (h2 q hq)
  have hm := h1 i hi
  unfold thr
  exact List.mem_map.2 ⟨i, hm, by rw [Int.toNat_natCast, getD_eq hi]; exact e⟩
theorem thr_cov_second {l k : List Int} {n : Nat} (h : ∀ x ∈ l, 0 ≤ x ∧ x < k.length) (h1 : Cov (thr l k) n) : Cov k n := by
  intro q hq
  obtain ⟨x, hx, e⟩ := List.mem_map.1 (h1 q hq)
  have := h x hx
  rw [← e]
  exact getD_mem (by omega)

/-! inverses -/
/-! what the laws about kinds ask of compositions -/
def InjM (m : Mo) : Prop := m.ns.Nodup ∧ m.es.Nodup
def SurM (b : Gr) (m : Mo) : Prop := Cov m.ns b.ns.length ∧ Cov m.es b.es.length
theorem inj_comp {a b c : Gr} {m n : Mo} (h : MorOk a b m) (k : MorOk b c n) (h1 : InjM m) (h2 : InjM n) : InjM (compM m n) :=
  ⟨thr_inj (fun x hx => by rw [k.ln]; exact h.rn x hx) h1.1 h2.1, thr_inj (fun x hx => by rw [k.le]; exact h.re x hx) h1.2 h2.2⟩
theorem inj_first {m n : Mo} (h : InjM (compM m n)) : InjM m := ⟨thr_inj_first h.1, thr_inj_first h.2⟩
theorem sur_comp {a b c : Gr} {m n : Mo} (_ : MorOk a b m) (k : MorOk b c n) (h1 : SurM b m) (h2 : SurM c n) : SurM c (compM m n) :=
  ⟨thr_cov (by rw [k.ln]; exact h1.1) h2.1, thr_cov (by rw [k.le]; exact h1.2) h2.2⟩
theorem sur_second {a b c : Gr} {m n : Mo} (h : MorOk a b m) (k : MorOk b c n) (h1 : SurM c (compM m n)) : SurM c n :=
  ⟨thr_cov_second (fun x hx => by rw [k.ln]; exact h.rn x hx) h1.1, thr_cov_second (fun x hx => by rw [k.le]; exact h.re x hx) h1.2⟩

end Go.Proofs.YtaeelanbkdkppaaDoor

/-
  Contracts of partition's Generate and Quotient (stage 2's texts, for the functions that graph calls).
-/
namespace Go.Proofs.YtaeelanbkdkppaaDoor.Pt
open Go.RowKit


theorem ret_bool {a b : Bool} (h : a = b) : Ending.returned (.bool a) = .returned (.bool b) := by rw [h]
theorem ret_int {k : IntKind} {a b : Int} (h : a = b) : Ending.returned (.int k a) = .returned (.int k b) := by rw [h]

def toI (ys : List Nat) : List Int := ys.map fun n : Nat => (n : Int)
theorem toI_length (ys : List Nat) : (toI ys).length = ys.length := by simp [toI]
theorem toI_get? (ys : List Nat) (i : Nat) : (toI ys)[i]? = ys[i]?.map fun n : Nat => (n : Int) := by simp [toI]
theorem toI_at (ys : List Nat) (i : Nat) : (toI ys).getD i 0 = (at_ ys i : Int) := by
  simp only [List.getD, toI_get?, at_]
  cases ys[i]? <;> simp
/-- the slice at A reads as xs, in a block below B -/
def Ints (w : World) (B : Nat) (A : Option Addr) (xs : List Int) : Prop :=
  xs = [] ∨ ∃ b off, A = some ⟨b, off, none⟩ ∧ b < B ∧ ∀ i x, xs[i]? = some x → w.cell? ⟨b, off + i, none⟩ = some (.int .i64 x)

theorem getD_get {xs : List Int} {i : Nat} (h : i < xs.length) : xs[i]? = some (xs.getD i 0) := by simp [List.getD, h]

theorem Ints.at {w : World} {B : Nat} {A : Option Addr} {xs : List Int} (h : Ints w B A xs) {k : Nat} (hk : k < xs.length) :
    ∃ b off, A = some ⟨b, off, none⟩ ∧ b < B ∧ ∀ i, i < xs.length → w.cell? ⟨b, off + i, none⟩ = some (.int .i64 (xs.getD i 0)) := by
  rcases h with h | ⟨b, off, h1, h2, h3⟩
  · subst h; simp at hk
  · exact ⟨b, off, h1, h2, fun i hi => h3 i _ (getD_get hi)⟩

theorem Ints.atN {w : World} {B : Nat} {A : Option Addr} {ys : List Nat} (h : Ints w B A (toI ys)) {k : Nat} (hk : k < ys.length) :
    ∃ b off, A = some ⟨b, off, none⟩ ∧ b < B ∧ ∀ i, i < ys.length → w.cell? ⟨b, off + i, none⟩ = some (.int .i64 (at_ ys i : Nat)) := by
  obtain ⟨b, off, h1, h2, h3⟩ := h.at (k := k) (by rw [toI_length]; exact hk)
  exact ⟨b, off, h1, h2, fun i hi => by rw [h3 i (by rw [toI_length]; exact hi), toI_at]⟩

theorem Ints.below {w w' : World} {B : Nat} {A : Option Addr} {xs : List Int} (h : Ints w B A xs) (hb : Below B w w') : Ints w' B A xs := by
  rcases h with h | ⟨b, off, h1, h2, h3⟩
  · exact .inl h
  · exact .inr ⟨b, off, h1, h2, fun i x hx => (hb.cell (p := ⟨b, off + i, none⟩) h2).trans (h3 i x hx)⟩
theorem Ints.mono {w : World} {B B' : Nat} {A : Option Addr} {xs : List Int} (h : Ints w B A xs) (hb : B ≤ B') : Ints w B' A xs := by
  rcases h with h | ⟨b, off, h1, h2, h3⟩
  · exact .inl h
  · exact .inr ⟨b, off, h1, by omega, h3⟩
theorem Ints.up {w w' : World} {A : Option Addr} {xs : List Int} (h : Ints w w.heap.size A xs) (hb : Below w.heap.size w w') : Ints w' w'.heap.size A xs :=
  (h.below hb).mono hb.size

def cellsN (ys : List Nat) : List Value := ys.map fun n : Nat => Value.int .i64 (n : Int)
theorem cellsN_snoc (ys : List Nat) (n : Nat) : cellsN (ys ++ [n]) = cellsN ys ++ [.int .i64 (n : Int)] := by simp [cellsN]
theorem cellsN_set (ys : List Nat) (j n : Nat) : (cellsN ys).set j (.int .i64 (n : Int)) = cellsN (ys.set j n) := by simp [cellsN, List.map_set]
theorem cellsN_get {ys : List Nat} {i : Nat} (h : i < ys.length) : (cellsN ys)[i]? = some (.int .i64 (at_ ys i : Nat)) := by simp [cellsN, at_, h]
theorem addr_plain (b off j : Nat) : (⟨b, off, none⟩ : Addr).add j = ⟨b, off + j, none⟩ := Addr.add_lit _ _ _

theorem slice_of {w : World} {base : Nat} {e : TypeId} {size : Nat} {v : Value} {n : Nat} {xs : List Value} (h : w.ownsRow base e size v n xs) : ∃ ao cap, v = .slice ao n cap := by
  rcases h.2 with ⟨hv, h0⟩ | ⟨g, cap, cur, hv, _⟩
  · exact ⟨none, 0, by rw [hv, h0]⟩
  · exact ⟨_, _, hv⟩

/-- a slice that a call made -/
abbrev Own (w : World) (base : Nat) (v : Value) (ys : List Nat) : Prop := w.ownsRow base 3 1 v ys.length (cellsN ys)

theorem Own.ints {w : World} {base : Nat} {v : Value} {ys : List Nat} (h : Own w base v ys) : ∃ A c, v = .slice A ys.length c ∧ Ints w w.heap.size A (toI ys) := by
  have h0 := h
  rcases h.2 with ⟨hv, hn⟩ | ⟨g, cap, cur, hv, hb, hg, _⟩
  · exact ⟨none, 0, by rw [hv, hn], .inl (by rw [List.eq_nil_of_length_eq_zero hn]; rfl)⟩
  · refine ⟨_, _, hv, .inr ⟨g, 0, rfl, (h0.lt g (by rw [hv]; rfl)).2, fun i x hx => ?_⟩⟩
    have hc := h0.cells (g := g) (by rw [hv]; rfl)
    rw [toI_get?] at hx
    have hi : i < ys.length := by
      rcases Nat.lt_or_ge i ys.length with h1 | h1
      · exact h1
      · rw [List.getElem?_eq_none h1] at hx; cases hx
    rw [at_get? hi] at hx
    simp at hx
    have := hc i _ (cellsN_get hi)
    rw [addr_plain] at this
    rw [this, hx]

theorem Own.below {w w' : World} {base B : Nat} {v : Value} {ys : List Nat} (h : Own w base v ys) (hb : Below B w w') (hB : w.heap.size ≤ B) : Own w' base v ys := by
  refine ⟨h.1, ?_⟩
  rcases h.2 with hn | ⟨g, cap, cur, hv, hbg, hg, rest⟩
  · exact .inl hn
  · exact .inr ⟨g, cap, cur, hv, hbg, by rw [hb.block g (Nat.lt_of_lt_of_le (h.lt g (by rw [hv]; rfl)).2 hB)]; exact hg, rest⟩

theorem below_draws {B : Nat} {a w : World} (h : Below B a w) (n : Nat) : Below B a (w.drewN n) := ⟨h.os, h.tape, h.output, h.size, h.block⟩

theorem infoInt : (Tryd.prog.info? 3).map (fun i => (i.zero, i.size, i.bytes)) = some (some (.int .i64 0), 1, 8) := by kernel_rfl



def okI (xs : List Int) (i : Nat) : Bool := decide (0 ≤ xs.getD i 0) && decide (xs.getD i 0 ≤ i) && xs.getD (xs.getD i 0).toNat 0 == xs.getD i 0
def validI (xs : List Int) : Bool := decide (∀ i, i < xs.length → okI xs i = true)
def checkS (xs : List Int) : Nat := if 80 < xs.length then 3 else if validI xs then 0 else 1

theorem validI_iff {xs : List Int} : validI xs = true ↔ ∀ i, i < xs.length → okI xs i = true := by simp [validI]
theorem valid_bad {xs : List Int} {i : Nat} (h : i < xs.length) (hb : okI xs i = false) : validI xs = false := by
  rw [Bool.eq_false_iff]
  intro hv
  rw [validI_iff.1 hv i h] at hb
  cases hb
theorem okI_low {xs : List Int} {i : Nat} (h : xs.getD i 0 < 0) : okI xs i = false := by unfold okI; rw [decide_eq_false (by omega)]; rfl
theorem okI_high {xs : List Int} {i : Nat} (h : (i : Int) < xs.getD i 0) : okI xs i = false := by unfold okI; rw [decide_eq_false (p := xs.getD i 0 ≤ i) (by omega)]; simp
theorem okI_mid {xs : List Int} {i n : Nat} (h : xs.getD i 0 = n) (hn : n ≤ i) : okI xs i = (xs.getD n 0 == (n : Int)) := by
  unfold okI
  rw [h, decide_eq_true (by omega), decide_eq_true (by omega)]
  simp
theorem okI_toI {ys : List Nat} (h : V ys) {i : Nat} (hi : i < ys.length) : okI (toI ys) i = true := by
  have h1 := h.le hi
  have h2 := h.idem hi
  rw [okI_mid (n := at_ ys i) (toI_at ys i) h1, toI_at, h2]
  simp
theorem valid_toI {ys : List Nat} (h : V ys) : validI (toI ys) = true := validI_iff.2 fun i hi => okI_toI h (by rw [toI_length] at hi; exact hi)

theorem checkS_long {xs : List Int} (h : 80 < xs.length) : checkS xs = 3 := by unfold checkS; rw [if_pos h]
theorem checkS_ok {xs : List Int} (h : xs.length ≤ 80) (hv : validI xs = true) : checkS xs = 0 := by unfold checkS; rw [if_neg (by omega), if_pos hv]
theorem checkS_bad {xs : List Int} (h : xs.length ≤ 80) (hv : validI xs = false) : checkS xs = 1 := by unfold checkS; rw [if_neg (by omega), hv]; rfl
theorem grown_refl (a : World) (r : Option Nat) : a.grownBy a r := ⟨rfl, rfl, rfl, Nat.le_refl _, fun _ _ _ => rfl⟩
theorem Own.cell {w : World} {base g c : Nat} {ys : List Nat} (h : Own w base (.slice (some ⟨g, 0, none⟩) ys.length c) ys) {j : Nat} (hj : j < ys.length) : w.cell? ⟨g, j, none⟩ = some (.int .i64 (at_ ys j : Nat)) := by
  rw [World.ownsRow.cellAt h j (by omega), cellsN_get hj]
theorem Own.set {w : World} {base g c n : Nat} {ys : List Nat} (hn : n = ys.length) (h : Own w base (.slice (some ⟨g, 0, none⟩) n c) ys) (j m : Nat) :
    Own (w.setCell ⟨g, j, none⟩ (.int .i64 (m : Int))) base (.slice (some ⟨g, 0, none⟩) n c) (ys.set j m) ∧ w.grownBy (w.setCell ⟨g, j, none⟩ (.int .i64 (m : Int))) (some g) := by
  subst hn
  have := World.ownsRow.stored h j (.int .i64 (m : Int))
  rw [cellsN_set] at this
  refine ⟨?_, this.2⟩
  have e : (ys.set j m).length = ys.length := by simp
  unfold Own
  rw [e]
  exact this.1
theorem Own.grown {w w' : World} {base g : Nat} {v : Value} {ys : List Nat} (h : Own w base v ys) (hg : w.grownBy w' (some g)) (hne : v.ownBlock ≠ some g) : Own w' base v ys := World.ownsRow.kept h hg (.inr hne)

def toLow (lo hi : Nat) (x : Nat) : Nat := if x = hi then lo else x
theorem mergeS_lt {ys : List Nat} {i k : Nat} (h : at_ ys i < at_ ys k) : mergeS ys i k = ys.map (toLow (at_ ys i) (at_ ys k)) := by
  unfold mergeS toLow
  rw [Nat.max_eq_right (Nat.le_of_lt h), Nat.min_eq_left (Nat.le_of_lt h)]
theorem mergeS_gt {ys : List Nat} {i k : Nat} (h : at_ ys k < at_ ys i) : mergeS ys i k = ys.map (toLow (at_ ys k) (at_ ys i)) := by
  unfold mergeS toLow
  rw [Nat.max_eq_left (Nat.le_of_lt h), Nat.min_eq_right (Nat.le_of_lt h)]
theorem mergeS_eq {ys : List Nat} {i k : Nat} (h : at_ ys i = at_ ys k) : mergeS ys i k = ys := by
  unfold mergeS
  rw [h, Nat.max_self, Nat.min_self]
  have : (fun x => if x = at_ ys k then at_ ys k else x) = id := by
    funext x
    show (if x = at_ ys k then at_ ys k else x) = x
    split
    · rename_i e; exact e.symm
    · rfl
  rw [this, List.map_id]

theorem Own.lt' {w : World} {base : Nat} {v : Value} {ys : List Nat} (h : Own w base v ys) : ∀ k, v.ownBlock = some k → base ≤ k := fun k hk => (h.lt k hk).1

theorem wpList_append_int {w : World} {ops : Array Oper} {rest : List Oper} {o : Oper} {a : Act} {Q : Exit → Act → World → Prop} (hgd : o.guard = none) (s x : Operand)
    (ho : o.op = .call { callee := .builtin .append, args := #[s, x], argTypes := #[22, 22] })
    (base : Nat) (v : Value) (ys : List Nat) (hs : a.eval s = v) (hown : Own w base v ys) (ad : Addr) (c m : Nat) (hx : a.eval x = .slice (some ad) 1 c)
    (hc : w.cell? ad = some (.int .i64 (m : Int))) (hl : ys.length ≤ 1000000) (hbase : base ≤ w.heap.size)
    (hK : ∀ v' w', Own w' base v' (ys ++ [m]) → w.grownBy w' v.ownBlock → Below base w w' → wpList Tryd.prog ops Q rest (a.put o.dst v') w') : wpList Tryd.prog ops Q (o :: rest) a w := by
  obtain ⟨i0, hi, hz0, hz1, hz2⟩ := info_parts infoInt
  refine wpList_append_own w hgd s x 22 ho base 3 i0 (.int .i64 0) 1 8 Tryd.underlying22 hi hz0 hz1 hz2 rfl (by decide) v ys.length (cellsN ys) hs hown ad 1 c [.int .i64 (m : Int)] hx rfl ?_ ?_ (by unfold maxLen; omega) (by omega) hbase ?_
  · intro j u hj
    cases j with
    | zero => simp at hj; subst hj; obtain ⟨b, off, sp⟩ := ad; have : (⟨b, off, sp⟩ : Addr).add 0 = ⟨b, off, sp⟩ := by simp [Addr.add]
              rw [this]; exact hc
    | succ j => simp at hj
  · intro u hu; simp at hu; subst hu; rfl
  · intro v' w' h1 h2 _
    refine hK v' w' ?_ h2 ((Below.refl base w).grown h2 hbase hown.lt')
    unfold Own
    rw [cellsN_snoc, List.length_append]
    exact h1

theorem Own.cast {w : World} {base : Nat} {v : Value} {ys zs : List Nat} (e : ys = zs) (h : Own w base v ys) : Own w base v zs := e ▸ h


theorem Own.slice_pos {w : World} {base : Nat} {v : Value} {ys : List Nat} (h : Own w base v ys) (hp : 0 < ys.length) : ∃ g c, v = .slice (some ⟨g, 0, none⟩) ys.length c ∧ base ≤ g := by
  rcases h.2 with ⟨_, hn⟩ | ⟨g, cap, cur, hv, hb, _⟩
  · omega
  · exact ⟨g, cap, hv, hb⟩




theorem Own.mono {w : World} {base base' : Nat} {v : Value} {ys : List Nat} (h : Own w base v ys) (hb : base' ≤ base) : Own w base' v ys :=
  ⟨h.1, h.2.imp id fun ⟨g, cap, cur, hv, hg, r⟩ => ⟨g, cap, cur, hv, Nat.le_trans hb hg, r⟩⟩

theorem cell_new (w : World) (u : Value) (t : TypeId) : (w.alloc (.cells #[u] t)).cell? ⟨w.heap.size, 0, none⟩ = some u := by simp



def Res3 (w w' : World) (R : List Nat) (n : Nat) (e : Ending) : Prop := ∃ v, e = .returned (.tuple #[v, .int .i64 n, .int .i64 0]) ∧ Own w' w.heap.size v R ∧ Below w.heap.size w w'

theorem check_ok {us : List Nat} (h : V us) (h80 : us.length ≤ 80) : checkS (toI us) = 0 := checkS_ok (by rw [toI_length]; exact h80) (valid_toI h)

/-- the slice at A reads as these pairs, in a block below B -/
def Pairs (w : World) (B : Nat) (A : Option Addr) (ps : List (Nat × Nat)) : Prop :=
  ps = [] ∨ ∃ b off, A = some ⟨b, off, none⟩ ∧ b < B ∧ ∀ i, i < ps.length → w.cell? ⟨b, off + i * 2, none⟩ = some (.int .i64 ((ps.getD i (0, 0)).1 : Nat)) ∧ w.cell? ⟨b, off + i * 2 + 1, none⟩ = some (.int .i64 ((ps.getD i (0, 0)).2 : Nat))
theorem Pairs.at {w : World} {B : Nat} {A : Option Addr} {ps : List (Nat × Nat)} (h : Pairs w B A ps) {k : Nat} (hk : k < ps.length) :
    ∃ b off, A = some ⟨b, off, none⟩ ∧ b < B ∧ w.cell? ⟨b, off + k * 2, none⟩ = some (.int .i64 ((ps.getD k (0, 0)).1 : Nat)) ∧ w.cell? ⟨b, off + k * 2 + 1, none⟩ = some (.int .i64 ((ps.getD k (0, 0)).2 : Nat)) := by
  rcases h with h | ⟨b, off, h1, h2, h3⟩
  · subst h; simp at hk
  · exact ⟨b, off, h1, h2, (h3 k hk).1, (h3 k hk).2⟩
theorem Pairs.below {w w' : World} {B : Nat} {A : Option Addr} {ps : List (Nat × Nat)} (h : Pairs w B A ps) (hb : Below B w w') : Pairs w' B A ps := by
  rcases h with h | ⟨b, off, h1, h2, h3⟩
  · exact .inl h
  · exact .inr ⟨b, off, h1, h2, fun i hi => ⟨(hb.cell (p := ⟨b, off + i * 2, none⟩) h2).trans (h3 i hi).1, (hb.cell (p := ⟨b, off + i * 2 + 1, none⟩) h2).trans (h3 i hi).2⟩⟩
theorem Pairs.mono {w : World} {B B' : Nat} {A : Option Addr} {ps : List (Nat × Nat)} (h : Pairs w B A ps) (hb : B ≤ B') : Pairs w B' A ps := by
  rcases h with h | ⟨b, off, h1, h2, h3⟩
  · exact .inl h
  · exact .inr ⟨b, off, h1, by omega, h3⟩

end Go.Proofs.YtaeelanbkdkppaaDoor.Pt

/-
  The reference's Valid, one, Merge, Quotient of partitions (stage 2's texts).
-/
namespace Go.Proofs.YtaeelanbkdkppaaDoor.Pt
open Go.RowKit

theorem take_map_snoc (f : Nat → Nat) (ys : List Nat) {j : Nat} (h : j < ys.length) : (ys.map f).take (j + 1) = (ys.map f).take j ++ [f (at_ ys j)] := by
  rw [List.take_succ_eq_append_getElem (by simpa using h), List.getElem_map, at_get h]

theorem refValid_any (xs : List Int) (A : Option Addr) (c : Nat) (w : World) (hl : xs.length ≤ maxLen) (hT : Ints w w.heap.size A xs) :
    Calls Tryd.prog 87 #[.slice A xs.length c] w fun e w' => e = .returned (.bool (checkS xs == 0)) ∧ Below w.heap.size w w' := by
  unfold maxLen at hl
  by_cases h80 : 80 < xs.length
  · have H := Lib.hid (checkS_long h80)
    clear hT
    go_enter Tryd.func87, Tryd.ntmps87
    go_wp2
    go_ret
    exact ⟨ret_bool (by rw [H.out]; rfl), Below.refl _ _⟩
  · have HT := Lib.hid hT
    have HL := Lib.hid h80
    have hl8 : xs.length ≤ 80 := by omega
    clear hT hl h80
    go_enter Tryd.func87, Tryd.ntmps87
    go_wp2_with fail
    go_loopw [3] (fun i wr => ∃ k q : Nat, k ≤ xs.length ∧ i = .int .i64 k ∧ wr = w.drewN q ∧ ∀ j, j < k → okI xs j = true) (fun i _ => xs.length - (intOf i).toNat)
    case atStart => exact ⟨0, 0, Nat.zero_le _, rfl, rfl, fun j hj => by omega⟩
    case round =>
      obtain ⟨k, q, hk, rfl, rfl, hok⟩ := hrel
      have HK := Lib.hid hok
      clear hok
      by_cases hlt : k < xs.length
      · obtain ⟨b, off, rfl, hb, hc⟩ := HT.out.at hlt
        have ck := hc k hlt
        have HC := Lib.hid hc
        have hk0 : (0 : Int) ≤ (k : Int) := by omega
        have hk1 : (k : Int) < (xs.length : Int) := by omega
        have hk2 : ((k : Int)).toNat = k := by omega
        clear hc
        by_cases h1 : xs.getD k 0 < 0
        · have H := Lib.hid (checkS_bad hl8 (valid_bad hlt (okI_low h1)))
          generalize xs.getD k 0 = x at ck h1
          have t1 : decide (x < 0) = true := decide_eq_true h1
          go_wp2_with fail
          go_quiet (fail)
          go_wp2_with fail
          go_ret
          exact ⟨ret_bool (by rw [H.out]; rfl), below_draws (below_draws (Below.refl _ _) q) _⟩
        · by_cases h2 : (k : Int) < xs.getD k 0
          · have H := Lib.hid (checkS_bad hl8 (valid_bad hlt (okI_high h2)))
            generalize xs.getD k 0 = x at ck h1 h2
            have t1 : decide (x < 0) = false := decide_eq_false h1
            have t2 : decide ((k : Int) < x) = true := decide_eq_true h2
            go_wp2_with fail
            go_quiet (fail)
            go_wp2_with fail
            go_ret
            exact ⟨ret_bool (by rw [H.out]; rfl), below_draws (below_draws (Below.refl _ _) q) _⟩
          · obtain ⟨n, hn⟩ : ∃ n : Nat, xs.getD k 0 = n := ⟨(xs.getD k 0).toNat, by omega⟩
            have hnk : n ≤ k := by omega
            rw [hn] at ck
            have HO := Lib.hid (okI_mid hn hnk)
            have cn := HC.out n (by omega)
            clear hn h1 h2
            generalize xs.getD n 0 = y at HO cn
            have hn0 : (0 : Int) ≤ (n : Int) := by omega
            have hn1 : (n : Int) < (xs.length : Int) := by omega
            have hn2 : ((n : Int)).toNat = n := by omega
            have t2 : decide ((n : Int) < 0) = false := decide_eq_false (by omega)
            have t3 : decide ((k : Int) < (n : Int)) = false := decide_eq_false (by omega)
            have t4 : decide (k < n) = false := decide_eq_false (by omega)
            cases hy : (y == (n : Int)) with
            | false =>
              have H := Lib.hid (checkS_bad hl8 (valid_bad hlt (HO.out.trans hy)))
              have t1 : (y != (n : Int)) = true := by simp [bne, hy]
              clear hy
              go_wp2_with fail
              go_quiet (fail)
              go_wp2_with fail
              go_ret
              exact ⟨ret_bool (by rw [H.out]; rfl), below_draws (below_draws (Below.refl _ _) q) _⟩
            | true =>
              have H := Lib.hid (HO.out.trans hy)
              have t1 : (y != (n : Int)) = false := by simp [bne, hy]
              clear hy
              go_wp2_with fail
              go_quiet (fail)
              go_wp2_with fail
              go_roundw
              case rel => exact ⟨k + 1, _, by omega, by go_num, rfl, fun j hj => by
                by_cases e : j = k
                · subst e; exact H.out
                · exact HK.out j (by omega)⟩
              case measure => simp [intOf]; omega
      · have H := Lib.hid (checkS_ok hl8 (validI_iff.2 fun j hj => HK.out j (by omega)))
        go_wp2
        go_ret
        exact ⟨ret_bool (by rw [H.out]; rfl), below_draws (Below.refl _ _) q⟩

theorem one_any (xs : List Int) (A : Option Addr) (c : Nat) (w : World) (hl : xs.length ≤ maxLen) (hT : Ints w w.heap.size A xs) :
    Calls Tryd.prog 73 #[.slice A xs.length c] w fun e w' => e = .returned (.int .i64 (checkS xs)) ∧ Below w.heap.size w w' := by
  have HC := Lib.hid (refValid_any xs A c w hl hT)
  clear hT
  unfold maxLen at hl
  by_cases h80 : 80 < xs.length
  · have H := Lib.hid (checkS_long h80)
    go_enter Tryd.func73, Tryd.ntmps73
    go_wp2
    go_ret
    exact ⟨ret_int (by rw [H.out]; rfl), Below.refl _ _⟩
  · have hl8 : xs.length ≤ 80 := by omega
    clear h80
    cases hv : validI xs with
    | false =>
      have H := Lib.hid (checkS_bad hl8 hv)
      rw [H.out] at HC
      clear hv
      go_enter Tryd.func73, Tryd.ntmps73
      go_wp2_with fail
      refine HC.out.mono ?_
      rintro e w' ⟨rfl, hb⟩
      go_wp2_with fail
      go_ret
      exact ⟨ret_int (by rw [H.out]; rfl), hb⟩
    | true =>
      have H := Lib.hid (checkS_ok hl8 hv)
      rw [H.out] at HC
      clear hv
      go_enter Tryd.func73, Tryd.ntmps73
      go_wp2_with fail
      refine HC.out.mono ?_
      rintro e w' ⟨rfl, hb⟩
      go_wp2_with fail
      go_ret
      exact ⟨ret_int (by rw [H.out]; rfl), hb⟩

theorem refMerge_any (ys : List Nat) (A : Option Addr) (c i k : Nat) (w : World) (hi : i < ys.length) (hk : k < ys.length) (hl : ys.length ≤ 1000) (hT : Ints w w.heap.size A (toI ys)) :
    Calls Tryd.prog 60 #[.slice A ys.length c, .int .i64 i, .int .i64 k] w fun e w' =>
      ∃ v, e = .returned v ∧ Own w' w.heap.size v (mergeS ys i k) ∧ Below w.heap.size w w' := by
  obtain ⟨b, off, rfl, hb, hc⟩ := hT.atN hi
  have ci := hc i hi
  have ck := hc k hk
  have HC := Lib.hid (fun w1 (hb1 : Below w.heap.size w w1) j (hj : j < ys.length) => (hb1.cell (p := ⟨b, off + j, none⟩) hb).trans (hc j hj))
  have hi0 : (0 : Int) ≤ (i : Int) := by omega
  have hi1 : (i : Int) < (ys.length : Int) := by omega
  have hi2 : ((i : Int)).toNat = i := by omega
  have hk0 : (0 : Int) ≤ (k : Int) := by omega
  have hk1 : (k : Int) < (ys.length : Int) := by omega
  have hk2 : ((k : Int)).toNat = k := by omega
  clear hT hc
  obtain ⟨lo, hg, H, hle, hlo, hhi⟩ : ∃ lo hg, mergeS ys i k = ys.map (toLow lo hg) ∧ lo ≤ hg ∧
      (if at_ ys k < at_ ys i then at_ ys k else at_ ys i) = lo ∧ (if at_ ys i < at_ ys k then at_ ys k else at_ ys i) = hg := by
    rcases Nat.lt_trichotomy (at_ ys i) (at_ ys k) with h | h | h
    · exact ⟨_, _, mergeS_lt h, by omega, if_neg (by omega), if_pos h⟩
    · refine ⟨at_ ys i, at_ ys i, ?_, Nat.le_refl _, if_neg (by omega), if_neg (by omega)⟩
      rw [mergeS_eq h]
      have : toLow (at_ ys i) (at_ ys i) = id := by
        funext x
        unfold toLow
        split
        · rename_i e; exact e.symm
        · rfl
      rw [this, List.map_id]
    · exact ⟨_, _, mergeS_gt h, by omega, if_pos h, if_neg (by omega)⟩
  have H1 := Lib.hid H
  clear H
  rcases Nat.lt_trichotomy (at_ ys i) (at_ ys k) with h | h | h
  case inr.inl =>
    rw [if_neg (by omega)] at hlo hhi
    rw [← h] at ck
    have e : lo = hg := by omega
    subst e
    rw [hlo] at ci ck
    clear hlo hhi h
    go_enter Tryd.func60, Tryd.ntmps60
    go_wp2_with fail
    go_quiet (fail)
    go_wp2_with fail
    go_loopw [9, 10, 11] (fun v x _ wr => ∃ j : Nat, j ≤ ys.length ∧ x = .int .i64 j ∧ Own wr w.heap.size v ((ys.map (toLow lo lo)).take j) ∧ Below w.heap.size w wr) (fun _ x _ _ => ys.length - (intOf x).toNat)
    case atStart => exact ⟨0, Nat.zero_le _, rfl, World.ownsRow_nil _ _ _ _, below_draws (Below.refl _ _) _⟩
    case round =>
      obtain ⟨j, hj, rfl, hown, hbel⟩ := hrel
      obtain ⟨ao, cap, rfl⟩ := slice_of hown
      have HW := Lib.hid hown
      have HG := Lib.hid hbel
      have hsz := hbel.size
      clear hown hbel ci ck
      by_cases hlt : j < ys.length
      · have cj := HC.out _ HG.out j hlt
        have H2 := Lib.hid (take_map_snoc (toLow lo lo) ys hlt)
        have hlen : ((ys.map (toLow lo lo)).take j).length ≤ 1000 := by simp; omega
        generalize at_ ys j = x at cj H2
        by_cases hx : x = lo
        · have t3 : ((x : Int) == (lo : Int)) = true := by simp; omega
          have H3 := Lib.hid (show toLow lo lo x = lo by unfold toLow; rw [if_pos hx])
          clear hx
          go_wp2_with (at_builtin; refine wpList_append_int rfl _ _ rfl w.heap.size _ ((ys.map (toLow lo lo)).take j) rfl (World.ownsRow.alloc HW.out _) ⟨wr.heap.size, 0, none⟩ 1 lo rfl ?qc1 ?qc2 ?qc3 ?_)
          case qc1 => simp
          case qc2 => omega
          case qc3 => simp; omega
          intro v' w1 hown1 hgr1 hb1
          have HW1 := Lib.hid hown1
          have HB1 := Lib.hid hb1
          clear hown1 hb1 hgr1
          go_wp2_with fail
          go_roundw
          case rel => exact ⟨j + 1, by omega, by go_num, by rw [H2.out, H3.out]; exact HW1.out, (HG.out.alloc (by omega) _).trans HB1.out⟩
          case measure => simp [intOf]; omega
        · have t3 : ((x : Int) == (lo : Int)) = false := by simp; omega
          have H3 := Lib.hid (show toLow lo lo x = x by unfold toLow; rw [if_neg hx])
          clear hx
          go_wp2_with (at_builtin; refine wpList_append_int rfl _ _ rfl w.heap.size _ ((ys.map (toLow lo lo)).take j) rfl (World.ownsRow.alloc HW.out _) ⟨wr.heap.size, 0, none⟩ 1 x rfl ?qc1 ?qc2 ?qc3 ?_)
          case qc1 => simp
          case qc2 => omega
          case qc3 => simp; omega
          intro v' w1 hown1 hgr1 hb1
          have HW1 := Lib.hid hown1
          have HB1 := Lib.hid hb1
          clear hown1 hb1 hgr1
          go_wp2_with fail
          go_roundw
          case rel => exact ⟨j + 1, by omega, by go_num, by rw [H2.out, H3.out]; exact HW1.out, (HG.out.alloc (by omega) _).trans HB1.out⟩
          case measure => simp [intOf]; omega
      · have H2 := Lib.hid (show ∀ f : Nat → Nat, (ys.map f).take j = ys.map f from fun f => List.take_of_length_le (by simp; omega))
        go_wp2
        go_ret
        exact ⟨_, rfl, by rw [H1.out]; exact Own.cast (H2.out _) HW.out, HG.out⟩
  case' inl =>
    rw [if_neg (by omega)] at hlo
    rw [if_pos h] at hhi
    rw [hlo] at ci
    rw [hhi] at ck
    have hlh : lo < hg := by omega
    clear hlo hhi h
  case' inr.inr =>
    rw [if_pos h] at hlo
    rw [if_neg (by omega)] at hhi
    rw [hhi] at ci
    rw [hlo] at ck
    have hlh : lo < hg := by omega
    clear hlo hhi h
  all_goals
    go_enter Tryd.func60, Tryd.ntmps60
    go_wp2_with fail
    go_quiet (fail)
    go_wp2_with fail
    go_loopw [9, 10, 11] (fun v x _ wr => ∃ j : Nat, j ≤ ys.length ∧ x = .int .i64 j ∧ Own wr w.heap.size v ((ys.map (toLow lo hg)).take j) ∧ Below w.heap.size w wr) (fun _ x _ _ => ys.length - (intOf x).toNat)
    case atStart => exact ⟨0, Nat.zero_le _, rfl, World.ownsRow_nil _ _ _ _, below_draws (Below.refl _ _) _⟩
    case round =>
      obtain ⟨j, hj, rfl, hown, hbel⟩ := hrel
      obtain ⟨ao, cap, rfl⟩ := slice_of hown
      have HW := Lib.hid hown
      have HG := Lib.hid hbel
      have hsz := hbel.size
      clear hown hbel ci ck
      by_cases hlt : j < ys.length
      · have cj := HC.out _ HG.out j hlt
        have H2 := Lib.hid (take_map_snoc (toLow lo hg) ys hlt)
        have hlen : ((ys.map (toLow lo hg)).take j).length ≤ 1000 := by simp; omega
        generalize at_ ys j = x at cj H2
        by_cases hx : x = hg
        · have t3 : ((x : Int) == (hg : Int)) = true := by simp; omega
          have H3 := Lib.hid (show toLow lo hg x = lo by unfold toLow; rw [if_pos hx])
          clear hx
          go_wp2_with (at_builtin; refine wpList_append_int rfl _ _ rfl w.heap.size _ ((ys.map (toLow lo hg)).take j) rfl (World.ownsRow.alloc HW.out _) ⟨wr.heap.size, 0, none⟩ 1 lo rfl ?qc1 ?qc2 ?qc3 ?_)
          case qc1 => simp
          case qc2 => omega
          case qc3 => simp; omega
          intro v' w1 hown1 hgr1 hb1
          have HW1 := Lib.hid hown1
          have HB1 := Lib.hid hb1
          clear hown1 hb1 hgr1
          go_wp2_with fail
          go_roundw
          case rel => exact ⟨j + 1, by omega, by go_num, by rw [H2.out, H3.out]; exact HW1.out, (HG.out.alloc (by omega) _).trans HB1.out⟩
          case measure => simp [intOf]; omega
        · have t3 : ((x : Int) == (hg : Int)) = false := by simp; omega
          have H3 := Lib.hid (show toLow lo hg x = x by unfold toLow; rw [if_neg hx])
          clear hx
          go_wp2_with (at_builtin; refine wpList_append_int rfl _ _ rfl w.heap.size _ ((ys.map (toLow lo hg)).take j) rfl (World.ownsRow.alloc HW.out _) ⟨wr.heap.size, 0, none⟩ 1 x rfl ?qc1 ?qc2 ?qc3 ?_)
          case qc1 => simp
          case qc2 => omega
          case qc3 => simp; omega
          intro v' w1 hown1 hgr1 hb1
          have HW1 := Lib.hid hown1
          have HB1 := Lib.hid hb1
          clear hown1 hb1 hgr1
          go_wp2_with fail
          go_roundw
          case rel => exact ⟨j + 1, by omega, by go_num, by rw [H2.out, H3.out]; exact HW1.out, (HG.out.alloc (by omega) _).trans HB1.out⟩
          case measure => simp [intOf]; omega
      · have H2 := Lib.hid (show ∀ f : Nat → Nat, (ys.map f).take j = ys.map f from fun f => List.take_of_length_le (by simp; omega))
        go_wp2
        go_ret
        exact ⟨_, rfl, by rw [H1.out]; exact Own.cast (H2.out _) HW.out, HG.out⟩

theorem refQuo_ok (us : List Nat) (A : Option Addr) (c : Nat) (w : World) (hv : V us) (h80 : us.length ≤ 80) (hA : Ints w w.heap.size A (toI us)) :
    Calls Tryd.prog 61 #[.slice A us.length c] w fun e w' => Res3 w w' (quoS us) (rank us us.length) e := by
  have HC : Hid (Calls Tryd.prog 73 #[.slice A us.length c] w fun e w' => e = .returned (.int .i64 0) ∧ Below w.heap.size w w') := by
    have := one_any (toI us) A c w (by rw [toI_length]; unfold maxLen; omega) hA
    rw [check_ok hv h80, toI_length] at this
    exact this
  have HA := Lib.hid hA
  have HV := Lib.hid hv
  clear hA hv
  go_enter Tryd.func61, Tryd.ntmps61
  go_wp2_with fail
  refine HC.out.mono ?_
  rintro e w0 ⟨rfl, hb0⟩
  have HB := Lib.hid hb0
  clear hb0
  go_wp2_with fail
  go_loopw [6, 7, 8] (fun v m x wr => ∃ k : Nat, k ≤ us.length ∧ x = .int .i64 k ∧ m = .int .i64 (rank us k : Nat) ∧ Own wr w.heap.size v ((quoS us).take k) ∧ Below w.heap.size w wr) (fun _ _ x _ => us.length - (intOf x).toNat)
  case atStart => exact ⟨0, Nat.zero_le _, rfl, rfl, World.ownsRow_nil _ _ _ _, HB.out⟩
  case round =>
    obtain ⟨k, hk, rfl, rfl, hown, hbel⟩ := hrel
    have hsz := hbel.size
    have hlen : ((quoS us).take k).length = k := by rw [List.length_take, quoS_length]; omega
    by_cases hlt : k < us.length
    · obtain ⟨b, off, rfl, hb, hc⟩ := (HA.out.below hbel).atN hlt
      have ck := hc k hlt
      have HLN := Lib.hid hlen
      have hlen1 : ((quoS us).take k).length ≤ 80 := by omega
      have HW := Lib.hid hown
      have HG := Lib.hid hbel
      have hrk := rank_le us k
      have hle := HV.out.le hlt
      have HS := Lib.hid (quoS_take (p := us) hlt)
      by_cases he : at_ us k = k
      · have HR := Lib.hid (rank_yes he)
        obtain ⟨ao, cap, rfl⟩ := slice_of hown
        rw [he] at ck HS
        clear he hown hbel hc hlen
        generalize rank us k = m at hrk HR HS ⊢
        generalize (quoS us).take k = qs at HLN hlen1 HW HS
        have t1 : ((k : Int) == (k : Int)) = true := by simp
        go_wp2_with (at_builtin; refine wpList_append_int (w := wr.alloc _) rfl _ _ rfl w.heap.size _ qs rfl ?y1 ⟨wr.heap.size, 0, none⟩ 1 m rfl ?y2 ?y3 ?y4 ?_)
        case y1 => exact World.ownsRow.alloc HW.out _
        case y2 => exact cell_new _ _ _
        case y3 => omega
        case y4 => simp; omega
        intro v2 w2 hown2 _ hb2
        have HW2 := Lib.hid hown2
        have HB2 := Lib.hid ((HG.out.alloc hsz _).trans hb2)
        clear hown2 hb2
        go_wp2_with fail
        go_roundw
        case rel => exact ⟨k + 1, by omega, by go_num, by rw [HR.out]; go_num, Own.cast HS.out.symm HW2.out, HB2.out⟩
        case measure => simp [intOf]; omega
      · have HR := Lib.hid (rank_no he)
        have hlk : at_ us k < k := by omega
        obtain ⟨g, cp, hv2, hg⟩ := hown.slice_pos (by omega)
        subst hv2
        have gl : wr.cell? ⟨g, at_ us k, none⟩ = some (.int .i64 (at_ ((quoS us).take k) (at_ us k) : Nat)) := Own.cell hown (by omega)
        have hq : at_ ((quoS us).take k) (at_ us k) = rank us (at_ us k) := by
          have := quoS_at (p := us) (i := at_ us k) (by omega)
          rw [HV.out.idem hlt] at this
          rw [← this]
          exact at_take hlk
        rw [hq] at gl
        have t1 : ((at_ us k : Int) == (k : Int)) = false := by simp; omega
        have hl1 : at_ us k < ((quoS us).take k).length := by omega
        clear he hown hbel hc hlen hq
        generalize rank us (at_ us k) = m at HS gl
        generalize at_ us k = y at ck gl t1 hle hlk hl1
        generalize (quoS us).take k = qs at HLN hlen1 HW HS hl1
        go_wp2_with (at_builtin; refine wpList_append_int (w := wr.alloc _) rfl _ _ rfl w.heap.size _ qs rfl ?y1 ⟨wr.heap.size, 0, none⟩ 1 m rfl ?y2 ?y3 ?y4 ?_)
        case y1 => exact World.ownsRow.alloc HW.out _
        case y2 => exact cell_new _ _ _
        case y3 => omega
        case y4 => simp; omega
        intro v2 w2 hown2 _ hb2
        have HW2 := Lib.hid hown2
        have HB2 := Lib.hid ((HG.out.alloc hsz _).trans hb2)
        clear hown2 hb2
        go_wp2_with fail
        go_roundw
        case rel => exact ⟨k + 1, by omega, by go_num, by rw [HR.out], Own.cast HS.out.symm HW2.out, HB2.out⟩
        case measure => simp [intOf]; omega
    · have e : k = us.length := by omega
      subst e
      have HT := Lib.hid (show (quoS us).take us.length = quoS us from List.take_of_length_le (by rw [quoS_length]; exact Nat.le_refl _))
      have HW := Lib.hid hown
      obtain ⟨ao, cap, rfl⟩ := slice_of hown
      clear hown hlen
      go_wp2
      go_ret3
      exact ⟨_, rfl, Own.cast HT.out HW.out, hbel⟩

set_option maxHeartbeats 1000000 in
theorem refFinest_any (n : Nat) (w : World) (hn : n ≤ 1000) :
    Calls Tryd.prog 53 #[.int .i64 n] w fun e w' => ∃ v, e = .returned v ∧ Own w' w.heap.size v (List.range n) ∧ Below w.heap.size w w' := by
  go_enter Tryd.func53, Tryd.ntmps53
  go_wp2_with fail
  go_loopw [3, 4] (fun v x wr => ∃ j : Nat, j ≤ n ∧ x = .int .i64 j ∧ Own wr w.heap.size v (List.range j) ∧ Below w.heap.size w wr) (fun _ x _ => n - (intOf x).toNat)
  case atStart => exact ⟨0, Nat.zero_le _, rfl, World.ownsRow_nil _ _ _ _, Below.refl _ _⟩
  case round =>
    obtain ⟨j, hj, rfl, hown, hbel⟩ := hrel
    obtain ⟨ao, cap, rfl⟩ := slice_of hown
    have HW := Lib.hid hown
    have HG := Lib.hid hbel
    have hsz := hbel.size
    clear hown hbel
    by_cases hlt : j < n
    · go_wp2_with (at_builtin; refine wpList_append_int rfl _ _ rfl w.heap.size _ (List.range j) rfl (World.ownsRow.alloc HW.out _) ⟨wr.heap.size, 0, none⟩ 1 j rfl ?qc1 ?qc2 ?qc3 ?_)
      case qc1 => simp
      case qc2 => rw [List.length_range]; omega
      case qc3 => simp; omega
      intro v' w1 hown1 hgr1 hb1
      rw [← List.range_succ] at hown1
      have HW1 := Lib.hid hown1
      have HB1 := Lib.hid hb1
      clear hown1 hb1 hgr1
      go_wp2_with fail
      go_roundw
      case rel => exact ⟨j + 1, by omega, by go_num, HW1.out, (HG.out.alloc (by omega) _).trans HB1.out⟩
      case measure => simp [intOf]; omega
    · have e : j = n := by omega
      subst e
      go_wp2
      go_ret
      exact ⟨_, rfl, HW.out, HG.out⟩

end Go.Proofs.YtaeelanbkdkppaaDoor.Pt

/-
  The image of a graph, as plain data: nodes of one class have one type.
-/
namespace Go.Proofs.YtaeelanbkdkppaaDoor
open Go.Proofs.YtaeelanbkdkppaaDoor.Pt (at_ V mergeS at_merge V_merge V_range at_range mergeS_length rank quoS quoS_length quoS_at rank_lt rank_le fixs_at toI toI_length toI_at)

/-- a partition of the nodes: those of one class have one type -/
structure ClsOk (g : Gr) (ys : List Nat) : Prop where
  v : V ys
  l : ys.length = g.ns.length
  t : ∀ i, i < g.ns.length → g.ns.getD (at_ ys i) 0 = g.ns.getD i 0
theorem cls_range (g : Gr) : ClsOk g (List.range g.ns.length) := ⟨V_range _, by simp, fun i hi => by rw [at_range hi]⟩
theorem cls_merge {g : Gr} {ys : List Nat} (h : ClsOk g ys) {a b : Nat} (ha : a < g.ns.length) (hb : b < g.ns.length) (he : g.ns.getD a 0 = g.ns.getD b 0) : ClsOk g (mergeS ys a b) := by
  refine ⟨V_merge h.v (by rw [h.l]; exact ha) (by rw [h.l]; exact hb), by rw [mergeS_length]; exact h.l, fun i hi => ?_⟩
  rw [at_merge (by rw [h.l]; exact hi)]
  split
  · rename_i e
    have h1 := h.t a ha
    have h2 := h.t b hb
    have h3 := h.t i hi
    rw [e] at h3
    rcases Nat.le_total (at_ ys a) (at_ ys b) with k | k
    · rw [Nat.max_eq_right k] at h3
      rw [Nat.min_eq_left k, h1, he, ← h2, h3]
    · rw [Nat.max_eq_left k] at h3
      rw [Nat.min_eq_right k, h2, ← he, ← h1, h3]
  · exact h.t i hi
/-- the number of a node's class -/
def cl (ys : List Nat) (i : Nat) : Nat := rank ys (at_ ys i)
theorem cl_lt {g : Gr} {ys : List Nat} (h : ClsOk g ys) {i : Nat} (hi : i < g.ns.length) : cl ys i < rank ys ys.length :=
  rank_lt (h.v.lt (by rw [h.l]; exact hi)) (h.v.idem (by rw [h.l]; exact hi))
theorem cl_at {ys : List Nat} {i : Nat} (hi : i < ys.length) : (toI (quoS ys)).getD i 0 = (cl ys i : Int) := by rw [toI_at, quoS_at hi]; rfl
theorem cl_same {g : Gr} {ys : List Nat} (h : ClsOk g ys) {i j : Nat} (hi : i < g.ns.length) (hj : j < g.ns.length) (e : cl ys i = cl ys j) : g.ns.getD i 0 = g.ns.getD j 0 := by
  have hi' : i < ys.length := by rw [h.l]; exact hi
  have hj' : j < ys.length := by rw [h.l]; exact hj
  have h1 := fixs_at (h.v.lt hi') (h.v.idem hi')
  have h2 := fixs_at (h.v.lt hj') (h.v.idem hj')
  unfold cl at e
  rw [e, h2] at h1
  have h3 : at_ ys j = at_ ys i := Option.some.inj h1
  rw [← h.t i hi, ← h.t j hj, h3]
/-- an edge's image -/
def imE (g : Gr) (ys : List Nat) (j : Nat) : Ed := ⟨(g.es.getD j default).ty, cl ys (g.es.getD j default).fr.toNat, cl ys (g.es.getD j default).tq.toNat⟩
theorem imE_ok {g : Gr} {ys : List Nat} (hv : validE g = 0) (h : ClsOk g ys) {j : Nat} (hj : j < g.es.length) : edB (imE g ys j) (rank ys ys.length) = true := by
  obtain ⟨h1, h2⟩ := valid_at hv hj
  have h3 := (edB_iff.1 ((valid_zero hv).2.2.2 (g.es.getD j default) (getD_mem hj))).1
  have a1 := cl_lt h (i := (g.es.getD j default).fr.toNat) (by omega)
  have a2 := cl_lt h (i := (g.es.getD j default).tq.toNat) (by omega)
  exact edB_iff.2 ⟨h3, ⟨by show (0 : Int) ≤ (cl ys _ : Int); omega, by show (cl ys _ : Int) < _; omega⟩, ⟨by show (0 : Int) ≤ (cl ys _ : Int); omega, by show (cl ys _ : Int) < _; omega⟩⟩
/-- what the loop over the edges has reached -/
structure ImJ (g : Gr) (ys : List Nat) (i : Nat) (xs : List Ed) (ms : List Int) : Prop where
  lm : ms.length = i
  lx : xs.length ≤ i
  m : ∀ j, j < i → ∃ t : Nat, ms.getD j 0 = (t : Int) ∧ t < xs.length ∧ xs.getD t default = imE g ys j
  e : ∀ t, t < xs.length → edB (xs.getD t default) (rank ys ys.length) = true
theorem img_ok {g : Gr} (hv : validE g = 0) {ys : List Nat} (hc : ClsOk g ys) {zs : List Int} {xs : List Ed} {ms : List Int} (hz : zs.length = rank ys ys.length) (hr : ∀ i, i < g.ns.length → zs.getD (cl ys i) 0 = g.ns.getD i 0)
    (h0 : ∀ j, j < zs.length → idxB (zs.getD j 0) 100 = true) (hJ : ImJ g ys g.es.length xs ms) : MorOk g ⟨zs, xs⟩ ⟨toI (quoS ys), ms⟩ := by
  obtain ⟨v1, v2, _⟩ := valid_zero hv
  have hle := rank_le ys ys.length
  have hl := hc.l
  have hlx := hJ.lx
  have hvb : validE ⟨zs, xs⟩ = 0 := valid_ok (by show zs.length ≤ 40; omega) (by show xs.length ≤ 80; omega) h0 (fun t ht => by
    have := hJ.e t ht
    rw [← hz] at this
    exact this)
  refine ⟨hv, hvb, by show (toI (quoS ys)).length = _; rw [toI_length, quoS_length]; exact hl, hJ.lm, fun i hi => ?_, fun j hj => ?_⟩
  · have e : (toI (quoS ys)).getD i 0 = (cl ys i : Int) := cl_at (by omega)
    have hlt := cl_lt hc hi
    show (0 ≤ (toI (quoS ys)).getD i 0 ∧ (toI (quoS ys)).getD i 0 < (zs.length : Int)) ∧ zs.getD ((toI (quoS ys)).getD i 0).toNat 0 = _
    rw [e, Int.toNat_natCast]
    exact ⟨⟨by omega, by omega⟩, hr i hi⟩
  · obtain ⟨t, e1, e2, e3⟩ := hJ.m j hj
    obtain ⟨a1, a2⟩ := valid_at hv hj
    show (0 ≤ ms.getD j 0 ∧ ms.getD j 0 < (xs.length : Int)) ∧ _ = (xs.getD (ms.getD j 0).toNat default).ty ∧ (toI (quoS ys)).getD _ 0 = (xs.getD (ms.getD j 0).toNat default).fr ∧ (toI (quoS ys)).getD _ 0 = (xs.getD (ms.getD j 0).toNat default).tq
    rw [e1, Int.toNat_natCast, e3]
    refine ⟨⟨by omega, by omega⟩, rfl, cl_at (by omega), cl_at (by omega)⟩
/-- a further edge, or one that is there -/
theorem ImJ.add {g : Gr} {ys : List Nat} {i : Nat} {xs : List Ed} {ms : List Int} (h : ImJ g ys i xs ms) (hv : validE g = 0) (hc : ClsOk g ys) (hi : i < g.es.length) : ImJ g ys (i + 1) (xs ++ [imE g ys i]) (ms ++ [(xs.length : Int)]) := by
  have hl := h.lm
  have hx := h.lx
  refine ⟨by simp; omega, by simp; omega, fun j hj => ?_, fun t ht => ?_⟩
  · by_cases e : j = i
    · subst e
      refine ⟨xs.length, ?_, by simp, ?_⟩
      · rw [List.getD_eq_getElem?_getD, List.getElem?_append_right (by omega), hl, Nat.sub_self]; rfl
      · rw [List.getD_eq_getElem?_getD, List.getElem?_append_right (Nat.le_refl _), Nat.sub_self]; rfl
    · obtain ⟨t, e1, e2, e3⟩ := h.m j (by omega)
      refine ⟨t, ?_, by simp; omega, ?_⟩
      · rw [List.getD_eq_getElem?_getD, List.getElem?_append_left (by omega), ← List.getD_eq_getElem?_getD]; exact e1
      · rw [List.getD_eq_getElem?_getD, List.getElem?_append_left e2, ← List.getD_eq_getElem?_getD]; exact e3
  · by_cases e : t < xs.length
    · rw [List.getD_eq_getElem?_getD, List.getElem?_append_left e, ← List.getD_eq_getElem?_getD]; exact h.e t e
    · have e : t = xs.length := by simp at ht; omega
      subst e
      rw [List.getD_eq_getElem?_getD, List.getElem?_append_right (Nat.le_refl _), Nat.sub_self]
      exact imE_ok hv hc hi
theorem ImJ.old {g : Gr} {ys : List Nat} {i : Nat} {xs : List Ed} {ms : List Int} (h : ImJ g ys i xs ms) {t : Nat} (ht : t < xs.length) (he : xs.getD t default = imE g ys i) : ImJ g ys (i + 1) xs (ms ++ [(t : Int)]) := by
  have hl := h.lm
  have hx := h.lx
  refine ⟨by simp; omega, by omega, fun j hj => ?_, h.e⟩
  by_cases e : j = i
  · subst e
    refine ⟨t, ?_, ht, he⟩
    rw [List.getD_eq_getElem?_getD, List.getElem?_append_right (by omega), hl, Nat.sub_self]; rfl
  · obtain ⟨t', e1, e2, e3⟩ := h.m j (by omega)
    refine ⟨t', ?_, e2, e3⟩
    rw [List.getD_eq_getElem?_getD, List.getElem?_append_left (by omega), ← List.getD_eq_getElem?_getD]; exact e1
theorem ImJ.nil (g : Gr) (ys : List Nat) : ImJ g ys 0 [] [] := ⟨rfl, Nat.le_refl _, fun j hj => by omega, fun t ht => by simp at ht⟩
/-- a node's image is written -/
theorem zs_put {g : Gr} {ys : List Nat} (hc : ClsOk g ys) {zs : List Int} {i : Nat} (hi : i < g.ns.length) (hz : zs.length = rank ys ys.length) (h : ∀ j, j < i → zs.getD (cl ys j) 0 = g.ns.getD j 0) :
    ∀ j, j < i + 1 → (zs.set (cl ys i) (g.ns.getD i 0)).getD (cl ys j) 0 = g.ns.getD j 0 := fun j hj => by
  have hlt := cl_lt hc hi
  by_cases e : cl ys i = cl ys j
  · rw [← e, List.getD_eq_getElem?_getD, List.getElem?_set_self (by omega)]
    exact cl_same hc hi (by omega) e
  · rw [List.getD_eq_getElem?_getD, List.getElem?_set_ne e, ← List.getD_eq_getElem?_getD]
    by_cases e2 : j = i
    · subst e2; exact absurd rfl e
    · exact h j (by omega)
theorem zs_in {zs : List Int} {c : Nat} {x : Int} (hx : idxB x 100 = true) (h : ∀ j, j < zs.length → idxB (zs.getD j 0) 100 = true) : ∀ j, j < (zs.set c x).length → idxB ((zs.set c x).getD j 0) 100 = true := fun j hj => by
  rw [List.length_set] at hj
  by_cases e : c = j
  · subst e; rw [List.getD_eq_getElem?_getD, List.getElem?_set_self hj]; exact hx
  · rw [List.getD_eq_getElem?_getD, List.getElem?_set_ne e, ← List.getD_eq_getElem?_getD]; exact h j hj

end Go.Proofs.YtaeelanbkdkppaaDoor

/-
  Sets of small numbers as the bits of a number: their elements ascending, the lowest one, their count.
-/
namespace Go.Proofs.YtaeelanbkdkppaaDoor
open Go

/-- the elements of a set, ascending -/
def bitsOf (s : Nat) : List Nat := (List.range 64).filter s.testBit
theorem mem_bitsOf {s v : Nat} : v ∈ bitsOf s ↔ v < 64 ∧ s.testBit v = true := by simp [bitsOf]
theorem bitsOf_zero : bitsOf 0 = [] := by
  unfold bitsOf
  rw [List.filter_eq_nil_iff]
  intro a _
  simp
theorem filter_first (p : Nat → Bool) (k : Nat) (hk : p k = true) (hlt : ∀ i, i < k → p i = false) : ∀ n, k < n → (List.range n).filter p = k :: (List.range n).filter (fun i => p i && i != k) := by
  intro n
  induction n with
  | zero => intro h; omega
  | succ n ih =>
    intro h
    rw [List.range_succ, List.filter_append, List.filter_append]
    by_cases e : k = n
    · subst e
      have h1 : (List.range k).filter p = [] := by
        rw [List.filter_eq_nil_iff]
        intro a ha
        rw [hlt a (by simpa using ha)]
        simp
      have h2 : (List.range k).filter (fun i => p i && i != k) = [] := by
        rw [List.filter_eq_nil_iff]
        intro a ha
        rw [hlt a (by simpa using ha)]
        simp
      rw [h1, h2]
      simp [hk]
    · rw [ih (by omega)]
      have : (n != k) = true := by simp; omega
      simp only [List.filter_cons, List.filter_nil, this, Bool.and_true, List.cons_append]
theorem testBit_pop {s : Nat} (h0 : s ≠ 0) (h : s < 18446744073709551616) : Lib.ctz 64 s < 64 ∧ s.testBit (Lib.ctz 64 s) = true ∧ (∀ i, i < Lib.ctz 64 s → s.testBit i = false) ∧ ∀ i, (s &&& (s - 1)).testBit i = (s.testBit i && i != Lib.ctz 64 s) := by
  have hc : Lib.ctz 64 s = Lib.ctzFrom 64 s := by unfold Lib.ctz; rw [if_neg h0]
  obtain ⟨m, hm, hk⟩ := Lib.ctzFrom_spec 64 s (by omega) (by omega)
  rw [hc]
  generalize Lib.ctzFrom 64 s = k at hm hk ⊢
  have hpos : 0 < 2 ^ k := Nat.two_pow_pos k
  have hs : ∀ i, s.testBit i = if i < k then false else (2 * m + 1).testBit (i - k) := by
    intro i
    rw [hm]
    have := Nat.testBit_two_pow_mul_add (2 * m + 1) (b := 0) (i := k) hpos i
    rw [Nat.add_zero] at this
    rw [this]
    simp
  have hp : ∀ i, (s - 1).testBit i = if i < k then true else (2 * m).testBit (i - k) := by
    intro i
    have e : s - 1 = 2 ^ k * (2 * m) + (2 ^ k - 1) := by
      rw [hm, Nat.mul_add, Nat.mul_one]
      omega
    rw [e, Nat.testBit_two_pow_mul_add _ (by omega)]
    by_cases hi : i < k
    · rw [if_pos hi, if_pos hi, Nat.testBit_two_pow_sub_one]
      simp [hi]
    · rw [if_neg hi, if_neg hi]
  refine ⟨hk, ?_, fun i hi => ?_, fun i => ?_⟩
  · rw [hs, if_neg (by omega), Nat.sub_self, Nat.testBit_zero]
    simp
  · rw [hs, if_pos hi]
  · rw [Nat.testBit_and, hs, hp]
    by_cases hi : i < k
    · simp [hi]
    · rw [if_neg hi, if_neg hi]
      by_cases e : i = k
      · subst e
        rw [Nat.sub_self, Nat.testBit_zero, Nat.testBit_zero]
        simp
      · obtain ⟨j, hj⟩ : ∃ j, i - k = j + 1 := ⟨i - k - 1, by omega⟩
        rw [hj, Nat.testBit_succ, Nat.testBit_succ]
        have e1 : (2 * m + 1) / 2 = m := by omega
        have e2 : 2 * m / 2 = m := by omega
        rw [e1, e2]
        simp [e]
theorem bitsOf_pop {s : Nat} (h0 : s ≠ 0) (h : s < 18446744073709551616) : bitsOf s = Lib.ctz 64 s :: bitsOf (s &&& (s - 1)) := by
  obtain ⟨h1, h2, h3, h4⟩ := testBit_pop h0 h
  unfold bitsOf
  rw [filter_first s.testBit _ h2 h3 64 h1]
  congr 1
  apply List.filter_congr
  intro i _
  rw [h4]
theorem pop_lt {s : Nat} (h : s < 18446744073709551616) : s &&& (s - 1) < 18446744073709551616 := Nat.lt_of_le_of_lt Nat.and_le_left h
theorem bitsOf_eq_nil {s : Nat} (h : s < 18446744073709551616) : bitsOf s = [] ↔ s = 0 := by
  refine ⟨fun e => ?_, fun e => by rw [e]; exact bitsOf_zero⟩
  rcases Nat.eq_zero_or_pos s with h0 | h0
  · exact h0
  · rw [bitsOf_pop (by omega) h] at e
    cases e
theorem bitsOf_asc (s : Nat) : (bitsOf s).Pairwise (· < ·) := by
  unfold bitsOf
  exact List.Pairwise.filter _ List.pairwise_lt_range
theorem shl_lt {v : Nat} (h : v < 64) : 2 ^ v < 18446744073709551616 := by
  have := Nat.pow_lt_pow_right (a := 2) (by decide) h
  simpa using this
theorem testBit_one (v i : Nat) : (2 ^ v).testBit i = decide (v = i) := Nat.testBit_two_pow
theorem bitsOf_one {v : Nat} (h : v < 64) : bitsOf (2 ^ v) = [v] := by
  have h0 : 2 ^ v ≠ 0 := Nat.ne_of_gt (Nat.two_pow_pos v)
  obtain ⟨h1, h2, h3, h4⟩ := testBit_pop h0 (shl_lt h)
  rw [testBit_one] at h2
  have e : v = Lib.ctz 64 (2 ^ v) := by simpa using h2
  rw [bitsOf_pop h0 (shl_lt h), ← e]
  congr 1
  rw [bitsOf_eq_nil (pop_lt (shl_lt h))]
  apply Nat.eq_of_testBit_eq
  intro i
  rw [h4, testBit_one, ← e]
  by_cases hi : v = i
  · subst hi; simp
  · simp [hi]

/-! the count of the bits, as math/bits has it -/
def valB : List Nat → Nat
  | [] => 0
  | b :: bs => b + 256 * valB bs
def msk (c : Nat) : Nat → Nat
  | 0 => 0
  | n + 1 => c + 256 * msk c n
theorem and_val (b c x y : Nat) (hb : b < 256) (hc : c < 256) : (b + 256 * x) &&& (c + 256 * y) = (b &&& c) + 256 * (x &&& y) := by
  have hbc : b &&& c < 2 ^ 8 := Nat.lt_of_le_of_lt Nat.and_le_left hb
  rw [Nat.add_comm b, Nat.add_comm c, Nat.add_comm (b &&& c)]
  apply Nat.eq_of_testBit_eq
  intro i
  rw [Nat.testBit_and, show (256 : Nat) = 2 ^ 8 from rfl, Nat.testBit_two_pow_mul_add _ hb, Nat.testBit_two_pow_mul_add _ hc, Nat.testBit_two_pow_mul_add _ hbc]
  by_cases h : i < 8
  · simp [h]
  · simp [h]
def g1 (b : Nat) : Nat := (b / 2 &&& 85) + (b &&& 85)
def g2 (b : Nat) : Nat := (b / 4 &&& 51) + (b &&& 51)
def g3 (b : Nat) : Nat := b / 16 + b % 16
theorem g1_all : ∀ b, b < 256 → (∀ p, p < 2 → (b / 2 + 128 * p) &&& 85 = b / 2 &&& 85) ∧ g1 b < 256 ∧ b / 2 < 128 := by decide +kernel
theorem g2_all : ∀ b, b < 256 → (∀ p, p < 4 → (b / 4 + 64 * p) &&& 51 = b / 4 &&& 51) ∧ g2 b % 16 ≤ 6 ∧ g2 b / 16 ≤ 6 ∧ g2 b < 256 := by decide +kernel
theorem g21_all : ∀ b, b < 256 → g2 (g1 b) % 16 ≤ 4 ∧ g2 (g1 b) / 16 ≤ 4 := by decide +kernel
theorem g3_all : ∀ b, b < 69 → ∀ q, q < 5 → b % 16 ≤ 4 → (b / 16 + b + 16 * q) &&& 15 = g3 b := by decide +kernel
def popB (b : Nat) : Nat := ((List.range 8).filter b.testBit).length
theorem g321_all : ∀ b, b < 256 → g3 (g2 (g1 b)) = popB b ∧ popB b ≤ 8 := by decide +kernel

theorem step1 : ∀ bs : List Nat, (∀ b ∈ bs, b < 256) → (valB bs / 2 &&& msk 85 bs.length) + (valB bs &&& msk 85 bs.length) = valB (bs.map g1) := by
  intro bs
  induction bs with
  | nil => intro _; rfl
  | cons b bs ih =>
    intro h
    have hb := h b List.mem_cons_self
    obtain ⟨h1, h2, h3⟩ := g1_all b hb
    have ih := ih fun c hc => h c (List.mem_cons_of_mem _ hc)
    show ((b + 256 * valB bs) / 2 &&& (85 + 256 * msk 85 bs.length)) + ((b + 256 * valB bs) &&& (85 + 256 * msk 85 bs.length)) = g1 b + 256 * valB (bs.map g1)
    have e : (b + 256 * valB bs) / 2 = (b / 2 + 128 * (valB bs % 2)) + 256 * (valB bs / 2) := by omega
    rw [e, and_val _ _ _ _ (by omega) (by omega), and_val _ _ _ _ hb (by omega), h1 _ (by omega), ← ih]
    unfold g1
    omega
theorem step2 : ∀ bs : List Nat, (∀ b ∈ bs, b < 256) → (valB bs / 4 &&& msk 51 bs.length) + (valB bs &&& msk 51 bs.length) = valB (bs.map g2) := by
  intro bs
  induction bs with
  | nil => intro _; rfl
  | cons b bs ih =>
    intro h
    have hb := h b List.mem_cons_self
    obtain ⟨h1, h2, h3⟩ := g2_all b hb
    have ih := ih fun c hc => h c (List.mem_cons_of_mem _ hc)
    show ((b + 256 * valB bs) / 4 &&& (51 + 256 * msk 51 bs.length)) + ((b + 256 * valB bs) &&& (51 + 256 * msk 51 bs.length)) = g2 b + 256 * valB (bs.map g2)
    have e : (b + 256 * valB bs) / 4 = (b / 4 + 64 * (valB bs % 4)) + 256 * (valB bs / 4) := by omega
    rw [e, and_val _ _ _ _ (by omega) (by omega), and_val _ _ _ _ hb (by omega), h1 _ (by omega), ← ih]
    unfold g2
    omega
theorem step3 : ∀ bs : List Nat, (∀ b ∈ bs, b % 16 ≤ 4 ∧ b / 16 ≤ 4) → (valB bs / 16 + valB bs) &&& msk 15 bs.length = valB (bs.map g3) := by
  intro bs
  induction bs with
  | nil => intro _; rfl
  | cons b bs ih =>
    intro h
    obtain ⟨h1, h2⟩ := h b List.mem_cons_self
    have ih := ih fun c hc => h c (List.mem_cons_of_mem _ hc)
    have hq : valB bs % 16 < 5 := by
      cases bs with
      | nil => exact Nat.zero_lt_succ _
      | cons c cs =>
        obtain ⟨h3, h4⟩ := h c (List.mem_cons_of_mem _ List.mem_cons_self)
        show (c + 256 * valB cs) % 16 < 5
        omega
    show ((b + 256 * valB bs) / 16 + (b + 256 * valB bs)) &&& (15 + 256 * msk 15 bs.length) = g3 b + 256 * valB (bs.map g3)
    have e : (b + 256 * valB bs) / 16 + (b + 256 * valB bs) = (b / 16 + b + 16 * (valB bs % 16)) + 256 * (valB bs / 16 + valB bs) := by omega
    rw [e, and_val _ _ _ _ (by omega) (by omega), ih, g3_all b (by omega) _ hq h1]
/-- the eight bytes of a number -/
def bytesN (x : Nat) : Nat → List Nat
  | 0 => []
  | n + 1 => x % 256 :: bytesN (x / 256) n
theorem bytesN_length : ∀ (n x : Nat), (bytesN x n).length = n := by
  intro n
  induction n with
  | zero => intro x; rfl
  | succ n ih => intro x; simp [bytesN, ih]
theorem bytesN_lt : ∀ (n x b : Nat), b ∈ bytesN x n → b < 256 := by
  intro n
  induction n with
  | zero => intro x b h; cases h
  | succ n ih =>
    intro x b h
    rcases List.mem_cons.1 h with rfl | h
    · exact Nat.mod_lt _ (by omega)
    · exact ih _ _ h
theorem bytesN_val : ∀ (n x : Nat), x < 256 ^ n → valB (bytesN x n) = x := by
  intro n
  induction n with
  | zero => intro x h; simp at h; rw [h]; rfl
  | succ n ih =>
    intro x h
    show x % 256 + 256 * valB (bytesN (x / 256) n) = x
    rw [ih (x / 256) (by rw [Nat.pow_succ] at h; omega)]
    omega
theorem popB_sum : ∀ (n x : Nat), ((List.range (8 * n)).filter x.testBit).length = ((bytesN x n).map popB).sum := by
  intro n
  induction n with
  | zero => intro x; rfl
  | succ n ih =>
    intro x
    rw [show 8 * (n + 1) = 8 + 8 * n by omega, List.range_add, List.filter_append, List.length_append, List.filter_map, List.length_map]
    show _ = popB (x % 256) + ((bytesN (x / 256) n).map popB).sum
    rw [← ih]
    congr 1
    · unfold popB
      congr 1
      apply List.filter_congr
      intro i hi
      have hi : i < 8 := by simpa using hi
      rw [show (256 : Nat) = 2 ^ 8 from rfl, Nat.testBit_mod_two_pow]
      simp [hi]
    · congr 1
      apply List.filter_congr
      intro i _
      show x.testBit (8 + i) = _
      rw [show x / 256 = x >>> 8 by rw [Nat.shiftRight_eq_div_pow], Nat.testBit_shiftRight]
theorem val_div (b : Nat) (bs : List Nat) (h : b < 256) : valB (b :: bs) / 256 = valB bs := by
  show (b + 256 * valB bs) / 256 = valB bs
  generalize valB bs = v
  omega
theorem val_add (b c : Nat) (bs cs : List Nat) {v : Nat} (h : valB bs + valB cs = v) : valB (b :: bs) + valB (c :: cs) = (b + c) + 256 * v := by
  show (b + 256 * valB bs) + (c + 256 * valB cs) = _
  rw [← h]
  generalize valB bs = v
  generalize valB cs = u
  omega
theorem val_lt (bs : List Nat) (h : ∀ b ∈ bs, b < 256) : valB bs < 256 ^ bs.length := by
  induction bs with
  | nil => exact Nat.zero_lt_one
  | cons b bs ih =>
    have ih := ih fun c hc => h c (List.mem_cons_of_mem _ hc)
    have hb := h b List.mem_cons_self
    show b + 256 * valB bs < 256 ^ (bs.length + 1)
    rw [Nat.pow_succ]
    generalize 256 ^ bs.length = u at ih ⊢
    generalize valB bs = v at ih ⊢
    omega
theorem sum_tail (a b c d e f g h : Nat) (ha : a ≤ 8) (hb : b ≤ 8) (hc : c ≤ 8) (hd : d ≤ 8) (he : e ≤ 8) (hf : f ≤ 8) (hg : g ≤ 8) (hh : h ≤ 8) (x y z : Nat)
    (hx : x = valB [a, b, c, d, e, f, g, h]) (hy : y = x + x / 256) (hz : z = y + y / 65536) : (z + z / 4294967296) % 128 = a + b + c + d + e + f + g + h ∧ x < 18446744073709551616 ∧ y < 18446744073709551616 ∧ z < 18446744073709551616 ∧ z + z / 4294967296 < 18446744073709551616 := by
  have x2 : x / 256 = valB [b, c, d, e, f, g, h, 0] := by
    rw [hx, val_div _ _ (by omega)]
    rfl
  have y1 : y = valB [a + b, b + c, c + d, d + e, e + f, f + g, g + h, h + 0] := by
    rw [hy, x2, hx]
    exact val_add _ _ _ _ (val_add _ _ _ _ (val_add _ _ _ _ (val_add _ _ _ _ (val_add _ _ _ _ (val_add _ _ _ _ (val_add _ _ _ _ (val_add _ _ _ _ rfl)))))))
  have y2 : y / 65536 = valB [c + d, d + e, e + f, f + g, g + h, h + 0, 0, 0] := by
    rw [show (65536 : Nat) = 256 * 256 from rfl, ← Nat.div_div_eq_div_mul, y1, val_div _ _ (by omega), val_div _ _ (by omega)]
    rfl
  have z1 : z = valB [a + b + (c + d), b + c + (d + e), c + d + (e + f), d + e + (f + g), e + f + (g + h), f + g + (h + 0), g + h + 0, h + 0 + 0] := by
    rw [hz, y2, y1]
    exact val_add _ _ _ _ (val_add _ _ _ _ (val_add _ _ _ _ (val_add _ _ _ _ (val_add _ _ _ _ (val_add _ _ _ _ (val_add _ _ _ _ (val_add _ _ _ _ rfl)))))))
  have z2 : z / 4294967296 = valB [e + f + (g + h), f + g + (h + 0), g + h + 0, h + 0 + 0] := by
    rw [show (4294967296 : Nat) = 256 * 256 * 256 * 256 from rfl, ← Nat.div_div_eq_div_mul, ← Nat.div_div_eq_div_mul, ← Nat.div_div_eq_div_mul, z1, val_div _ _ (by omega), val_div _ _ (by omega), val_div _ _ (by omega), val_div _ _ (by omega)]
  have u1 : z + z / 4294967296 = valB [a + b + (c + d) + (e + f + (g + h)), b + c + (d + e) + (f + g + (h + 0)), c + d + (e + f) + (g + h + 0), d + e + (f + g) + (h + 0 + 0), e + f + (g + h) + 0, f + g + (h + 0) + 0, g + h + 0 + 0, h + 0 + 0 + 0] := by
    have e : valB [e + f + (g + h), f + g + (h + 0), g + h + 0, h + 0 + 0] = valB [e + f + (g + h), f + g + (h + 0), g + h + 0, h + 0 + 0, 0, 0, 0, 0] := rfl
    rw [z2, z1, e]
    exact val_add _ _ _ _ (val_add _ _ _ _ (val_add _ _ _ _ (val_add _ _ _ _ (val_add _ _ _ _ (val_add _ _ _ _ (val_add _ _ _ _ (val_add _ _ _ _ rfl)))))))
  have lt : ∀ bs : List Nat, bs.length = 8 → (∀ b ∈ bs, b < 256) → valB bs < 18446744073709551616 := fun bs hl hb => by
    have := val_lt bs hb
    rw [hl] at this
    exact this
  refine ⟨?_, by rw [hx]; refine lt _ rfl ?_; simp only [List.mem_cons, List.not_mem_nil, or_false]; rintro i (rfl | rfl | rfl | rfl | rfl | rfl | rfl | rfl) <;> omega, by rw [y1]; refine lt _ rfl ?_; simp only [List.mem_cons, List.not_mem_nil, or_false]; rintro i (rfl | rfl | rfl | rfl | rfl | rfl | rfl | rfl) <;> omega, by rw [z1]; refine lt _ rfl ?_; simp only [List.mem_cons, List.not_mem_nil, or_false]; rintro i (rfl | rfl | rfl | rfl | rfl | rfl | rfl | rfl) <;> omega, by rw [u1]; refine lt _ rfl ?_; simp only [List.mem_cons, List.not_mem_nil, or_false]; rintro i (rfl | rfl | rfl | rfl | rfl | rfl | rfl | rfl) <;> omega⟩
  clear u1 lt
  rw [z2, z1]
  show ((a + b + (c + d)) + 256 * valB _ + ((e + f + (g + h)) + 256 * valB _)) % 128 = _
  generalize valB [b + c + (d + e), c + d + (e + f), d + e + (f + g), e + f + (g + h), f + g + (h + 0), g + h + 0, h + 0 + 0] = u
  generalize valB [f + g + (h + 0), g + h + 0, h + 0 + 0] = v
  clear hx hy hz x2 y1 y2 z1 z2
  omega
/-- the count of math/bits -/
theorem ones_count (x p q r s t : Nat) (hx : x < 18446744073709551616) (hp : p = (x / 2 &&& 6148914691236517205) + (x &&& 6148914691236517205)) (hq : q = (p / 4 &&& 3689348814741910323) + (p &&& 3689348814741910323))
    (hr : r = (q / 16 + q) &&& 1085102592571150095) (hs : s = r + r / 256) (ht : t = s + s / 65536) :
    (t + t / 4294967296) % 128 = (bitsOf x).length ∧ p < 18446744073709551616 ∧ q < 18446744073709551616 / 2 ∧ r < 18446744073709551616 ∧ s < 18446744073709551616 ∧ t < 18446744073709551616 ∧ t + t / 4294967296 < 18446744073709551616 := by
  obtain ⟨bs, hbs⟩ : ∃ bs, bs = bytesN x 8 := ⟨_, rfl⟩
  have hlen : bs.length = 8 := by rw [hbs]; exact bytesN_length _ _
  have hlt : ∀ b ∈ bs, b < 256 := by rw [hbs]; exact bytesN_lt _ _
  have hv : x = valB bs := by rw [hbs]; exact (bytesN_val 8 x (by simpa using hx)).symm
  have s1 := step1 bs hlt
  rw [hlen, ← hv] at s1
  have hp1 : p = valB (bs.map g1) := hp.trans s1
  have s2 := step2 (bs.map g1) (by simp only [List.mem_map]; rintro b ⟨c, hc, rfl⟩; exact (g1_all c (hlt c hc)).2.1)
  rw [List.length_map, hlen, ← hp1] at s2
  have hq1 : q = valB ((bs.map g1).map g2) := hq.trans s2
  have s3 := step3 ((bs.map g1).map g2) (by simp only [List.mem_map]; rintro b ⟨c, ⟨d, hd, rfl⟩, rfl⟩; exact g21_all d (hlt d hd))
  rw [List.length_map, List.length_map, hlen, ← hq1] at s3
  have hr1 : r = valB (((bs.map g1).map g2).map g3) := hr.trans s3
  have hm : ((bs.map g1).map g2).map g3 = bs.map popB := by
    rw [List.map_map, List.map_map]
    apply List.map_congr_left
    intro b hb
    exact (g321_all b (hlt b hb)).1
  rw [hm] at hr1
  have hcnt : (bitsOf x).length = (bs.map popB).sum := by rw [hbs]; exact popB_sum 8 x
  have hle : ∀ b ∈ bs, popB b ≤ 8 := fun b hb => (g321_all b (hlt b hb)).2
  have hpb : p < 18446744073709551616 := by
    have e1 : x / 2 &&& 6148914691236517205 ≤ 6148914691236517205 := Nat.and_le_right
    have e2 : x &&& 6148914691236517205 ≤ 6148914691236517205 := Nat.and_le_right
    omega
  have hqb : q < 18446744073709551616 / 2 := by
    have e1 : p / 4 &&& 3689348814741910323 ≤ 3689348814741910323 := Nat.and_le_right
    have e2 : p &&& 3689348814741910323 ≤ 3689348814741910323 := Nat.and_le_right
    omega
  clear hp hq hr s1 s2 s3 hp1 hq1 hm hbs hv
  match bs, hlen with
  | [a, b, c, d, e, f, g, h], _ =>
    simp only [List.map_cons, List.map_nil, List.mem_cons, List.not_mem_nil, or_false, forall_eq_or_imp, forall_eq] at hr1 hle hcnt
    obtain ⟨h1, h2, h3, h4, h5, h6, h7, h8⟩ := hle
    obtain ⟨k1, k2, k3, k4, k5⟩ := sum_tail _ _ _ _ _ _ _ _ h1 h2 h3 h4 h5 h6 h7 h8 r s t hr1 hs ht
    refine ⟨?_, hpb, hqb, k2, k3, k4, k5⟩
    rw [k1, hcnt]
    simp only [List.sum_cons, List.sum_nil]
    omega

end Go.Proofs.YtaeelanbkdkppaaDoor

/-
  Slices of any kind of plain element in memory: reading one, owning one, append, make. Over a seat's own program.
-/
namespace Go.Proofs.YtaeelanbkdkppaaDoor
open Go.RowKit

theorem ret_bool {a b : Bool} (h : a = b) : Ending.returned (.bool a) = .returned (.bool b) := by rw [h]
theorem ret_int {k : IntKind} {a b : Int} (h : a = b) : Ending.returned (.int k a) = .returned (.int k b) := by rw [h]
theorem below_draws {B : Nat} {a w : World} (h : Below B a w) (n : Nat) : Below B a (w.drewN n) := ⟨h.os, h.tape, h.output, h.size, h.block⟩
theorem addr_plain (b off j : Nat) : (⟨b, off, none⟩ : Addr).add j = ⟨b, off + j, none⟩ := Addr.add_lit _ _ _
theorem cell_new (w : World) (u : Value) (t : TypeId) : (w.alloc (.cells #[u] t)).cell? ⟨w.heap.size, 0, none⟩ = some u := by simp
theorem slice_of {w : World} {base : Nat} {e : TypeId} {size : Nat} {v : Value} {n : Nat} {xs : List Value} (h : w.ownsRow base e size v n xs) : ∃ ao cap, v = .slice ao n cap := by
  rcases h.2 with ⟨hv, h0⟩ | ⟨g, cap, cur, hv, _⟩
  · exact ⟨none, 0, by rw [hv, h0]⟩
  · exact ⟨_, _, hv⟩
theorem grown_refl (a : World) (r : Option Nat) : a.grownBy a r := ⟨rfl, rfl, rfl, Nat.le_refl _, fun _ _ _ => rfl⟩
theorem heap_two (w : World) (o o2 : Obj) : ((w.alloc o).alloc o2).heap[w.heap.size]? = some o :=
  (Below.heap_alloc (w.alloc o) o2 w.heap.size (by simp)).trans (heap_alloc_new w o)
theorem heap_two' (w : World) (o o2 : Obj) : ((w.alloc o).alloc o2).heap[w.heap.size + 1]? = some o2 := by
  have := heap_alloc_new (w.alloc o) o2
  simpa using this

/-- how an element lies in cells -/
structure El (α : Type) where
  enc : α → List Value
  size : Nat
  len : ∀ x, (enc x).length = size
  one : ∀ x, ∀ u ∈ enc x, u.oneCell' = true

section
variable {α : Type} (E : El α)
def cellsE (xs : List α) : List Value := xs.flatMap E.enc
theorem cellsE_length (xs : List α) : (cellsE E xs).length = xs.length * E.size := by
  induction xs with
  | nil => simp [cellsE]
  | cons x r ih =>
    have : cellsE E (x :: r) = E.enc x ++ cellsE E r := rfl
    rw [this, List.length_append, ih, E.len, List.length_cons, Nat.succ_mul]
    omega
theorem cellsE_snoc (xs : List α) (x : α) : cellsE E (xs ++ [x]) = cellsE E xs ++ E.enc x := by simp [cellsE]
theorem cellsE_get {xs : List α} {i : Nat} {x : α} (h : xs[i]? = some x) {j : Nat} {u : Value} (hu : (E.enc x)[j]? = some u) : (cellsE E xs)[i * E.size + j]? = some u := by
  induction xs generalizing i with
  | nil => simp at h
  | cons y r ih =>
    have e : cellsE E (y :: r) = E.enc y ++ cellsE E r := rfl
    rw [e]
    cases i with
    | zero =>
      simp at h
      subst h
      have hj : j < (E.enc y).length := by
        rcases Nat.lt_or_ge j (E.enc y).length with h1 | h1
        · exact h1
        · rw [List.getElem?_eq_none h1] at hu; cases hu
      rw [Nat.zero_mul, Nat.zero_add, List.getElem?_append_left hj]
      exact hu
    | succ i =>
      rw [List.getElem?_append_right (by rw [E.len, Nat.succ_mul]; omega), E.len, show (i + 1) * E.size + j - E.size = i * E.size + j by rw [Nat.succ_mul]; omega]
      exact ih (by simpa using h)
theorem cellsE_one (xs : List α) : ∀ u ∈ cellsE E xs, u.oneCell' = true := by
  intro u hu
  simp only [cellsE, List.mem_flatMap] at hu
  obtain ⟨x, _, h⟩ := hu
  exact E.one x u h

/-- the slice at A reads as xs, in a block below B -/
def Reads (w : World) (B : Nat) (A : Option Addr) (xs : List α) : Prop :=
  xs = [] ∨ ∃ b off, A = some ⟨b, off, none⟩ ∧ b < B ∧ ∀ i x, xs[i]? = some x → ∀ j u, (E.enc x)[j]? = some u → w.cell? ⟨b, off + i * E.size + j, none⟩ = some u
/-- a slice that a call made -/
def OwnE (t : TypeId) (w : World) (base : Nat) (v : Value) (xs : List α) : Prop := w.ownsRow base t E.size v xs.length (cellsE E xs)
end

section
variable {α : Type} {E : El α}
theorem Reads.at {w : World} {B : Nat} {A : Option Addr} {xs : List α} (h : Reads E w B A xs) {k : Nat} (hk : k < xs.length) :
    ∃ b off, A = some ⟨b, off, none⟩ ∧ b < B ∧ ∀ i (hi : i < xs.length), ∀ j u, (E.enc xs[i])[j]? = some u → w.cell? ⟨b, off + i * E.size + j, none⟩ = some u := by
  rcases h with h | ⟨b, off, h1, h2, h3⟩
  · subst h; simp at hk
  · exact ⟨b, off, h1, h2, fun i hi j u hu => h3 i xs[i] (List.getElem?_eq_getElem hi) j u hu⟩
theorem Reads.below {w w' : World} {B : Nat} {A : Option Addr} {xs : List α} (h : Reads E w B A xs) (hb : Below B w w') : Reads E w' B A xs := by
  rcases h with h | ⟨b, off, h1, h2, h3⟩
  · exact .inl h
  · exact .inr ⟨b, off, h1, h2, fun i x hx j u hu => (hb.cell (p := ⟨b, off + i * E.size + j, none⟩) h2).trans (h3 i x hx j u hu)⟩
theorem Reads.mono {w : World} {B B' : Nat} {A : Option Addr} {xs : List α} (h : Reads E w B A xs) (hb : B ≤ B') : Reads E w B' A xs := by
  rcases h with h | ⟨b, off, h1, h2, h3⟩
  · exact .inl h
  · exact .inr ⟨b, off, h1, by omega, h3⟩
theorem Reads.up {w w' : World} {A : Option Addr} {xs : List α} (h : Reads E w w.heap.size A xs) (hb : Below w.heap.size w w') : Reads E w' w'.heap.size A xs := (h.below hb).mono hb.size
theorem Reads.take {w : World} {B : Nat} {A : Option Addr} {xs : List α} (h : Reads E w B A xs) (k : Nat) : Reads E w B A (xs.take k) := by
  rcases h with h | ⟨b, off, h1, h2, h3⟩
  · exact .inl (by rw [h]; simp)
  · refine .inr ⟨b, off, h1, h2, fun i x hx => h3 i x ?_⟩
    rw [List.getElem?_take] at hx
    split at hx
    · exact hx
    · cases hx

theorem OwnE.nil (t : TypeId) (w : World) (base : Nat) : OwnE E t w base (.slice none 0 0) [] := by
  have := World.ownsRow_nil w base t E.size
  exact this
theorem OwnE.slice {t : TypeId} {w : World} {base : Nat} {v : Value} {xs : List α} (h : OwnE E t w base v xs) : ∃ ao cap, v = .slice ao xs.length cap := slice_of h
theorem OwnE.cast {t : TypeId} {w : World} {base : Nat} {v : Value} {xs ys : List α} (e : xs = ys) (h : OwnE E t w base v xs) : OwnE E t w base v ys := e ▸ h
theorem OwnE.mono {t : TypeId} {w : World} {base base' : Nat} {v : Value} {xs : List α} (h : OwnE E t w base v xs) (hb : base' ≤ base) : OwnE E t w base' v xs := by
  refine ⟨h.1, ?_⟩
  rcases h.2 with hn | ⟨g, cap, cur, hv, hg, r⟩
  · exact .inl hn
  · exact .inr ⟨g, cap, cur, hv, Nat.le_trans hb hg, r⟩
theorem OwnE.below {t : TypeId} {w w' : World} {base B : Nat} {v : Value} {xs : List α} (h : OwnE E t w base v xs) (hb : Below B w w') (hB : w.heap.size ≤ B) : OwnE E t w' base v xs := by
  refine ⟨h.1, ?_⟩
  rcases h.2 with hn | ⟨g, cap, cur, hv, hbg, hg, rest⟩
  · exact .inl hn
  · exact .inr ⟨g, cap, cur, hv, hbg, by rw [hb.block g (Nat.lt_of_lt_of_le (World.ownsRow.lt h g (by rw [hv]; rfl)).2 hB)]; exact hg, rest⟩
theorem OwnE.alloc {t : TypeId} {w : World} {base : Nat} {v : Value} {xs : List α} (h : OwnE E t w base v xs) (o : Obj) : OwnE E t (w.alloc o) base v xs := World.ownsRow.alloc h o
theorem OwnE.kept {t : TypeId} {w w' : World} {base : Nat} {v : Value} {xs : List α} {row : Option Nat} (h : OwnE E t w base v xs) (hg : w.grownBy w' row) (hne : v.ownBlock = none ∨ v.ownBlock ≠ row) : OwnE E t w' base v xs := World.ownsRow.kept h hg hne
theorem OwnE.lt {t : TypeId} {w : World} {base : Nat} {v : Value} {xs : List α} (h : OwnE E t w base v xs) : ∀ k, v.ownBlock = some k → base ≤ k ∧ k < w.heap.size := World.ownsRow.lt h
theorem OwnE.pos {t : TypeId} {w : World} {base : Nat} {v : Value} {xs : List α} (h : OwnE E t w base v xs) (hp : 0 < xs.length) : ∃ g c, v = .slice (some ⟨g, 0, none⟩) xs.length c ∧ base ≤ g ∧ g < w.heap.size := by
  rcases h.2 with ⟨_, hn⟩ | ⟨g, cap, cur, hv, hb, hg, _⟩
  · omega
  · exact ⟨g, cap, hv, hb, (Array.getElem?_eq_some_iff.1 hg).1⟩
theorem OwnE.reads {t : TypeId} {w : World} {base : Nat} {v : Value} {xs : List α} (h : OwnE E t w base v xs) : ∃ A c, v = .slice A xs.length c ∧ Reads E w w.heap.size A xs := by
  rcases h.2 with ⟨hv, hn⟩ | ⟨g, cap, cur, hv, hb, hg, _⟩
  · exact ⟨none, 0, by rw [hv, hn], .inl (List.eq_nil_of_length_eq_zero hn)⟩
  · refine ⟨_, cap, hv, .inr ⟨g, 0, rfl, (Array.getElem?_eq_some_iff.1 hg).1, fun i x hx j u hu => ?_⟩⟩
    have := World.ownsRow.cells h (g := g) (by rw [hv]; rfl) _ _ (cellsE_get E hx hu)
    rw [addr_plain] at this
    rw [← this]
    congr 2
    omega
/-- two rows of different types lie in different blocks -/
theorem own_apart {β : Type} {G : El β} {t t' : TypeId} {w : World} {base base' : Nat} {u v : Value} {xs : List α} {ys : List β} (hne : t ≠ t') (hu : OwnE E t w base u xs) (hv : OwnE G t' w base' v ys) : u.ownBlock = none ∨ u.ownBlock ≠ v.ownBlock := by
  rcases hu.2 with ⟨e, _⟩ | ⟨g, cap, cur, e, _, hg, _⟩
  · left; rw [e]; rfl
  · right
    rcases hv.2 with ⟨e', _⟩ | ⟨g', cap', cur', e', _, hg', _⟩
    · rw [e, e']; simp [Value.ownBlock]
    · rw [e, e']
      simp only [Value.ownBlock]
      intro he
      injection he with he
      rw [he, hg'] at hg
      simp only [Option.some.injEq, Obj.cells.injEq] at hg
      exact hne hg.2.1.symm

/-- a new block's cells -/
theorem news_of {w : World} {g : Nat} {cs : Array Value} {t : TypeId} {x : α} (h : w.heap[g]? = some (.cells cs t (0, 0))) (hc : cs.toList = E.enc x) : ∀ j u, (E.enc x)[j]? = some u → w.cell? ((⟨g, 0, none⟩ : Addr).add j) = some u := by
  intro j u hu
  rw [addr_plain, Nat.zero_add, cell_of_row w g j cs t (0, 0) h, ← Array.getElem?_toList, hc]
  exact hu

theorem wpList_append_E {w : World} {ops : Array Oper} {rest : List Oper} {o : Oper} {a : Act} {Q : Exit → Act → World → Prop} (hgd : o.guard = none) (s x : Operand) (T t : TypeId)
    (ho : o.op = .call { callee := .builtin .append, args := #[s, x], argTypes := #[T, T] }) {z : Value} {bytes : Nat}
    (hT : Tryd.prog.underlying T = some (.slice t)) (hinfo : (Tryd.prog.info? t).map (fun i => (i.zero, i.size, i.bytes)) = some (some z, E.size, bytes)) (hzc : z.cells.size = E.size) (hpos : 0 < E.size) (hby : bytes ≤ 1000)
    (base : Nat) (v : Value) (xs : List α) (hs : a.eval s = v) (hown : OwnE E t w base v xs) (ad : Addr) (c : Nat) (m : α) (hx : a.eval x = .slice (some ad) 1 c)
    (hc : ∀ j u, (E.enc m)[j]? = some u → w.cell? (ad.add j) = some u) (hl : xs.length ≤ 1000000) (hbase : base ≤ w.heap.size)
    (hK : ∀ v' w', OwnE E t w' base v' (xs ++ [m]) → w.grownBy w' v.ownBlock → Below base w w' → wpList Tryd.prog ops Q rest (a.put o.dst v') w') : wpList Tryd.prog ops Q (o :: rest) a w := by
  obtain ⟨i0, hi, hz0, hz1, hz2⟩ := info_parts hinfo
  have hb : (xs.length + 1) * bytes ≤ 1000001 * 1000 := Nat.mul_le_mul (by omega) hby
  refine wpList_append_own w hgd s x T ho base t i0 z E.size bytes hT hi hz0 hz1 hz2 hzc hpos v xs.length (cellsE E xs) hs hown ad 1 c (E.enc m) hx (by rw [E.len]; omega) hc (E.one m) (by unfold maxLen; omega) (by omega) hbase ?_
  intro v' w' h1 h2 _
  refine hK v' w' ?_ h2 ((Below.refl base w).grown h2 hbase (fun k hk => (hown.lt k hk).1))
  unfold OwnE
  rw [cellsE_snoc, List.length_append]
  exact h1
end

/-! ints -/
def EInt : El Int := ⟨fun n => [.int .i64 n], 1, fun _ => rfl, fun x u hu => by simp at hu; subst hu; rfl⟩
theorem infoInt : (Tryd.prog.info? 3).map (fun i => (i.zero, i.size, i.bytes)) = some (some (.int .i64 0), 1, 8) := by kernel_rfl
abbrev Ints (w : World) (B : Nat) (A : Option Addr) (xs : List Int) : Prop := Reads EInt w B A xs
abbrev OwnI (w : World) (base : Nat) (v : Value) (xs : List Int) : Prop := OwnE EInt 3 w base v xs
theorem cellsE_int (xs : List Int) : cellsE EInt xs = xs.map (Value.int .i64) := by
  induction xs with
  | nil => rfl
  | cons x r ih =>
    have : cellsE EInt (x :: r) = .int .i64 x :: cellsE EInt r := rfl
    rw [this, ih]; rfl
theorem Ints.cells {w : World} {B : Nat} {A : Option Addr} {xs : List Int} (h : Ints w B A xs) {k : Nat} (hk : k < xs.length) :
    ∃ b off, A = some ⟨b, off, none⟩ ∧ b < B ∧ ∀ i, i < xs.length → w.cell? ⟨b, off + i, none⟩ = some (.int .i64 (xs.getD i 0)) := by
  obtain ⟨b, off, h1, h2, h3⟩ := Reads.at h hk
  refine ⟨b, off, h1, h2, fun i hi => ?_⟩
  have := h3 i hi 0 (.int .i64 xs[i]) rfl
  have e : EInt.size = 1 := rfl
  rw [e, Nat.mul_one, Nat.add_zero] at this
  rw [this]
  simp [List.getD, hi]
theorem OwnI.cell {w : World} {base g c n : Nat} {xs : List Int} (hn : n = xs.length) (h : OwnI w base (.slice (some ⟨g, 0, none⟩) n c) xs) {j : Nat} (hj : j < n) : w.cell? ⟨g, j, none⟩ = some (.int .i64 (xs.getD j 0)) := by
  subst hn
  obtain ⟨A, c', e, hR⟩ := OwnE.reads h
  simp only [Value.slice.injEq] at e
  obtain ⟨b, off, e1, _, h3⟩ := Ints.cells hR hj
  rw [← e.1] at e1
  injection e1 with e1
  injection e1 with e2 e3 _
  subst e2 e3
  have := h3 j hj
  rwa [Nat.zero_add] at this
theorem OwnI.free {w : World} {base g c n : Nat} {xs : List Int} (hn : n = xs.length) (h : OwnI w base (.slice (some ⟨g, 0, none⟩) n c) xs) (j : Nat) : w.frozen? ⟨g, j, none⟩ = false := by
  subst hn
  exact World.ownsRow.frozenAt h j
theorem OwnI.set {w : World} {base g c n : Nat} {xs : List Int} (hn : n = xs.length) (h : OwnI w base (.slice (some ⟨g, 0, none⟩) n c) xs) (j : Nat) (m : Int) :
    OwnI (w.setCell ⟨g, j, none⟩ (.int .i64 m)) base (.slice (some ⟨g, 0, none⟩) n c) (xs.set j m) ∧ w.grownBy (w.setCell ⟨g, j, none⟩ (.int .i64 m)) (some g) := by
  subst hn
  have := World.ownsRow.stored h j (.int .i64 m)
  refine ⟨?_, this.2⟩
  have e : (xs.set j m).length = xs.length := by simp
  unfold OwnI OwnE
  rw [e, cellsE_int, List.map_set, ← cellsE_int]
  exact this.1

/-- append of one int -/
theorem wpList_append_int {w : World} {ops : Array Oper} {rest : List Oper} {o : Oper} {a : Act} {Q : Exit → Act → World → Prop} (hgd : o.guard = none) (s x : Operand)
    (ho : o.op = .call { callee := .builtin .append, args := #[s, x], argTypes := #[22, 22] })
    (base : Nat) (v : Value) (xs : List Int) (hs : a.eval s = v) (hown : OwnI w base v xs) (g c : Nat) (m : Int) (hx : a.eval x = .slice (some ⟨g, 0, none⟩) 1 c)
    (hc : w.cell? ⟨g, 0, none⟩ = some (.int .i64 m)) (hl : xs.length ≤ 1000000) (hbase : base ≤ w.heap.size)
    (hK : ∀ v' w', OwnI w' base v' (xs ++ [m]) → w.grownBy w' v.ownBlock → Below base w w' → wpList Tryd.prog ops Q rest (a.put o.dst v') w') : wpList Tryd.prog ops Q (o :: rest) a w := by
  refine wpList_append_E (E := EInt) hgd s x 22 3 ho Tryd.underlying22 infoInt rfl (by decide) (by decide) base v xs hs hown ⟨g, 0, none⟩ c m hx ?_ hl hbase hK
  intro j u hj
  cases j with
  | zero => rw [addr_plain]; simp [EInt] at hj; subst hj; exact hc
  | succ j => simp [EInt] at hj

end Go.Proofs.YtaeelanbkdkppaaDoor

/-
  The program's counting and finding of bits.
-/
namespace Go.Proofs.YtaeelanbkdkppaaDoor
open Go.RowKit


/-- the library's table lies in its variable -/
def TabW (w : World) : Prop := ∀ j, j < 64 → w.cell? ⟨0, j, none⟩ = some (.int .u8 (Lib.deBruijn64tab.getD j 0))

theorem and_c (a c : Nat) (ha : a < 18446744073709551616) (hc : c < 18446744073709551616) : bits .and .u64 (a : Int) (c : Int) = ((a &&& c : Nat) : Int) := bits_and_u64_nat a c ha hc
theorem and_127 (z : Int) : bits .and .i64 z 127 = z % 128 := by
  have h2 : (BitVec.ofInt 64 (127 : Int)).toNat = 2 ^ 7 - 1 := by decide
  show IntKind.i64.wrap ((BitVec.ofInt 64 z &&& BitVec.ofInt 64 127).toNat : Int) = _
  rw [BitVec.toNat_and, h2, Nat.and_two_pow_sub_one_eq_mod, BitVec.toNat_ofInt, IntKind.wrap_i64]
  omega
theorem wrap_127 (u n : Nat) (h : n = u % 128) : bits .and .i64 (wrap64 (u : Int)) 127 = (n : Int) := by
  rw [and_127, h]
  unfold wrap64
  omega
theorem wrap_nat (a : Nat) (h : a < 18446744073709551616) : IntKind.u64.wrap (a : Int) = (a : Int) := by rw [IntKind.wrap_u64]; omega
set_option maxHeartbeats 1000000 in
theorem ones_any (x : Nat) (hx : x < 18446744073709551616) (w : World) : Calls Tryd.prog 121 #[.int .u64 x] w fun e w' => e = .returned (.int .i64 ((bitsOf x).length : Int)) ∧ w = w' := by
  obtain ⟨p, hp⟩ : ∃ p, p = (x / 2 &&& 6148914691236517205) + (x &&& 6148914691236517205) := ⟨_, rfl⟩
  obtain ⟨q, hq⟩ : ∃ q, q = (p / 4 &&& 3689348814741910323) + (p &&& 3689348814741910323) := ⟨_, rfl⟩
  obtain ⟨r, hr⟩ : ∃ r, r = (q / 16 + q) &&& 1085102592571150095 := ⟨_, rfl⟩
  obtain ⟨s, hs⟩ : ∃ s, s = r + r / 256 := ⟨_, rfl⟩
  obtain ⟨t, ht⟩ : ∃ t, t = s + s / 65536 := ⟨_, rfl⟩
  obtain ⟨h0, h1, h2, h3, h4, h5, h6⟩ := ones_count x p q r s t hx hp hq hr hs ht
  have k1 : IntKind.u64.wrap (bits BinOp.and IntKind.u64 ((x : Int) / 2) 6148914691236517205 + bits BinOp.and IntKind.u64 (x : Int) 6148914691236517205) = (p : Int) := by
    have a1 : bits BinOp.and IntKind.u64 ((x : Int) / 2) 6148914691236517205 = ((x / 2 &&& 6148914691236517205 : Nat) : Int) := and_c (x / 2) 6148914691236517205 (by omega) (by omega)
    have a2 : bits BinOp.and IntKind.u64 (x : Int) 6148914691236517205 = ((x &&& 6148914691236517205 : Nat) : Int) := and_c x 6148914691236517205 hx (by omega)
    have a3 := wrap_nat p h1
    rw [a1, a2, ← Int.natCast_add, ← hp, a3]
  have k2 : IntKind.u64.wrap (bits BinOp.and IntKind.u64 ((p : Int) / 4) 3689348814741910323 + bits BinOp.and IntKind.u64 (p : Int) 3689348814741910323) = (q : Int) := by
    have a1 : bits BinOp.and IntKind.u64 ((p : Int) / 4) 3689348814741910323 = ((p / 4 &&& 3689348814741910323 : Nat) : Int) := and_c (p / 4) 3689348814741910323 (by omega) (by omega)
    have a2 : bits BinOp.and IntKind.u64 (p : Int) 3689348814741910323 = ((p &&& 3689348814741910323 : Nat) : Int) := and_c p 3689348814741910323 h1 (by omega)
    have a3 := wrap_nat q (by omega)
    rw [a1, a2, ← Int.natCast_add, ← hq, a3]
  have k3 : bits BinOp.and IntKind.u64 (IntKind.u64.wrap ((q : Int) / 16 + (q : Int))) 1085102592571150095 = (r : Int) := by
    have a1 := and_c (q / 16 + q) 1085102592571150095 (by omega) (by omega)
    have a3 := wrap_nat (q / 16 + q) (by omega)
    rw [show ((q / 16 + q : Nat) : Int) = (q : Int) / 16 + (q : Int) from rfl] at a1 a3
    rw [a3]
    refine a1.trans ?_
    rw [hr]
  have k4 : IntKind.u64.wrap ((r : Int) + (r : Int) / 256) = (s : Int) := by
    rw [IntKind.wrap_u64]; omega
  have k5 : IntKind.u64.wrap ((s : Int) + (s : Int) / 65536) = (t : Int) := by
    rw [IntKind.wrap_u64]; omega
  obtain ⟨u, hu⟩ : ∃ u, u = t + t / 4294967296 := ⟨_, rfl⟩
  have k6 : IntKind.u64.wrap ((t : Int) + (t : Int) / 4294967296) = (u : Int) := by
    rw [IntKind.wrap_u64]; omega
  have H : Hid ((bitsOf x).length = u % 128) := Lib.hid (by rw [hu]; exact h0.symm)
  clear h0 h1 h2 h3 h4 h5 h6 hp hq hr hs ht hu hx
  generalize (bitsOf x).length = n at H ⊢
  go_enter Tryd.func121, Tryd.ntmps121
  go_wp2
  go_ret
  exact ⟨ret_int (wrap_127 u n H.out), rfl⟩
set_option maxHeartbeats 1000000 in
theorem tz_any (x : Nat) (hx : x < 18446744073709551616) (h0 : x ≠ 0) (w : World) (hT : TabW w) : Calls Tryd.prog 100 #[.int .u64 x] w fun e w' => e = .returned (.int .i64 (Lib.ctz 64 x : Int)) ∧ w = w' := by
  have hx0 : ((x : Int) == 0) = false := by simp; omega
  obtain ⟨hlow, hk⟩ := Lib.lowest_bit 64 x h0 hx
  obtain ⟨hi, htab⟩ := Lib.deBruijn64_at _ hk
  have hcell := hT _ hi
  rw [htab] at hcell
  have key := tz64_key x _ hx h0 hlow
  clear hlow htab hT
  generalize Lib.ctz 64 x = k at *
  generalize 2 ^ k * 285870213051353865 % 18446744073709551616 / 288230376151711744 = idx at *
  have i0 : (0 : Int) ≤ (idx : Int) := by omega
  have i1 : (idx : Int) < 64 := by omega
  have i2 : ((idx : Int)).toNat = idx := by omega
  go_enter Tryd.func100, Tryd.ntmps100
  go_wp2_with (simp only [key])
  go_ret
  exact ⟨rfl, rfl⟩

theorem size_any (x : Nat) (hx : x < 18446744073709551616) (w : World) : Calls Tryd.prog 114 #[.int .u64 x] w fun e w' => e = .returned (.int .i64 ((bitsOf x).length : Int)) ∧ w = w' := by
  have H := Lib.hid (ones_any x hx w)
  generalize (bitsOf x).length = n at H ⊢
  go_enter Tryd.func114, Tryd.ntmps114
  go_wp2_with (go_at_call 121; refine H.out.mono ?_; rintro e w' ⟨rfl, rfl⟩)
  go_ret
  exact ⟨rfl, rfl⟩
/-- a set of several nodes -/
def openB (x : Nat) : Bool := decide (1 < (bitsOf x).length)
theorem isOpen_any (x : Nat) (hx : x < 18446744073709551616) (w : World) : Calls Tryd.prog 97 #[.int .u64 x] w fun e w' => e = .returned (.bool (openB x)) ∧ w = w' := by
  have H := Lib.hid (size_any x hx w)
  unfold openB
  generalize (bitsOf x).length = n at H ⊢
  go_enter Tryd.func97, Tryd.ntmps97
  go_wp2_with (go_at_call 114; refine H.out.mono ?_; rintro e w' ⟨rfl, rfl⟩)
  go_ret
  exact ⟨ret_bool (decide_eq_decide.2 (by omega)), rfl⟩

end Go.Proofs.YtaeelanbkdkppaaDoor

