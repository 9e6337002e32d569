/-
  Graphs as plain data: what the document's words say, without the program.
-/
namespace Go.Proofs.Ytiafmhdicgmfaaa

structure Ed where
  ty : Int
  fr : Int
  to : Int
deriving DecidableEq
instance : Inhabited Ed := ⟨⟨0, 0, 0⟩⟩
structure Gr where
  ns : List Int
  es : List Ed
deriving DecidableEq
structure Mo where
  ns : List Int
  es : List Int
deriving DecidableEq
instance : Inhabited Mo := ⟨⟨[], []⟩⟩

/-! lists that grow round by round -/
section
variable {β : Type}
def coll (f : Nat → List β) : Nat → List β
  | 0 => []
  | k + 1 => coll f k ++ f k
theorem coll_ext {f g : Nat → List β} {k : Nat} (h : ∀ i, i < k → f i = g i) : coll f k = coll g k := by
  induction k with
  | zero => rfl
  | succ k ih => simp only [coll]; rw [ih fun i hi => h i (by omega), h k (by omega)]
theorem coll_le {f : Nat → List β} (h : ∀ i, (f i).length ≤ 1) (k : Nat) : (coll f k).length ≤ k := by
  induction k with
  | zero => exact Nat.le_refl _
  | succ k ih => simp only [coll, List.length_append]; have := h k; omega
theorem coll_len (h : Nat → β) (k : Nat) : (coll (fun i => [h i]) k).length = k := by
  induction k with
  | zero => rfl
  | succ k ih => simp only [coll, List.length_append, ih, List.length_singleton]
theorem coll_get (h : Nat → β) {i k : Nat} (hi : i < k) : (coll (fun i => [h i]) k)[i]? = some (h i) := by
  induction k with
  | zero => omega
  | succ k ih =>
    simp only [coll]
    by_cases e : i < k
    · rw [List.getElem?_append_left (by rw [coll_len]; exact e)]; exact ih e
    · have : i = k := by omega
      subst this
      rw [List.getElem?_append_right (by rw [coll_len]; exact Nat.le_refl _), coll_len, Nat.sub_self]; rfl
theorem coll_getD (h : Nat → β) {i k : Nat} (hi : i < k) (d : β) : (coll (fun i => [h i]) k).getD i d = h i := by
  rw [List.getD_eq_getElem?_getD, coll_get h hi]; rfl
theorem coll_self (l : List β) (d : β) : coll (fun i => [l.getD i d]) l.length = l := by
  apply List.ext_getElem?
  intro i
  by_cases h : i < l.length
  · rw [coll_get _ h, List.getD_eq_getElem?_getD, List.getElem?_eq_getElem h]; rfl
  · rw [List.getElem?_eq_none (by rw [coll_len]; omega), List.getElem?_eq_none (by omega)]
theorem coll_map {γ : Type} (q : β → γ) (f : Nat → List β) (k : Nat) : (coll f k).map q = coll (fun i => (f i).map q) k := by
  induction k with
  | zero => rfl
  | succ k ih => simp only [coll, List.map_append, ih]
theorem coll_add (f : Nat → List β) (k d : Nat) : coll f (k + d) = coll f k ++ coll (fun i => f (k + i)) d := by
  induction d with
  | zero => simp [coll]
  | succ d ih => rw [Nat.add_succ]; simp only [coll]; rw [ih, List.append_assoc]
theorem coll_nil (f : Nat → List β) {k : Nat} (h : ∀ i, i < k → f i = []) : coll f k = [] := by
  induction k with
  | zero => rfl
  | succ k ih => simp only [coll]; rw [ih fun i hi => h i (by omega), h k (by omega)]; rfl
theorem coll_mem {f : Nat → List β} {k : Nat} {x : β} : x ∈ coll f k ↔ ∃ i, i < k ∧ x ∈ f i := by
  induction k with
  | zero => simp [coll]
  | succ k ih =>
    simp only [coll, List.mem_append, ih]
    constructor
    · rintro (⟨i, h1, h2⟩ | h)
      · exact ⟨i, by omega, h2⟩
      · exact ⟨k, by omega, h⟩
    · rintro ⟨i, h1, h2⟩
      by_cases e : i = k
      · subst e; exact .inr h2
      · exact .inl ⟨i, by omega, h2⟩
/-- the first k places are written, the others hold z -/
def pad (f : Nat → β) (z : β) (n k : Nat) : List β := coll (fun i => [f i]) k ++ List.replicate (n - k) z
theorem pad_len (f : Nat → β) (z : β) {n k : Nat} (h : k ≤ n) : (pad f z n k).length = n := by simp [pad, coll_len]; omega
theorem pad_zero (f : Nat → β) (z : β) (n : Nat) : pad f z n 0 = List.replicate n z := by simp [pad, coll]
theorem pad_all (f : Nat → β) (z : β) (n : Nat) : pad f z n n = coll (fun i => [f i]) n := by simp [pad]
theorem pad_set (f : Nat → β) (z : β) {n k : Nat} (h : k < n) : (pad f z n k).set k (f k) = pad f z n (k + 1) := by
  unfold pad
  rw [List.set_append_right _ _ (by rw [coll_len]; exact Nat.le_refl _), coll_len, Nat.sub_self]
  obtain ⟨m, hm⟩ : ∃ m, n - k = m + 1 := ⟨n - k - 1, by omega⟩
  rw [hm, show n - (k + 1) = m by omega, List.replicate_succ, List.set_cons_zero]
  simp [coll]
end

/-! the first error -/
def fstN (f : Nat → Nat) : Nat → Nat → Nat
  | _, 0 => 0
  | k, d + 1 => if f k ≠ 0 then f k else fstN f (k + 1) d
theorem fstN_hit {f : Nat → Nat} {k n : Nat} (h : k < n) (hf : f k ≠ 0) : fstN f k (n - k) = f k := by
  obtain ⟨d, e⟩ : ∃ d, n - k = d + 1 := ⟨n - k - 1, by omega⟩
  rw [e]; simp only [fstN]; rw [if_pos hf]
theorem fstN_pass {f : Nat → Nat} {k n : Nat} (h : k < n) (hf : f k = 0) : fstN f k (n - k) = fstN f (k + 1) (n - (k + 1)) := by
  obtain ⟨d, e⟩ : ∃ d, n - k = d + 1 := ⟨n - k - 1, by omega⟩
  rw [e, show n - (k + 1) = d by omega]; simp only [fstN]; rw [if_neg (by omega)]
theorem fstN_end {f : Nat → Nat} {k n : Nat} (h : n ≤ k) : fstN f k (n - k) = 0 := by
  rw [show n - k = 0 by omega]; rfl
theorem fstN_zero {f : Nat → Nat} : ∀ {d k : Nat}, fstN f k d = 0 → ∀ i, k ≤ i → i < k + d → f i = 0 := by
  intro d
  induction d with
  | zero => intro k _ i h1 h2; omega
  | succ d ih =>
    intro k h i h1 h2
    simp only [fstN] at h
    split at h
    · omega
    · rename_i hf
      by_cases e : i = k
      · subst e; omega
      · exact ih h i (by omega) (by omega)
theorem fstN_all {f : Nat → Nat} : ∀ {d k : Nat}, (∀ i, k ≤ i → i < k + d → f i = 0) → fstN f k d = 0 := by
  intro d
  induction d with
  | zero => intro k _; rfl
  | succ d ih =>
    intro k h
    simp only [fstN]
    rw [if_neg (fun e => e (h k (Nat.le_refl _) (by omega)))]
    exact ih fun i h1 h2 => h i (by omega) (by omega)

/-! errors of graphs -/
def idxB (i : Int) (n : Nat) : Bool := decide (0 ≤ i) && decide (i < (n : Int))
theorem idxB_iff {i : Int} {n : Nat} : idxB i n = true ↔ 0 ≤ i ∧ i < n := by simp [idxB]
theorem idxB_not {i : Int} {n : Nat} : idxB i n = false ↔ i < 0 ∨ (n : Int) ≤ i := by
  rw [← Bool.not_eq_true, idxB_iff]; omega
def edB (x : Ed) (n : Nat) : Bool := idxB x.ty 100 && idxB x.fr n && idxB x.to n
theorem edB_iff {x : Ed} {n : Nat} : edB x n = true ↔ (0 ≤ x.ty ∧ x.ty < 100) ∧ (0 ≤ x.fr ∧ x.fr < n) ∧ (0 ≤ x.to ∧ x.to < n) := by
  simp only [edB, Bool.and_eq_true, idxB_iff]; omega
def validE (g : Gr) : Nat := if 40 < g.ns.length ∨ 80 < g.es.length then 3 else if g.ns.all (idxB · 100) && g.es.all (edB · g.ns.length) then 0 else 6
theorem valid_long {g : Gr} (h : 40 < g.ns.length ∨ 80 < g.es.length) : validE g = 3 := if_pos h
theorem valid_node {g : Gr} (h1 : g.ns.length ≤ 40) (h2 : g.es.length ≤ 80) {i : Nat} (hi : i < g.ns.length) (h : idxB (g.ns.getD i 0) 100 = false) : validE g = 6 := by
  unfold validE
  rw [if_neg (by omega), if_neg]
  intro hc
  rw [Bool.and_eq_true, List.all_eq_true] at hc
  have := hc.1 (g.ns.getD i 0) (by rw [List.getD_eq_getElem?_getD, List.getElem?_eq_getElem hi]; exact List.getElem_mem hi)
  rw [h] at this; cases this
theorem valid_edge {g : Gr} (h1 : g.ns.length ≤ 40) (h2 : g.es.length ≤ 80) {i : Nat} (hi : i < g.es.length) (h : edB (g.es.getD i default) g.ns.length = false) : validE g = 6 := by
  unfold validE
  rw [if_neg (by omega), if_neg]
  intro hc
  rw [Bool.and_eq_true, List.all_eq_true, List.all_eq_true] at hc
  have := hc.2 (g.es.getD i default) (by rw [List.getD_eq_getElem?_getD, List.getElem?_eq_getElem hi]; exact List.getElem_mem hi)
  rw [h] at this; cases this
theorem valid_ok {g : Gr} (h1 : g.ns.length ≤ 40) (h2 : g.es.length ≤ 80) (h3 : ∀ i, i < g.ns.length → idxB (g.ns.getD i 0) 100 = true) (h4 : ∀ i, i < g.es.length → edB (g.es.getD i default) g.ns.length = true) : validE g = 0 := by
  unfold validE
  rw [if_neg (by omega), if_pos]
  rw [Bool.and_eq_true, List.all_eq_true, List.all_eq_true]
  constructor
  · intro x hx
    obtain ⟨i, hi, rfl⟩ := List.mem_iff_getElem.1 hx
    have := h3 i hi
    rwa [List.getD_eq_getElem?_getD, List.getElem?_eq_getElem hi] at this
  · intro x hx
    obtain ⟨i, hi, rfl⟩ := List.mem_iff_getElem.1 hx
    have := h4 i hi
    rwa [List.getD_eq_getElem?_getD, List.getElem?_eq_getElem hi] at this
theorem valid_zero {g : Gr} (h : validE g = 0) : g.ns.length ≤ 40 ∧ g.es.length ≤ 80 ∧ (∀ x ∈ g.ns, 0 ≤ x ∧ x < 100) ∧ (∀ x ∈ g.es, edB x g.ns.length = true) := by
  unfold validE at h
  split at h
  · omega
  · split at h
    · rename_i h1 h2
      rw [Bool.and_eq_true, List.all_eq_true, List.all_eq_true] at h2
      exact ⟨by omega, by omega, fun x hx => idxB_iff.1 (h2.1 x hx), h2.2⟩
    · omega
theorem getD_mem {β : Type} {l : List β} {d : β} {i : Nat} (h : i < l.length) : l.getD i d ∈ l := by
  rw [List.getD_eq_getElem?_getD, List.getElem?_eq_getElem h]; exact List.getElem_mem h
theorem valid_at {g : Gr} (h : validE g = 0) {i : Nat} (hi : i < g.es.length) : (0 ≤ (g.es.getD i default).fr ∧ (g.es.getD i default).fr < g.ns.length) ∧ (0 ≤ (g.es.getD i default).to ∧ (g.es.getD i default).to < g.ns.length) :=
  (edB_iff.1 ((valid_zero h).2.2.2 _ (getD_mem hi))).2

/-- the ends of an edge -/
def frN (g : Gr) (i : Nat) : Nat := (g.es.getD i default).fr.toNat
def toN (g : Gr) (i : Nat) : Nat := (g.es.getD i default).to.toNat

def noG : Gr := ⟨[], []⟩
def noM : Mo := ⟨[], []⟩
def addNE (g : Gr) (k : Int) : Nat := if validE g ≠ 0 then validE g else if idxB k 100 = false then 6 else if g.ns.length = 40 then 3 else 0
def addNG (g : Gr) (k : Int) : Gr := if addNE g k = 0 then ⟨g.ns ++ [k], g.es⟩ else noG
def addNI (g : Gr) (k : Int) : Nat := if addNE g k = 0 then g.ns.length else 0
def addEE (g : Gr) (x : Ed) : Nat := if validE g ≠ 0 then validE g else if edB x g.ns.length = false then 6 else if g.es.length = 80 then 3 else 0
def addEG (g : Gr) (x : Ed) : Gr := if addEE g x = 0 then ⟨g.ns, g.es ++ [x]⟩ else noG
def addEI (g : Gr) (x : Ed) : Nat := if addEE g x = 0 then g.es.length else 0

/-! Remove -/
def ascAt (l : List Int) (n k : Nat) : Nat := if idxB (l.getD k 0) n = false then 6 else if 0 < k ∧ l.getD k 0 ≤ l.getD (k - 1) 0 then 12 else 0
def ascE (l : List Int) (n : Nat) : Nat := fstN (ascAt l n) 0 l.length
def Asc (l : List Int) : Prop := l.Pairwise (· < ·)
theorem asc_of {l : List Int} (h : ∀ i, i + 1 < l.length → l.getD i 0 < l.getD (i + 1) 0) : Asc l := by
  induction l with
  | nil => exact List.Pairwise.nil
  | cons x r ih =>
    have hr : Asc r := ih fun i hi => by have := h (i + 1) (by simp; omega); simpa using this
    refine List.Pairwise.cons ?_ hr
    intro y hy
    cases r with
    | nil => simp at hy
    | cons z s =>
      have h0 : x < z := by have := h 0 (by simp); simpa using this
      rcases List.mem_cons.1 hy with rfl | hy
      · exact h0
      · have := List.rel_of_pairwise_cons hr hy; omega
theorem asc_zero {l : List Int} {n : Nat} (h : ascE l n = 0) : (∀ x ∈ l, 0 ≤ x ∧ x < n) ∧ Asc l := by
  have hz := fstN_zero h
  have hat : ∀ i, i < l.length → idxB (l.getD i 0) n = true ∧ ¬ (0 < i ∧ l.getD i 0 ≤ l.getD (i - 1) 0) := by
    intro i hi
    have := hz i (by omega) (by omega)
    unfold ascAt at this
    split at this
    · omega
    · split at this
      · omega
      · rename_i h1 h2; exact ⟨by simpa using h1, h2⟩
  constructor
  · intro x hx
    obtain ⟨i, hi, rfl⟩ := List.mem_iff_getElem.1 hx
    have := (hat i hi).1
    rw [List.getD_eq_getElem?_getD, List.getElem?_eq_getElem hi] at this
    exact idxB_iff.1 this
  · apply asc_of
    intro i hi
    have := (hat (i + 1) hi).2
    rw [Nat.add_sub_cancel] at this
    omega
theorem asc_mk {l : List Int} {n : Nat} (h1 : ∀ x ∈ l, 0 ≤ x ∧ x < n) (h2 : ∀ i, i + 1 < l.length → l.getD i 0 < l.getD (i + 1) 0) : ascE l n = 0 := by
  apply fstN_all
  intro i _ hi
  unfold ascAt
  rw [if_neg (by rw [idxB_iff.2 (h1 _ (getD_mem (by omega)))]; simp), if_neg]
  rintro ⟨h3, h4⟩
  have := h2 (i - 1) (by omega)
  rw [show i - 1 + 1 = i by omega] at this
  omega
def cntL (l : List Int) (i : Nat) : Nat := l.countP (fun x => decide (x < (i : Int)))
theorem cnt_zero {l : List Int} (h : ∀ x ∈ l, 0 ≤ x) : cntL l 0 = 0 := by
  unfold cntL
  rw [List.countP_eq_zero]
  intro x hx
  have := h x hx
  simp; omega
theorem cnt_none {l : List Int} {i : Nat} (h : ∀ x ∈ l, (i : Int) ≤ x) : cntL l i = 0 := by
  unfold cntL
  rw [List.countP_eq_zero]
  intro x hx
  have := h x hx
  simp; omega
theorem cnt_cons (x : Int) (r : List Int) (i : Nat) : cntL (x :: r) i = cntL r i + if x < (i : Int) then 1 else 0 := by
  unfold cntL
  rw [List.countP_cons]
  simp
theorem asc_at {l : List Int} (h : Asc l) (i : Nat) : l[cntL l i]? = some (i : Int) ↔ (i : Int) ∈ l := by
  induction l with
  | nil => simp
  | cons x r ih =>
    obtain ⟨h1, h2⟩ := List.pairwise_cons.1 h
    rw [cnt_cons]
    by_cases hx : x < (i : Int)
    · rw [if_pos hx, List.getElem?_cons_succ, ih h2, List.mem_cons]
      constructor
      · exact fun h => .inr h
      · rintro (h | h)
        · omega
        · exact h
    · rw [if_neg hx, Nat.add_zero, cnt_none fun y hy => by have := h1 y hy; omega, List.getElem?_cons_zero, List.mem_cons]
      constructor
      · intro h; injection h with h; exact .inl h.symm
      · rintro (h | h)
        · rw [h]
        · have := h1 _ h; omega
theorem cnt_succ {l : List Int} (h : Asc l) (i : Nat) : cntL l (i + 1) = cntL l i + if (i : Int) ∈ l then 1 else 0 := by
  induction l with
  | nil => simp [cntL]
  | cons x r ih =>
    obtain ⟨h1, h2⟩ := List.pairwise_cons.1 h
    rw [cnt_cons, cnt_cons, ih h2]
    by_cases hx : x = (i : Int)
    · subst hx
      have hn : ¬ (i : Int) ∈ r := fun hm => by have := h1 _ hm; omega
      rw [if_neg hn, if_pos (by omega), if_neg (by omega), if_pos (by simp)]
    · have em : ((i : Int) ∈ x :: r) ↔ (i : Int) ∈ r := by
        rw [List.mem_cons]
        exact ⟨fun h => h.elim (fun h => absurd h.symm hx) id, .inr⟩
      have ex : x < ((i + 1 : Nat) : Int) ↔ x < (i : Int) := by omega
      simp only [em, ex]
      exact Nat.add_right_comm _ _ _
theorem cnt_le {l : List Int} (h : Asc l) (h0 : ∀ x ∈ l, 0 ≤ x) (i : Nat) : cntL l i ≤ i := by
  induction i with
  | zero => rw [cnt_zero h0]; exact Nat.le_refl _
  | succ i ih => rw [cnt_succ h]; split <;> omega
theorem cnt_len (l : List Int) (i : Nat) : cntL l i ≤ l.length := List.countP_le_length

/-- where an element is without those of l: -1 if it is one of them -/
def plc (l : List Int) (i : Nat) : Int := if (i : Int) ∈ l then -1 else (i : Int) - cntL l i
theorem plc_in {l : List Int} {i : Nat} (h : (i : Int) ∈ l) : plc l i = -1 := if_pos h
theorem plc_out {l : List Int} {i : Nat} (h : ¬ (i : Int) ∈ l) : plc l i = (i : Int) - cntL l i := if_neg h
theorem plc_nonneg {l : List Int} (h : Asc l) (h0 : ∀ x ∈ l, 0 ≤ x) {i : Nat} : 0 ≤ plc l i ↔ ¬ (i : Int) ∈ l := by
  constructor
  · intro h1 h2; rw [plc_in h2] at h1; omega
  · intro h1; rw [plc_out h1]; have := cnt_le h h0 i; omega
def dangB (g : Gr) (vs xs : List Int) (i : Nat) : Bool := !decide ((i : Int) ∈ xs) && (decide ((g.es.getD i default).fr ∈ vs) || decide ((g.es.getD i default).to ∈ vs))
def dangAt (g : Gr) (vs xs : List Int) (i : Nat) : Nat := if dangB g vs xs i then 14 else 0
def remE (g : Gr) (vs xs : List Int) : Nat := if validE g ≠ 0 then validE g else if ascE vs g.ns.length ≠ 0 then ascE vs g.ns.length else if ascE xs g.es.length ≠ 0 then ascE xs g.es.length else fstN (dangAt g vs xs) 0 g.es.length
def remNs (g : Gr) (vs : List Int) (k : Nat) : List Int := coll (fun i => if (i : Int) ∈ vs then [] else [g.ns.getD i 0]) k
def mvd (g : Gr) (vs : List Int) (i : Nat) : Ed := ⟨(g.es.getD i default).ty, plc vs (frN g i), plc vs (toN g i)⟩
def remEs (g : Gr) (vs xs : List Int) (k : Nat) : List Ed := coll (fun i => if (i : Int) ∈ xs then [] else [mvd g vs i]) k
def remG (g : Gr) (vs xs : List Int) : Gr := if remE g vs xs = 0 then ⟨remNs g vs g.ns.length, remEs g vs xs g.es.length⟩ else noG
def plcs (l : List Int) (n : Nat) : List Int := coll (fun i => [plc l i]) n
def remM (g : Gr) (vs xs : List Int) : Mo := if remE g vs xs = 0 then ⟨plcs vs g.ns.length, plcs xs g.es.length⟩ else noM
theorem rem_zero {g : Gr} {vs xs : List Int} (h : remE g vs xs = 0) : validE g = 0 ∧ ascE vs g.ns.length = 0 ∧ ascE xs g.es.length = 0 ∧ ∀ i, i < g.es.length → dangB g vs xs i = false := by
  unfold remE at h
  split at h
  · omega
  · split at h
    · omega
    · split at h
      · omega
      · rename_i h1 h2 h3
        refine ⟨by omega, by omega, by omega, fun i hi => ?_⟩
        have := fstN_zero h i (by omega) (by omega)
        unfold dangAt at this
        split at this
        · omega
        · rename_i h4; simpa using h4
/-- what is left of a list without some places -/
theorem left_at {β : Type} {l : List Int} (h : Asc l) (h0 : ∀ x ∈ l, 0 ≤ x) (q : Nat → β) (k : Nat) : (coll (fun i => if (i : Int) ∈ l then [] else [q i]) k).length = k - cntL l k ∧
    ∀ j, j < k → ¬ (j : Int) ∈ l → (coll (fun i => if (i : Int) ∈ l then [] else [q i]) k)[j - cntL l j]? = some (q j) := by
  induction k with
  | zero => exact ⟨by simp [coll], fun j hj => by omega⟩
  | succ k ih =>
    obtain ⟨h1, h2⟩ := ih
    have hc := cnt_succ h k
    have hle := cnt_le h h0 k
    by_cases hm : (k : Int) ∈ l
    · simp only [coll, hm, if_true, List.append_nil]
      rw [if_pos hm] at hc
      refine ⟨by omega, fun j hj hn => ?_⟩
      have : j ≠ k := fun e => hn (e ▸ hm)
      exact h2 j (by omega) hn
    · simp only [coll, hm, if_false]
      rw [if_neg hm] at hc
      refine ⟨by rw [List.length_append, h1, List.length_singleton]; omega, fun j hj hn => ?_⟩
      by_cases e : j = k
      · subst e
        rw [List.getElem?_append_right (by omega), h1, Nat.sub_self]; rfl
      · have h3 := h2 j (by omega) hn
        rw [List.getElem?_append_left (by
          rcases Nat.lt_or_ge (j - cntL l j) (coll (fun i => if (i : Int) ∈ l then [] else [q i]) k).length with h4 | h4
          · exact h4
          · rw [List.getElem?_eq_none h4] at h3; cases h3)]
        exact h3

/-! Union, Incident -/
def numS (a : Int) (n : Nat) : List Int := coll (fun i => [a + (i : Int)]) n
def uniE (a b : Gr) : Nat := if validE a ≠ 0 then validE a else if validE b ≠ 0 then validE b else if 40 < a.ns.length + b.ns.length ∨ 80 < a.es.length + b.es.length then 3 else 0
def shE (n : Nat) (x : Ed) : Ed := ⟨x.ty, x.fr + n, x.to + n⟩
def uniG (a b : Gr) : Gr := if uniE a b = 0 then ⟨a.ns ++ b.ns, a.es ++ b.es.map (shE a.ns.length)⟩ else noG
def uniM (a b : Gr) : Mo := if uniE a b = 0 then ⟨numS 0 a.ns.length, numS 0 a.es.length⟩ else noM
def uniN (a b : Gr) : Mo := if uniE a b = 0 then ⟨numS a.ns.length b.ns.length, numS a.es.length b.es.length⟩ else noM
def incE (g : Gr) (v : Int) : Nat := if validE g ≠ 0 then validE g else if idxB v g.ns.length = false then 6 else 0
def insS (g : Gr) (v : Int) (k : Nat) : List Int := coll (fun i => if (g.es.getD i default).to = v then [(i : Int)] else []) k
def outsS (g : Gr) (v : Int) (k : Nat) : List Int := coll (fun i => if (g.es.getD i default).fr = v then [(i : Int)] else []) k
def incI (g : Gr) (v : Int) : List Int := if incE g v = 0 then insS g v g.es.length else []
def incO (g : Gr) (v : Int) : List Int := if incE g v = 0 then outsS g v g.es.length else []
theorem uni_zero {a b : Gr} (h : uniE a b = 0) : validE a = 0 ∧ validE b = 0 ∧ a.ns.length + b.ns.length ≤ 40 ∧ a.es.length + b.es.length ≤ 80 := by
  unfold uniE at h
  split at h
  · omega
  · split at h
    · omega
    · split at h
      · omega
      · exact ⟨by omega, by omega, by omega, by omega⟩
theorem inc_zero {g : Gr} {v : Int} (h : incE g v = 0) : validE g = 0 ∧ 0 ≤ v ∧ v < g.ns.length := by
  unfold incE at h
  split at h
  · omega
  · split at h
    · omega
    · rename_i h1 h2
      have := idxB_iff.1 (Bool.not_eq_false _ ▸ h2 : idxB v g.ns.length = true)
      exact ⟨by omega, this⟩

end Go.Proofs.Ytiafmhdicgmfaaa
