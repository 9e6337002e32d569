/-
  Partitions as plain lists of numbers: what the document's words say, without the program.
-/
namespace Go.Proofs.Ytdflgcfjfgojkaa

/-- the number at a place (0 beyond the end) -/
def at_ (p : List Nat) (i : Nat) : Nat := p.getD i 0

/-- p is a partition -/
def V (p : List Nat) : Prop := ∀ i, i < p.length → at_ p i ≤ i ∧ at_ p (at_ p i) = at_ p i

/-- p is finer than q -/
def F (p q : List Nat) : Prop := ∀ i, i < p.length → at_ q (at_ p i) = at_ q i

theorem at_get {p : List Nat} {i : Nat} (h : i < p.length) : p[i] = at_ p i := by simp [at_, List.getD, h]
theorem at_get? {p : List Nat} {i : Nat} (h : i < p.length) : p[i]? = some (at_ p i) := by simp [at_, List.getD, h]
theorem at_map {p : List Nat} {f : Nat → Nat} {i : Nat} (h : i < p.length) : at_ (p.map f) i = f (at_ p i) := by simp [at_, List.getD, h]
theorem at_range {n i : Nat} (h : i < n) : at_ (List.range n) i = i := by simp [at_, List.getD, h]
theorem ext_at {p q : List Nat} (hl : p.length = q.length) (h : ∀ i, i < p.length → at_ p i = at_ q i) : p = q := by
  apply List.ext_getElem hl
  intro i h1 h2
  rw [at_get h1, at_get h2]
  exact h i h1

theorem V.le {p : List Nat} (h : V p) {i : Nat} (hi : i < p.length) : at_ p i ≤ i := (h i hi).1
theorem V.lt {p : List Nat} (h : V p) {i : Nat} (hi : i < p.length) : at_ p i < p.length := Nat.lt_of_le_of_lt (h i hi).1 hi
theorem V.idem {p : List Nat} (h : V p) {i : Nat} (hi : i < p.length) : at_ p (at_ p i) = at_ p i := (h i hi).2

theorem V_range (n : Nat) : V (List.range n) := by
  intro i hi
  rw [List.length_range] at hi
  rw [at_range hi, at_range hi]
  exact ⟨Nat.le_refl _, rfl⟩

theorem F.refl {p : List Nat} (h : V p) : F p p := fun _ hi => h.idem hi
theorem F.trans {p q r : List Nat} (hp : V p) (hl : p.length = q.length) (h : F p q) (k : F q r) : F p r := by
  intro i hi
  have h1 := h i hi
  have h2 := k (at_ p i) (by rw [← hl]; exact hp.lt hi)
  have h3 := k i (by rw [← hl]; exact hi)
  rw [← h2, h1, h3]
theorem F.antisymm {p q : List Nat} (hp : V p) (hq : V q) (hl : p.length = q.length) (h : F p q) (k : F q p) : p = q := by
  apply ext_at hl
  intro i hi
  have h1 := h i hi
  have h2 := k i (by rw [← hl]; exact hi)
  have h3 := hq.le (i := at_ p i) (by rw [← hl]; exact hp.lt hi)
  have h4 := hp.le (i := at_ q i) (by rw [hl]; exact hq.lt (by rw [← hl]; exact hi))
  omega
theorem F.rel {p q : List Nat} (h : F p q) {i k : Nat} (hi : i < p.length) (hk : k < p.length) (e : at_ p i = at_ p k) : at_ q i = at_ q k := by
  rw [← h i hi, ← h k hk, e]
theorem F_range {n : Nat} {q : List Nat} : F (List.range n) q := by
  intro i hi
  rw [List.length_range] at hi
  rw [at_range hi]

/-- the classes of two elements joined -/
def mergeS (p : List Nat) (i k : Nat) : List Nat := p.map fun x => if x = max (at_ p i) (at_ p k) then min (at_ p i) (at_ p k) else x
theorem mergeS_length (p : List Nat) (i k : Nat) : (mergeS p i k).length = p.length := by simp [mergeS]
theorem at_merge {p : List Nat} {a b i : Nat} (hi : i < p.length) : at_ (mergeS p a b) i = if at_ p i = max (at_ p a) (at_ p b) then min (at_ p a) (at_ p b) else at_ p i := at_map hi

theorem V_merge {p : List Nat} (h : V p) {a b : Nat} (ha : a < p.length) (hb : b < p.length) : V (mergeS p a b) := by
  intro i hi
  rw [mergeS_length] at hi
  have hpa := h.idem ha
  have hpb := h.idem hb
  have hla := h.lt ha
  have hlb := h.lt hb
  have hle := h.le hi
  have hid := h.idem hi
  have hlt := h.lt hi
  by_cases he : at_ p i = max (at_ p a) (at_ p b)
  · have e1 : at_ (mergeS p a b) i = min (at_ p a) (at_ p b) := by rw [at_merge hi, if_pos he]
    rw [e1]
    refine ⟨by omega, ?_⟩
    have hm : at_ p (min (at_ p a) (at_ p b)) = min (at_ p a) (at_ p b) := by
      rcases Nat.le_total (at_ p a) (at_ p b) with h1 | h1
      · rw [Nat.min_eq_left h1, hpa]
      · rw [Nat.min_eq_right h1, hpb]
    rw [at_merge (by omega), hm]
    split <;> rfl
  · have e1 : at_ (mergeS p a b) i = at_ p i := by rw [at_merge hi, if_neg he]
    rw [e1]
    refine ⟨hle, ?_⟩
    rw [at_merge hlt, hid, if_neg he]

theorem F_merge {p : List Nat} (h : V p) (a b : Nat) : F p (mergeS p a b) := by
  intro i hi
  rw [at_merge (h.lt hi), at_merge hi, h.idem hi]

theorem merge_same {p : List Nat} {a b : Nat} (ha : a < p.length) (hb : b < p.length) : at_ (mergeS p a b) a = at_ (mergeS p a b) b := by
  rw [at_merge ha, at_merge hb]
  rcases Nat.lt_trichotomy (at_ p a) (at_ p b) with h | h | h
  · rw [if_neg (by omega), if_pos (by omega)]; omega
  · rw [h]
  · rw [if_pos (by omega), if_neg (by omega)]; omega

theorem merge_least {p q : List Nat} {a b : Nat} (ha : a < p.length) (hb : b < p.length) (hf : F p q) (hs : at_ q a = at_ q b) : F (mergeS p a b) q := by
  intro i hi
  rw [mergeS_length] at hi
  have h1 := hf i hi
  have h2 := hf a ha
  have h3 := hf b hb
  rw [at_merge hi]
  by_cases he : at_ p i = max (at_ p a) (at_ p b)
  · rw [if_pos he]
    rcases Nat.le_total (at_ p a) (at_ p b) with h4 | h4
    · rw [Nat.min_eq_left h4, h2, hs, ← h3, ← h1, he, Nat.max_eq_right h4]
    · rw [Nat.min_eq_right h4, h3, ← hs, ← h2, ← h1, he, Nat.max_eq_left h4]
  · rw [if_neg he, h1]

/-- the pairs of a list, joined one after another -/
def merges (p : List Nat) (l : List (Nat × Nat)) : List Nat := l.foldl (fun p x => mergeS p x.1 x.2) p
def inR (n : Nat) (l : List (Nat × Nat)) : Prop := ∀ x ∈ l, x.1 < n ∧ x.2 < n
def Resp (q : List Nat) (l : List (Nat × Nat)) : Prop := ∀ x ∈ l, at_ q x.1 = at_ q x.2

theorem merges_length (l : List (Nat × Nat)) : ∀ p, (merges p l).length = p.length := by
  induction l with
  | nil => intro p; rfl
  | cons x r ih => intro p; show (merges (mergeS p x.1 x.2) r).length = _; rw [ih, mergeS_length]
theorem merges_append (p : List Nat) (l m : List (Nat × Nat)) : merges p (l ++ m) = merges (merges p l) m := by simp [merges]

theorem F.resp {p q : List Nat} {l : List (Nat × Nat)} (h : F p q) (hi : inR p.length l) (hr : Resp p l) : Resp q l := fun x hx => h.rel (hi x hx).1 (hi x hx).2 (hr x hx)

theorem merges_all (l : List (Nat × Nat)) : ∀ p, V p → inR p.length l →
    V (merges p l) ∧ F p (merges p l) ∧ Resp (merges p l) l ∧ ∀ q, F p q → Resp q l → F (merges p l) q := by
  induction l with
  | nil => intro p h _; exact ⟨h, F.refl h, fun x hx => by simp at hx, fun q hq _ => hq⟩
  | cons x r ih =>
    intro p h hi
    obtain ⟨h1, h2⟩ := hi x (by simp)
    have hv := V_merge h h1 h2
    have hi' : inR (mergeS p x.1 x.2).length r := by rw [mergeS_length]; exact fun y hy => hi y (by simp [hy])
    obtain ⟨k1, k2, k3, k4⟩ := ih _ hv hi'
    have e : merges p (x :: r) = merges (mergeS p x.1 x.2) r := rfl
    rw [e]
    refine ⟨k1, F.trans h (mergeS_length ..).symm (F_merge h _ _) k2, ?_, ?_⟩
    · intro y hy
      rcases List.mem_cons.1 hy with rfl | hy
      · exact k2.rel (by rw [mergeS_length]; exact h1) (by rw [mergeS_length]; exact h2) (merge_same h1 h2)
      · exact k3 y hy
    · intro q hq hr
      exact k4 q (merge_least h1 h2 hq (hr x (by simp))) (fun y hy => hr y (by simp [hy]))

/-- what pairs generate -/
def genS (n : Nat) (l : List (Nat × Nat)) : List Nat := merges (List.range n) l
theorem genS_length (n : Nat) (l : List (Nat × Nat)) : (genS n l).length = n := by unfold genS; rw [merges_length, List.length_range]
theorem V_gen {n : Nat} {l : List (Nat × Nat)} (h : inR n l) : V (genS n l) := (merges_all l _ (V_range n) (by rw [List.length_range]; exact h)).1
theorem gen_resp {n : Nat} {l : List (Nat × Nat)} (h : inR n l) : Resp (genS n l) l := (merges_all l _ (V_range n) (by rw [List.length_range]; exact h)).2.2.1
theorem gen_least {n : Nat} {l : List (Nat × Nat)} (h : inR n l) {q : List Nat} (hq : Resp q l) : F (genS n l) q := (merges_all l _ (V_range n) (by rw [List.length_range]; exact h)).2.2.2 q F_range hq

/-- the pairs that b says: i and the least element of its class -/
def pairsOf (b : List Nat) (k : Nat) : List (Nat × Nat) := (List.range k).map fun i => (i, at_ b i)
theorem pairsOf_succ (b : List Nat) (k : Nat) : pairsOf b (k + 1) = pairsOf b k ++ [(k, at_ b k)] := by simp [pairsOf, List.range_succ]
theorem pairs_inR {b : List Nat} (h : V b) {k : Nat} (hk : k ≤ b.length) : inR b.length (pairsOf b k) := by
  intro x hx
  simp only [pairsOf, List.mem_map, List.mem_range] at hx
  obtain ⟨i, hi, rfl⟩ := hx
  exact ⟨by show i < _; omega, h.lt (by omega)⟩
theorem resp_pairs {b q : List Nat} : Resp q (pairsOf b b.length) ↔ F b q := by
  constructor
  · intro h i hi
    have := h (i, at_ b i) (by simp only [pairsOf, List.mem_map, List.mem_range]; exact ⟨i, hi, rfl⟩)
    exact this.symm
  · intro h x hx
    simp only [pairsOf, List.mem_map, List.mem_range] at hx
    obtain ⟨i, hi, rfl⟩ := hx
    exact (h i hi).symm

/-- the join -/
def joinS (a b : List Nat) : List Nat := merges a (pairsOf b b.length)
theorem joinS_length (a b : List Nat) : (joinS a b).length = a.length := merges_length _ _
theorem join_all {a b : List Nat} (ha : V a) (hb : V b) (hl : a.length = b.length) :
    V (joinS a b) ∧ F a (joinS a b) ∧ F b (joinS a b) ∧ ∀ q, F a q → F b q → F (joinS a b) q := by
  obtain ⟨h1, h2, h3, h4⟩ := merges_all (pairsOf b b.length) a ha (by rw [hl]; exact pairs_inR hb (Nat.le_refl _))
  exact ⟨h1, h2, resp_pairs.1 h3, fun q k1 k2 => h4 q k1 (resp_pairs.2 k2)⟩

/-- a list with the join's properties is the join -/
theorem join_of {a b j : List Nat} (ha : V a) (hb : V b) (hl : a.length = b.length) (hj : V j) (hlj : j.length = a.length) (h1 : F a j) (h2 : F b j) (h3 : ∀ q, F a q → F b q → F j q) : j = joinS a b := by
  obtain ⟨k1, k2, k3, k4⟩ := join_all ha hb hl
  exact F.antisymm hj k1 (by rw [joinS_length, hlj]) (h3 _ k2 k3) (k4 _ h1 h2)

/-- the join as the reference computes it -/
def pairsTwo (a b : List Nat) : Nat → List (Nat × Nat)
  | 0 => []
  | k + 1 => pairsTwo a b k ++ [(k, at_ a k), (k, at_ b k)]
theorem mem_pairsTwo {a b : List Nat} {k : Nat} {x : Nat × Nat} : x ∈ pairsTwo a b k ↔ ∃ i, i < k ∧ (x = (i, at_ a i) ∨ x = (i, at_ b i)) := by
  induction k with
  | zero => simp [pairsTwo]
  | succ k ih =>
    simp only [pairsTwo, List.mem_append, ih, List.mem_cons, List.not_mem_nil, or_false]
    constructor
    · rintro (⟨i, hi, h⟩ | h | h)
      · exact ⟨i, by omega, h⟩
      · exact ⟨k, by omega, .inl h⟩
      · exact ⟨k, by omega, .inr h⟩
    · rintro ⟨i, hi, h⟩
      by_cases e : i = k
      · subst e
        exact .inr h
      · exact .inl ⟨i, by omega, h⟩
theorem two_inR {a b : List Nat} (ha : V a) (hb : V b) (hl : a.length = b.length) {k : Nat} (hk : k ≤ a.length) : inR a.length (pairsTwo a b k) := by
  intro x hx
  obtain ⟨i, hi, rfl | rfl⟩ := mem_pairsTwo.1 hx
  · exact ⟨by show i < _; omega, ha.lt (by omega)⟩
  · exact ⟨by show i < _; omega, by have := hb.lt (i := i) (by omega); show at_ b i < _; omega⟩
theorem join_two {a b : List Nat} (ha : V a) (hb : V b) (hl : a.length = b.length) : genS a.length (pairsTwo a b a.length) = joinS a b := by
  have hi := two_inR ha hb hl (Nat.le_refl _)
  have hr := gen_resp hi
  refine join_of ha hb hl (V_gen hi) (genS_length _ _) ?_ ?_ ?_
  · intro i h
    exact (hr (i, at_ a i) (mem_pairsTwo.2 ⟨i, h, .inl rfl⟩)).symm
  · intro i h
    exact (hr (i, at_ b i) (mem_pairsTwo.2 ⟨i, by omega, .inr rfl⟩)).symm
  · intro q h1 h2
    refine gen_least hi ?_
    intro x hx
    obtain ⟨i, h, rfl | rfl⟩ := mem_pairsTwo.1 hx
    · exact (h1 i h).symm
    · exact (h2 i (by omega)).symm

/-- the least k at which a and b agree with their values at i -/
def leastS (a b : List Nat) (i : Nat) : Nat := ((List.range (i + 1)).find? fun k => at_ a k == at_ a i && at_ b k == at_ b i).getD 0
theorem leastS_spec (a b : List Nat) (i : Nat) : leastS a b i ≤ i ∧ at_ a (leastS a b i) = at_ a i ∧ at_ b (leastS a b i) = at_ b i ∧ ∀ k, k < leastS a b i → ¬ (at_ a k = at_ a i ∧ at_ b k = at_ b i) := by
  unfold leastS
  cases h : (List.range (i + 1)).find? fun k => at_ a k == at_ a i && at_ b k == at_ b i with
  | none =>
    rw [List.find?_eq_none] at h
    have := h i (by simp)
    simp at this
  | some k =>
    rw [List.find?_range_eq_some] at h
    obtain ⟨h1, h2, h3⟩ := h
    simp at h1 h2
    refine ⟨by simp; omega, h1.1, h1.2, fun j hj he => ?_⟩
    have := h3 j hj
    rw [he.1, he.2] at this
    simp at this
theorem leastS_eq {a b : List Nat} {i k : Nat} (h1 : at_ a k = at_ a i) (h2 : at_ b k = at_ b i) (h3 : ∀ j, j < k → ¬ (at_ a j = at_ a i ∧ at_ b j = at_ b i)) : leastS a b i = k := by
  obtain ⟨k1, k2, k3, k4⟩ := leastS_spec a b i
  rcases Nat.lt_trichotomy (leastS a b i) k with h | h | h
  · exact absurd ⟨k2, k3⟩ (h3 _ h)
  · exact h
  · exact absurd ⟨h1, h2⟩ (k4 _ h)

def meetS (a b : List Nat) : List Nat := (List.range a.length).map (leastS a b)
theorem meetS_length (a b : List Nat) : (meetS a b).length = a.length := by simp [meetS]
theorem at_meet {a b : List Nat} {i : Nat} (h : i < a.length) : at_ (meetS a b) i = leastS a b i := by
  unfold meetS
  rw [at_map (by simpa using h), at_range h]
theorem meet_all {a b : List Nat} : V (meetS a b) ∧ F (meetS a b) a ∧ F (meetS a b) b ∧ ∀ c, V c → c.length = a.length → F c a → F c b → F c (meetS a b) := by
  refine ⟨fun i hi => ?_, fun i hi => ?_, fun i hi => ?_, fun c hv hl h1 h2 i hi => ?_⟩
  · rw [meetS_length] at hi
    obtain ⟨k1, k2, k3, k4⟩ := leastS_spec a b i
    rw [at_meet hi]
    refine ⟨k1, ?_⟩
    rw [at_meet (by omega)]
    refine leastS_eq rfl rfl (fun j hj => ?_)
    rw [k2, k3]
    exact k4 j hj
  · rw [meetS_length] at hi
    rw [at_meet hi]
    exact (leastS_spec a b i).2.1
  · rw [meetS_length] at hi
    rw [at_meet hi]
    exact (leastS_spec a b i).2.2.1
  · have hlt := hv.lt hi
    rw [at_meet (by omega), at_meet (by omega)]
    obtain ⟨k1, k2, k3, k4⟩ := leastS_spec a b i
    have e1 := h1 i hi
    have e2 := h2 i hi
    exact leastS_eq (by rw [k2, e1]) (by rw [k3, e2]) (fun j hj => by rw [e1, e2]; exact k4 j hj)

end Go.Proofs.Ytdflgcfjfgojkaa
