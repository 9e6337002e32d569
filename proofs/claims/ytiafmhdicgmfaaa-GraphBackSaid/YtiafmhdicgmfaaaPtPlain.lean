/-
  Partitions as plain lists of numbers (stage 2's texts): what the document's words say, and quotients.
-/
namespace Go.Proofs.Ytiafmhdicgmfaaa.Pt


/-- the number at a place (0 beyond the end) -/
def at_ (p : List Nat) (i : Nat) : Nat := p.getD i 0

/-- p is a partition -/
def V (p : List Nat) : Prop := ∀ i, i < p.length → at_ p i ≤ i ∧ at_ p (at_ p i) = at_ p i

/-- p is finer than q -/
def F (p q : List Nat) : Prop := ∀ i, i < p.length → at_ q (at_ p i) = at_ q i

theorem at_get {p : List Nat} {i : Nat} (h : i < p.length) : p[i] = at_ p i := by simp [at_, List.getD, h]
theorem at_get? {p : List Nat} {i : Nat} (h : i < p.length) : p[i]? = some (at_ p i) := by simp [at_, List.getD, h]
theorem at_map {p : List Nat} {f : Nat → Nat} {i : Nat} (h : i < p.length) : at_ (p.map f) i = f (at_ p i) := by simp [at_, List.getD, h]
theorem at_range {n i : Nat} (h : i < n) : at_ (List.range n) i = i := by simp [at_, List.getD, h]
theorem ext_at {p q : List Nat} (hl : p.length = q.length) (h : ∀ i, i < p.length → at_ p i = at_ q i) : p = q := by
  apply List.ext_getElem hl
  intro i h1 h2
  rw [at_get h1, at_get h2]
  exact h i h1

theorem V.le {p : List Nat} (h : V p) {i : Nat} (hi : i < p.length) : at_ p i ≤ i := (h i hi).1
theorem V.lt {p : List Nat} (h : V p) {i : Nat} (hi : i < p.length) : at_ p i < p.length := Nat.lt_of_le_of_lt (h i hi).1 hi
theorem V.idem {p : List Nat} (h : V p) {i : Nat} (hi : i < p.length) : at_ p (at_ p i) = at_ p i := (h i hi).2

theorem V_range (n : Nat) : V (List.range n) := by
  intro i hi
  rw [List.length_range] at hi
  rw [at_range hi, at_range hi]
  exact ⟨Nat.le_refl _, rfl⟩

theorem F.refl {p : List Nat} (h : V p) : F p p := fun _ hi => h.idem hi
theorem F.trans {p q r : List Nat} (hp : V p) (hl : p.length = q.length) (h : F p q) (k : F q r) : F p r := by
  intro i hi
  have h1 := h i hi
  have h2 := k (at_ p i) (by rw [← hl]; exact hp.lt hi)
  have h3 := k i (by rw [← hl]; exact hi)
  rw [← h2, h1, h3]
theorem F.antisymm {p q : List Nat} (hp : V p) (hq : V q) (hl : p.length = q.length) (h : F p q) (k : F q p) : p = q := by
  apply ext_at hl
  intro i hi
  have h1 := h i hi
  have h2 := k i (by rw [← hl]; exact hi)
  have h3 := hq.le (i := at_ p i) (by rw [← hl]; exact hp.lt hi)
  have h4 := hp.le (i := at_ q i) (by rw [hl]; exact hq.lt (by rw [← hl]; exact hi))
  omega
theorem F.rel {p q : List Nat} (h : F p q) {i k : Nat} (hi : i < p.length) (hk : k < p.length) (e : at_ p i = at_ p k) : at_ q i = at_ q k := by
  rw [← h i hi, ← h k hk, e]
theorem F_range {n : Nat} {q : List Nat} : F (List.range n) q := by
  intro i hi
  rw [List.length_range] at hi
  rw [at_range hi]

/-- the classes of two elements joined -/
def mergeS (p : List Nat) (i k : Nat) : List Nat := p.map fun x => if x = max (at_ p i) (at_ p k) then min (at_ p i) (at_ p k) else x
theorem mergeS_length (p : List Nat) (i k : Nat) : (mergeS p i k).length = p.length := by simp [mergeS]
theorem at_merge {p : List Nat} {a b i : Nat} (hi : i < p.length) : at_ (mergeS p a b) i = if at_ p i = max (at_ p a) (at_ p b) then min (at_ p a) (at_ p b) else at_ p i := at_map hi

theorem V_merge {p : List Nat} (h : V p) {a b : Nat} (ha : a < p.length) (hb : b < p.length) : V (mergeS p a b) := by
  intro i hi
  rw [mergeS_length] at hi
  have hpa := h.idem ha
  have hpb := h.idem hb
  have hla := h.lt ha
  have hlb := h.lt hb
  have hle := h.le hi
  have hid := h.idem hi
  have hlt := h.lt hi
  by_cases he : at_ p i = max (at_ p a) (at_ p b)
  · have e1 : at_ (mergeS p a b) i = min (at_ p a) (at_ p b) := by rw [at_merge hi, if_pos he]
    rw [e1]
    refine ⟨by omega, ?_⟩
    have hm : at_ p (min (at_ p a) (at_ p b)) = min (at_ p a) (at_ p b) := by
      rcases Nat.le_total (at_ p a) (at_ p b) with h1 | h1
      · rw [Nat.min_eq_left h1, hpa]
      · rw [Nat.min_eq_right h1, hpb]
    rw [at_merge (by omega), hm]
    split <;> rfl
  · have e1 : at_ (mergeS p a b) i = at_ p i := by rw [at_merge hi, if_neg he]
    rw [e1]
    refine ⟨hle, ?_⟩
    rw [at_merge hlt, hid, if_neg he]

theorem F_merge {p : List Nat} (h : V p) (a b : Nat) : F p (mergeS p a b) := by
  intro i hi
  rw [at_merge (h.lt hi), at_merge hi, h.idem hi]

theorem merge_same {p : List Nat} {a b : Nat} (ha : a < p.length) (hb : b < p.length) : at_ (mergeS p a b) a = at_ (mergeS p a b) b := by
  rw [at_merge ha, at_merge hb]
  rcases Nat.lt_trichotomy (at_ p a) (at_ p b) with h | h | h
  · rw [if_neg (by omega), if_pos (by omega)]; omega
  · rw [h]
  · rw [if_pos (by omega), if_neg (by omega)]; omega

theorem merge_least {p q : List Nat} {a b : Nat} (ha : a < p.length) (hb : b < p.length) (hf : F p q) (hs : at_ q a = at_ q b) : F (mergeS p a b) q := by
  intro i hi
  rw [mergeS_length] at hi
  have h1 := hf i hi
  have h2 := hf a ha
  have h3 := hf b hb
  rw [at_merge hi]
  by_cases he : at_ p i = max (at_ p a) (at_ p b)
  · rw [if_pos he]
    rcases Nat.le_total (at_ p a) (at_ p b) with h4 | h4
    · rw [Nat.min_eq_left h4, h2, hs, ← h3, ← h1, he, Nat.max_eq_right h4]
    · rw [Nat.min_eq_right h4, h3, ← hs, ← h2, ← h1, he, Nat.max_eq_left h4]
  · rw [if_neg he, h1]

/-- the pairs of a list, joined one after another -/
def merges (p : List Nat) (l : List (Nat × Nat)) : List Nat := l.foldl (fun p x => mergeS p x.1 x.2) p
def inR (n : Nat) (l : List (Nat × Nat)) : Prop := ∀ x ∈ l, x.1 < n ∧ x.2 < n
def Resp (q : List Nat) (l : List (Nat × Nat)) : Prop := ∀ x ∈ l, at_ q x.1 = at_ q x.2

theorem merges_length (l : List (Nat × Nat)) : ∀ p, (merges p l).length = p.length := by
  induction l with
  | nil => intro p; rfl
  | cons x r ih => intro p; show (merges (mergeS p x.1 x.2) r).length = _; rw [ih, mergeS_length]
theorem merges_append (p : List Nat) (l m : List (Nat × Nat)) : merges p (l ++ m) = merges (merges p l) m := by simp [merges]

theorem F.resp {p q : List Nat} {l : List (Nat × Nat)} (h : F p q) (hi : inR p.length l) (hr : Resp p l) : Resp q l := fun x hx => h.rel (hi x hx).1 (hi x hx).2 (hr x hx)

theorem merges_all (l : List (Nat × Nat)) : ∀ p, V p → inR p.length l →
    V (merges p l) ∧ F p (merges p l) ∧ Resp (merges p l) l ∧ ∀ q, F p q → Resp q l → F (merges p l) q := by
  induction l with
  | nil => intro p h _; exact ⟨h, F.refl h, fun x hx => by simp at hx, fun q hq _ => hq⟩
  | cons x r ih =>
    intro p h hi
    obtain ⟨h1, h2⟩ := hi x (by simp)
    have hv := V_merge h h1 h2
    have hi' : inR (mergeS p x.1 x.2).length r := by rw [mergeS_length]; exact fun y hy => hi y (by simp [hy])
    obtain ⟨k1, k2, k3, k4⟩ := ih _ hv hi'
    have e : merges p (x :: r) = merges (mergeS p x.1 x.2) r := rfl
    rw [e]
    refine ⟨k1, F.trans h (mergeS_length ..).symm (F_merge h _ _) k2, ?_, ?_⟩
    · intro y hy
      rcases List.mem_cons.1 hy with rfl | hy
      · exact k2.rel (by rw [mergeS_length]; exact h1) (by rw [mergeS_length]; exact h2) (merge_same h1 h2)
      · exact k3 y hy
    · intro q hq hr
      exact k4 q (merge_least h1 h2 hq (hr x (by simp))) (fun y hy => hr y (by simp [hy]))

/-- what pairs generate -/
def genS (n : Nat) (l : List (Nat × Nat)) : List Nat := merges (List.range n) l
theorem genS_length (n : Nat) (l : List (Nat × Nat)) : (genS n l).length = n := by unfold genS; rw [merges_length, List.length_range]
theorem V_gen {n : Nat} {l : List (Nat × Nat)} (h : inR n l) : V (genS n l) := (merges_all l _ (V_range n) (by rw [List.length_range]; exact h)).1
theorem gen_resp {n : Nat} {l : List (Nat × Nat)} (h : inR n l) : Resp (genS n l) l := (merges_all l _ (V_range n) (by rw [List.length_range]; exact h)).2.2.1
theorem gen_least {n : Nat} {l : List (Nat × Nat)} (h : inR n l) {q : List Nat} (hq : Resp q l) : F (genS n l) q := (merges_all l _ (V_range n) (by rw [List.length_range]; exact h)).2.2.2 q F_range hq

/-- the pairs that b says: i and the least element of its class -/
def pairsOf (b : List Nat) (k : Nat) : List (Nat × Nat) := (List.range k).map fun i => (i, at_ b i)
theorem pairsOf_succ (b : List Nat) (k : Nat) : pairsOf b (k + 1) = pairsOf b k ++ [(k, at_ b k)] := by simp [pairsOf, List.range_succ]
theorem pairs_inR {b : List Nat} (h : V b) {k : Nat} (hk : k ≤ b.length) : inR b.length (pairsOf b k) := by
  intro x hx
  simp only [pairsOf, List.mem_map, List.mem_range] at hx
  obtain ⟨i, hi, rfl⟩ := hx
  exact ⟨by show i < _; omega, h.lt (by omega)⟩
theorem resp_pairs {b q : List Nat} : Resp q (pairsOf b b.length) ↔ F b q := by
  constructor
  · intro h i hi
    have := h (i, at_ b i) (by simp only [pairsOf, List.mem_map, List.mem_range]; exact ⟨i, hi, rfl⟩)
    exact this.symm
  · intro h x hx
    simp only [pairsOf, List.mem_map, List.mem_range] at hx
    obtain ⟨i, hi, rfl⟩ := hx
    exact (h i hi).symm

/-- the join -/
def joinS (a b : List Nat) : List Nat := merges a (pairsOf b b.length)
theorem joinS_length (a b : List Nat) : (joinS a b).length = a.length := merges_length _ _
theorem join_all {a b : List Nat} (ha : V a) (hb : V b) (hl : a.length = b.length) :
    V (joinS a b) ∧ F a (joinS a b) ∧ F b (joinS a b) ∧ ∀ q, F a q → F b q → F (joinS a b) q := by
  obtain ⟨h1, h2, h3, h4⟩ := merges_all (pairsOf b b.length) a ha (by rw [hl]; exact pairs_inR hb (Nat.le_refl _))
  exact ⟨h1, h2, resp_pairs.1 h3, fun q k1 k2 => h4 q k1 (resp_pairs.2 k2)⟩

/-- a list with the join's properties is the join -/
theorem join_of {a b j : List Nat} (ha : V a) (hb : V b) (hl : a.length = b.length) (hj : V j) (hlj : j.length = a.length) (h1 : F a j) (h2 : F b j) (h3 : ∀ q, F a q → F b q → F j q) : j = joinS a b := by
  obtain ⟨k1, k2, k3, k4⟩ := join_all ha hb hl
  exact F.antisymm hj k1 (by rw [joinS_length, hlj]) (h3 _ k2 k3) (k4 _ h1 h2)

/-- the join as the reference computes it -/
def pairsTwo (a b : List Nat) : Nat → List (Nat × Nat)
  | 0 => []
  | k + 1 => pairsTwo a b k ++ [(k, at_ a k), (k, at_ b k)]
theorem mem_pairsTwo {a b : List Nat} {k : Nat} {x : Nat × Nat} : x ∈ pairsTwo a b k ↔ ∃ i, i < k ∧ (x = (i, at_ a i) ∨ x = (i, at_ b i)) := by
  induction k with
  | zero => simp [pairsTwo]
  | succ k ih =>
    simp only [pairsTwo, List.mem_append, ih, List.mem_cons, List.not_mem_nil, or_false]
    constructor
    · rintro (⟨i, hi, h⟩ | h | h)
      · exact ⟨i, by omega, h⟩
      · exact ⟨k, by omega, .inl h⟩
      · exact ⟨k, by omega, .inr h⟩
    · rintro ⟨i, hi, h⟩
      by_cases e : i = k
      · subst e
        exact .inr h
      · exact .inl ⟨i, by omega, h⟩
theorem two_inR {a b : List Nat} (ha : V a) (hb : V b) (hl : a.length = b.length) {k : Nat} (hk : k ≤ a.length) : inR a.length (pairsTwo a b k) := by
  intro x hx
  obtain ⟨i, hi, rfl | rfl⟩ := mem_pairsTwo.1 hx
  · exact ⟨by show i < _; omega, ha.lt (by omega)⟩
  · exact ⟨by show i < _; omega, by have := hb.lt (i := i) (by omega); show at_ b i < _; omega⟩
theorem join_two {a b : List Nat} (ha : V a) (hb : V b) (hl : a.length = b.length) : genS a.length (pairsTwo a b a.length) = joinS a b := by
  have hi := two_inR ha hb hl (Nat.le_refl _)
  have hr := gen_resp hi
  refine join_of ha hb hl (V_gen hi) (genS_length _ _) ?_ ?_ ?_
  · intro i h
    exact (hr (i, at_ a i) (mem_pairsTwo.2 ⟨i, h, .inl rfl⟩)).symm
  · intro i h
    exact (hr (i, at_ b i) (mem_pairsTwo.2 ⟨i, by omega, .inr rfl⟩)).symm
  · intro q h1 h2
    refine gen_least hi ?_
    intro x hx
    obtain ⟨i, h, rfl | rfl⟩ := mem_pairsTwo.1 hx
    · exact (h1 i h).symm
    · exact (h2 i (by omega)).symm

/-- the least k at which a and b agree with their values at i -/
def leastS (a b : List Nat) (i : Nat) : Nat := ((List.range (i + 1)).find? fun k => at_ a k == at_ a i && at_ b k == at_ b i).getD 0
theorem leastS_spec (a b : List Nat) (i : Nat) : leastS a b i ≤ i ∧ at_ a (leastS a b i) = at_ a i ∧ at_ b (leastS a b i) = at_ b i ∧ ∀ k, k < leastS a b i → ¬ (at_ a k = at_ a i ∧ at_ b k = at_ b i) := by
  unfold leastS
  cases h : (List.range (i + 1)).find? fun k => at_ a k == at_ a i && at_ b k == at_ b i with
  | none =>
    rw [List.find?_eq_none] at h
    have := h i (by simp)
    simp at this
  | some k =>
    rw [List.find?_range_eq_some] at h
    obtain ⟨h1, h2, h3⟩ := h
    simp at h1 h2
    refine ⟨by simp; omega, h1.1, h1.2, fun j hj he => ?_⟩
    have := h3 j hj
    rw [he.1, he.2] at this
    simp at this
theorem leastS_eq {a b : List Nat} {i k : Nat} (h1 : at_ a k = at_ a i) (h2 : at_ b k = at_ b i) (h3 : ∀ j, j < k → ¬ (at_ a j = at_ a i ∧ at_ b j = at_ b i)) : leastS a b i = k := by
  obtain ⟨k1, k2, k3, k4⟩ := leastS_spec a b i
  rcases Nat.lt_trichotomy (leastS a b i) k with h | h | h
  · exact absurd ⟨k2, k3⟩ (h3 _ h)
  · exact h
  · exact absurd ⟨h1, h2⟩ (k4 _ h)

def meetS (a b : List Nat) : List Nat := (List.range a.length).map (leastS a b)
theorem meetS_length (a b : List Nat) : (meetS a b).length = a.length := by simp [meetS]
theorem at_meet {a b : List Nat} {i : Nat} (h : i < a.length) : at_ (meetS a b) i = leastS a b i := by
  unfold meetS
  rw [at_map (by simpa using h), at_range h]
theorem meet_all {a b : List Nat} : V (meetS a b) ∧ F (meetS a b) a ∧ F (meetS a b) b ∧ ∀ c, V c → c.length = a.length → F c a → F c b → F c (meetS a b) := by
  refine ⟨fun i hi => ?_, fun i hi => ?_, fun i hi => ?_, fun c hv hl h1 h2 i hi => ?_⟩
  · rw [meetS_length] at hi
    obtain ⟨k1, k2, k3, k4⟩ := leastS_spec a b i
    rw [at_meet hi]
    refine ⟨k1, ?_⟩
    rw [at_meet (by omega)]
    refine leastS_eq rfl rfl (fun j hj => ?_)
    rw [k2, k3]
    exact k4 j hj
  · rw [meetS_length] at hi
    rw [at_meet hi]
    exact (leastS_spec a b i).2.1
  · rw [meetS_length] at hi
    rw [at_meet hi]
    exact (leastS_spec a b i).2.2.1
  · have hlt := hv.lt hi
    rw [at_meet (by omega), at_meet (by omega)]
    obtain ⟨k1, k2, k3, k4⟩ := leastS_spec a b i
    have e1 := h1 i hi
    have e2 := h2 i hi
    exact leastS_eq (by rw [k2, e1]) (by rw [k3, e2]) (fun j hj => by rw [e1, e2]; exact k4 j hj)



/-- the least elements below k -/
def fixsTo (p : List Nat) (k : Nat) : List Nat := (List.range k).filter fun j => at_ p j == j
/-- how many classes begin below k -/
def rank (p : List Nat) (k : Nat) : Nat := (fixsTo p k).length
theorem fixsTo_yes {p : List Nat} {k : Nat} (h : at_ p k = k) : fixsTo p (k + 1) = fixsTo p k ++ [k] := by
  unfold fixsTo
  rw [List.range_succ, List.filter_append]
  simp [h]
theorem fixsTo_no {p : List Nat} {k : Nat} (h : at_ p k ≠ k) : fixsTo p (k + 1) = fixsTo p k := by
  unfold fixsTo
  rw [List.range_succ, List.filter_append]
  simp [h]
theorem rank_yes {p : List Nat} {k : Nat} (h : at_ p k = k) : rank p (k + 1) = rank p k + 1 := by simp [rank, fixsTo_yes h]
theorem rank_no {p : List Nat} {k : Nat} (h : at_ p k ≠ k) : rank p (k + 1) = rank p k := by simp [rank, fixsTo_no h]
theorem rank_le (p : List Nat) (k : Nat) : rank p k ≤ k := by
  unfold rank fixsTo
  exact Nat.le_trans (List.length_filter_le _ _) (by simp)
theorem fixsTo_split (p : List Nat) (k d : Nat) : ∃ r, fixsTo p (k + d) = fixsTo p k ++ r ∧ (0 < d → at_ p k = k → r.head? = some k) := by
  induction d with
  | zero => exact ⟨[], by simp, fun h => by omega⟩
  | succ d ih =>
    obtain ⟨r, h1, h2⟩ := ih
    by_cases h : at_ p (k + d) = k + d
    · refine ⟨r ++ [k + d], ?_, fun _ hk => ?_⟩
      · rw [← Nat.add_assoc, fixsTo_yes h, h1, List.append_assoc]
      · rcases Nat.eq_zero_or_pos d with e | e
        · subst e
          have : r = [] := by simpa using h1
          rw [this]; rfl
        · have := h2 e hk
          cases r with
          | nil => simp at this
          | cons a s => simpa using this
    · refine ⟨r, by rw [← Nat.add_assoc, fixsTo_no h, h1], fun _ hk => ?_⟩
      rcases Nat.eq_zero_or_pos d with e | e
      · subst e; exact absurd hk h
      · exact h2 e hk
theorem fixs_at {p : List Nat} {k n : Nat} (hk : k < n) (h : at_ p k = k) : (fixsTo p n)[rank p k]? = some k := by
  obtain ⟨r, h1, h2⟩ := fixsTo_split p k (n - k)
  rw [show k + (n - k) = n by omega] at h1
  have := h2 (by omega) h
  rw [h1]
  unfold rank
  rw [List.getElem?_append_right (Nat.le_refl _), Nat.sub_self]
  cases r with
  | nil => simp at this
  | cons a s => simpa using this
theorem rank_lt {p : List Nat} {k n : Nat} (hk : k < n) (h : at_ p k = k) : rank p k < rank p n := by
  have := fixs_at hk h
  rcases Nat.lt_or_ge (rank p k) (fixsTo p n).length with h1 | h1
  · exact h1
  · rw [List.getElem?_eq_none h1] at this; cases this
theorem fixs_mem {p : List Nat} {n i f : Nat} (h : (fixsTo p n)[i]? = some f) : f < n ∧ at_ p f = f ∧ rank p f = i := by
  have hm : f ∈ fixsTo p n := List.mem_of_getElem? h
  unfold fixsTo at hm
  rw [List.mem_filter, List.mem_range] at hm
  obtain ⟨h1, h2⟩ := hm
  have h2' : at_ p f = f := by simpa using h2
  refine ⟨h1, h2', ?_⟩
  have h3 := fixs_at h1 h2'
  have hnd : (fixsTo p n).Nodup := List.nodup_range.filter _
  have hi : i < (fixsTo p n).length := by
    rcases Nat.lt_or_ge i (fixsTo p n).length with h1 | h1
    · exact h1
    · rw [List.getElem?_eq_none h1] at h; cases h
  exact ((List.getElem?_inj hi hnd).1 (h.trans h3.symm)).symm

theorem at_take {l : List Nat} {i k : Nat} (h : i < k) : at_ (l.take k) i = at_ l i := by
  unfold at_
  rw [List.getD_eq_getElem?_getD, List.getD_eq_getElem?_getD, List.getElem?_take, if_pos h]

def quoS (p : List Nat) : List Nat := (List.range p.length).map fun i => rank p (at_ p i)
theorem quoS_length (p : List Nat) : (quoS p).length = p.length := by simp [quoS]
theorem quoS_at {p : List Nat} {i : Nat} (h : i < p.length) : at_ (quoS p) i = rank p (at_ p i) := by
  unfold quoS
  rw [at_map (by simpa using h), at_range h]
theorem quoS_take {p : List Nat} {k : Nat} (h : k < p.length) : (quoS p).take (k + 1) = (quoS p).take k ++ [rank p (at_ p k)] := by
  rw [List.take_succ_eq_append_getElem (by rw [quoS_length]; exact h), at_get (by rw [quoS_length]; exact h), quoS_at h]

/-- the quotient's first k places, the rest 0 -/
def quoTo (p : List Nat) (k : Nat) : List Nat := (quoS p).take k ++ List.replicate (p.length - k) 0
theorem quoTo_length {p : List Nat} {k : Nat} (h : k ≤ p.length) : (quoTo p k).length = p.length := by simp [quoTo, quoS_length]; omega
theorem quoTo_zero (p : List Nat) : quoTo p 0 = List.replicate p.length 0 := by simp [quoTo]
theorem quoTo_all (p : List Nat) : quoTo p p.length = quoS p := by
  unfold quoTo
  rw [List.take_of_length_le (by rw [quoS_length]; exact Nat.le_refl _)]
  simp
theorem quoTo_at {p : List Nat} {i k : Nat} (hi : i < k) (hk : k ≤ p.length) : at_ (quoTo p k) i = rank p (at_ p i) := by
  unfold quoTo at_
  rw [List.getD_eq_getElem?_getD, List.getElem?_append_left (by rw [List.length_take, quoS_length]; omega), List.getElem?_take, if_pos hi]
  have := quoS_at (p := p) (i := i) (by omega)
  unfold at_ at this
  rw [List.getD_eq_getElem?_getD] at this
  exact this
theorem quoTo_set {p : List Nat} {k : Nat} (h : k < p.length) : (quoTo p k).set k (rank p (at_ p k)) = quoTo p (k + 1) := by
  unfold quoTo
  have hl : ((quoS p).take k).length = k := by rw [List.length_take, quoS_length]; omega
  rw [quoS_take h, List.set_append_right _ _ (by omega), hl, Nat.sub_self]
  obtain ⟨m, hm⟩ : ∃ m, p.length - k = m + 1 := ⟨p.length - k - 1, by omega⟩
  rw [hm, show p.length - (k + 1) = m by omega, List.replicate_succ, List.set_cons_zero]
  simp

/-- the elements below m of the class that begins with k -/
def clsOf (p : List Nat) (m k : Nat) : List Nat := (List.range m).filter fun i => at_ p i == k
theorem clsOf_yes {p : List Nat} {m k : Nat} (h : at_ p m = k) : clsOf p (m + 1) k = clsOf p m k ++ [m] := by
  unfold clsOf
  rw [List.range_succ, List.filter_append]
  simp [h]
theorem clsOf_no {p : List Nat} {m k : Nat} (h : at_ p m ≠ k) : clsOf p (m + 1) k = clsOf p m k := by
  unfold clsOf
  rw [List.range_succ, List.filter_append]
  simp [h]
theorem clsOf_len (p : List Nat) (m k : Nat) : (clsOf p m k).length ≤ m := by
  unfold clsOf
  exact Nat.le_trans (List.length_filter_le _ _) (by simp)
/-- all classes, their elements below m -/
def clsTo (p : List Nat) (m : Nat) : List (List Nat) := (fixsTo p p.length).map (clsOf p m)
def classS (p : List Nat) : List (List Nat) := clsTo p p.length
theorem clsTo_length (p : List Nat) (m : Nat) : (clsTo p m).length = rank p p.length := by simp [clsTo, rank]
theorem clsTo_zero (p : List Nat) : clsTo p 0 = List.replicate (rank p p.length) [] := by
  unfold clsTo rank
  induction fixsTo p p.length with
  | nil => rfl
  | cons a r ih => rw [List.map_cons, ih, List.length_cons, List.replicate_succ]; rfl
theorem clsTo_set {p : List Nat} (hv : V p) {m : Nat} (h : m < p.length) :
    clsTo p (m + 1) = (clsTo p m).set (rank p (at_ p m)) ((clsTo p m).getD (rank p (at_ p m)) [] ++ [m]) := by
  have hf := fixs_at (n := p.length) (hv.lt h) (hv.idem h)
  have hr : rank p (at_ p m) < (fixsTo p p.length).length := rank_lt (hv.lt h) (hv.idem h)
  apply List.ext_getElem (by simp [clsTo])
  intro i h1 h2
  have hi : i < (fixsTo p p.length).length := by simpa [clsTo] using h1
  rw [List.getElem_set]
  have ei : ∀ m, (clsTo p m)[i]? = some (clsOf p m (fixsTo p p.length)[i]) := fun m => by simp [clsTo, hi]
  have e1 : (clsTo p (m + 1))[i] = clsOf p (m + 1) (fixsTo p p.length)[i] := by simp [clsTo]
  rw [e1]
  by_cases he : rank p (at_ p m) = i
  · rw [if_pos he]
    subst he
    have hfi : (fixsTo p p.length)[rank p (at_ p m)] = at_ p m := by rw [List.getElem?_eq_getElem hi] at hf; injection hf
    rw [hfi, clsOf_yes rfl, List.getD_eq_getElem?_getD, ei m, hfi]
    rfl
  · rw [if_neg he]
    have hne : at_ p m ≠ (fixsTo p p.length)[i] := by
      intro e
      have := (fixs_mem (p := p) (n := p.length) (i := i) (f := at_ p m) (by rw [List.getElem?_eq_getElem hi, e])).2.2
      exact he this
    rw [clsOf_no hne]
    simp [clsTo]

theorem sum_set {l : List (List Nat)} {c m : Nat} (h : c < l.length) : ((l.set c (l.getD c [] ++ [m])).map List.length).sum = (l.map List.length).sum + 1 := by
  induction l generalizing c with
  | nil => simp at h
  | cons a r ih =>
    cases c with
    | zero => simp; omega
    | succ c =>
      have := ih (c := c) (by simpa using h)
      simp only [List.getD_cons_succ, List.set_cons_succ, List.map_cons, List.sum_cons]
      omega
theorem cls_sum {p : List Nat} (hv : V p) {m : Nat} (h : m ≤ p.length) : ((clsTo p m).map List.length).sum = m := by
  induction m with
  | zero => rw [clsTo_zero]; simp
  | succ m ih =>
    rw [clsTo_set hv (by omega), sum_set (by rw [clsTo_length]; exact rank_lt (hv.lt (by omega)) (hv.idem (by omega))), ih (by omega)]

/-- what a class holds: its elements have its index, and the least one is the first -/
theorem class_facts {p : List Nat} (hv : V p) {i : Nat} {cl : List Nat} (h : (classS p)[i]? = some cl) :
    0 < cl.length ∧ ∀ j, j < cl.length → at_ cl j < p.length ∧ rank p (at_ p (at_ cl j)) = i ∧ at_ p (at_ cl j) = at_ cl 0 := by
  unfold classS clsTo at h
  rw [List.getElem?_map, Option.map_eq_some_iff] at h
  obtain ⟨f, hf, rfl⟩ := h
  obtain ⟨h1, h2, h3⟩ := fixs_mem hf
  have hmem : f ∈ clsOf p p.length f := by
    unfold clsOf
    rw [List.mem_filter, List.mem_range]
    exact ⟨h1, by simp [h2]⟩
  have hpos : 0 < (clsOf p p.length f).length := List.length_pos_of_mem hmem
  have hall : ∀ j, j < (clsOf p p.length f).length → at_ (clsOf p p.length f) j < p.length ∧ at_ p (at_ (clsOf p p.length f) j) = f := by
    intro j hj
    have : at_ (clsOf p p.length f) j ∈ clsOf p p.length f := by rw [← at_get hj]; exact List.getElem_mem hj
    generalize at_ (clsOf p p.length f) j = x at this
    unfold clsOf at this
    rw [List.mem_filter, List.mem_range] at this
    exact ⟨this.1, by simpa using this.2⟩
  have h0 : at_ (clsOf p p.length f) 0 = f := by
    obtain ⟨j, hj, e⟩ := List.getElem_of_mem hmem
    rw [at_get hj] at e
    have hsort : (clsOf p p.length f).Pairwise (· < ·) := List.pairwise_lt_range.filter _
    have hle : at_ (clsOf p p.length f) 0 ≤ f := by
      rcases Nat.eq_zero_or_pos j with e0 | e0
      · subst e0; omega
      · have := List.pairwise_iff_getElem.1 hsort 0 j hpos hj e0
        rw [at_get hpos, at_get hj, e] at this
        omega
    obtain ⟨k1, k2⟩ := hall 0 hpos
    have := hv.le k1
    omega
  refine ⟨hpos, fun j hj => ?_⟩
  obtain ⟨k1, k2⟩ := hall j hj
  exact ⟨k1, by rw [k2, h3], by rw [k2, h0]⟩


end Go.Proofs.Ytiafmhdicgmfaaa.Pt
