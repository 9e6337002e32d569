/-
  Plain: the quotient and the classes of a partition.
-/
import Derived.Test.YtdflgcfjfgojkaaPlain
namespace Go.Proofs.Ytdflgcfjfgojkaa

/-- the least elements below k -/
def fixsTo (p : List Nat) (k : Nat) : List Nat := (List.range k).filter fun j => at_ p j == j
/-- how many classes begin below k -/
def rank (p : List Nat) (k : Nat) : Nat := (fixsTo p k).length
theorem fixsTo_yes {p : List Nat} {k : Nat} (h : at_ p k = k) : fixsTo p (k + 1) = fixsTo p k ++ [k] := by
  unfold fixsTo
  rw [List.range_succ, List.filter_append]
  simp [h]
theorem fixsTo_no {p : List Nat} {k : Nat} (h : at_ p k ≠ k) : fixsTo p (k + 1) = fixsTo p k := by
  unfold fixsTo
  rw [List.range_succ, List.filter_append]
  simp [h]
theorem rank_yes {p : List Nat} {k : Nat} (h : at_ p k = k) : rank p (k + 1) = rank p k + 1 := by simp [rank, fixsTo_yes h]
theorem rank_no {p : List Nat} {k : Nat} (h : at_ p k ≠ k) : rank p (k + 1) = rank p k := by simp [rank, fixsTo_no h]
theorem rank_le (p : List Nat) (k : Nat) : rank p k ≤ k := by
  unfold rank fixsTo
  exact Nat.le_trans (List.length_filter_le _ _) (by simp)
theorem fixsTo_split (p : List Nat) (k d : Nat) : ∃ r, fixsTo p (k + d) = fixsTo p k ++ r ∧ (0 < d → at_ p k = k → r.head? = some k) := by
  induction d with
  | zero => exact ⟨[], by simp, fun h => by omega⟩
  | succ d ih =>
    obtain ⟨r, h1, h2⟩ := ih
    by_cases h : at_ p (k + d) = k + d
    · refine ⟨r ++ [k + d], ?_, fun _ hk => ?_⟩
      · rw [← Nat.add_assoc, fixsTo_yes h, h1, List.append_assoc]
      · rcases Nat.eq_zero_or_pos d with e | e
        · subst e
          have : r = [] := by simpa using h1
          rw [this]; rfl
        · have := h2 e hk
          cases r with
          | nil => simp at this
          | cons a s => simpa using this
    · refine ⟨r, by rw [← Nat.add_assoc, fixsTo_no h, h1], fun _ hk => ?_⟩
      rcases Nat.eq_zero_or_pos d with e | e
      · subst e; exact absurd hk h
      · exact h2 e hk
theorem fixs_at {p : List Nat} {k n : Nat} (hk : k < n) (h : at_ p k = k) : (fixsTo p n)[rank p k]? = some k := by
  obtain ⟨r, h1, h2⟩ := fixsTo_split p k (n - k)
  rw [show k + (n - k) = n by omega] at h1
  have := h2 (by omega) h
  rw [h1]
  unfold rank
  rw [List.getElem?_append_right (Nat.le_refl _), Nat.sub_self]
  cases r with
  | nil => simp at this
  | cons a s => simpa using this
theorem rank_lt {p : List Nat} {k n : Nat} (hk : k < n) (h : at_ p k = k) : rank p k < rank p n := by
  have := fixs_at hk h
  rcases Nat.lt_or_ge (rank p k) (fixsTo p n).length with h1 | h1
  · exact h1
  · rw [List.getElem?_eq_none h1] at this; cases this
theorem fixs_mem {p : List Nat} {n i f : Nat} (h : (fixsTo p n)[i]? = some f) : f < n ∧ at_ p f = f ∧ rank p f = i := by
  have hm : f ∈ fixsTo p n := List.mem_of_getElem? h
  unfold fixsTo at hm
  rw [List.mem_filter, List.mem_range] at hm
  obtain ⟨h1, h2⟩ := hm
  have h2' : at_ p f = f := by simpa using h2
  refine ⟨h1, h2', ?_⟩
  have h3 := fixs_at h1 h2'
  have hnd : (fixsTo p n).Nodup := List.nodup_range.filter _
  have hi : i < (fixsTo p n).length := by
    rcases Nat.lt_or_ge i (fixsTo p n).length with h1 | h1
    · exact h1
    · rw [List.getElem?_eq_none h1] at h; cases h
  exact ((List.getElem?_inj hi hnd).1 (h.trans h3.symm)).symm

theorem at_take {l : List Nat} {i k : Nat} (h : i < k) : at_ (l.take k) i = at_ l i := by
  unfold at_
  rw [List.getD_eq_getElem?_getD, List.getD_eq_getElem?_getD, List.getElem?_take, if_pos h]

def quoS (p : List Nat) : List Nat := (List.range p.length).map fun i => rank p (at_ p i)
theorem quoS_length (p : List Nat) : (quoS p).length = p.length := by simp [quoS]
theorem quoS_at {p : List Nat} {i : Nat} (h : i < p.length) : at_ (quoS p) i = rank p (at_ p i) := by
  unfold quoS
  rw [at_map (by simpa using h), at_range h]
theorem quoS_take {p : List Nat} {k : Nat} (h : k < p.length) : (quoS p).take (k + 1) = (quoS p).take k ++ [rank p (at_ p k)] := by
  rw [List.take_succ_eq_append_getElem (by rw [quoS_length]; exact h), at_get (by rw [quoS_length]; exact h), quoS_at h]

/-- the quotient's first k places, the rest 0 -/
def quoTo (p : List Nat) (k : Nat) : List Nat := (quoS p).take k ++ List.replicate (p.length - k) 0
theorem quoTo_length {p : List Nat} {k : Nat} (h : k ≤ p.length) : (quoTo p k).length = p.length := by simp [quoTo, quoS_length]; omega
theorem quoTo_zero (p : List Nat) : quoTo p 0 = List.replicate p.length 0 := by simp [quoTo]
theorem quoTo_all (p : List Nat) : quoTo p p.length = quoS p := by
  unfold quoTo
  rw [List.take_of_length_le (by rw [quoS_length]; exact Nat.le_refl _)]
  simp
theorem quoTo_at {p : List Nat} {i k : Nat} (hi : i < k) (hk : k ≤ p.length) : at_ (quoTo p k) i = rank p (at_ p i) := by
  unfold quoTo at_
  rw [List.getD_eq_getElem?_getD, List.getElem?_append_left (by rw [List.length_take, quoS_length]; omega), List.getElem?_take, if_pos hi]
  have := quoS_at (p := p) (i := i) (by omega)
  unfold at_ at this
  rw [List.getD_eq_getElem?_getD] at this
  exact this
theorem quoTo_set {p : List Nat} {k : Nat} (h : k < p.length) : (quoTo p k).set k (rank p (at_ p k)) = quoTo p (k + 1) := by
  unfold quoTo
  have hl : ((quoS p).take k).length = k := by rw [List.length_take, quoS_length]; omega
  rw [quoS_take h, List.set_append_right _ _ (by omega), hl, Nat.sub_self]
  obtain ⟨m, hm⟩ : ∃ m, p.length - k = m + 1 := ⟨p.length - k - 1, by omega⟩
  rw [hm, show p.length - (k + 1) = m by omega, List.replicate_succ, List.set_cons_zero]
  simp

/-- the elements below m of the class that begins with k -/
def clsOf (p : List Nat) (m k : Nat) : List Nat := (List.range m).filter fun i => at_ p i == k
theorem clsOf_yes {p : List Nat} {m k : Nat} (h : at_ p m = k) : clsOf p (m + 1) k = clsOf p m k ++ [m] := by
  unfold clsOf
  rw [List.range_succ, List.filter_append]
  simp [h]
theorem clsOf_no {p : List Nat} {m k : Nat} (h : at_ p m ≠ k) : clsOf p (m + 1) k = clsOf p m k := by
  unfold clsOf
  rw [List.range_succ, List.filter_append]
  simp [h]
theorem clsOf_len (p : List Nat) (m k : Nat) : (clsOf p m k).length ≤ m := by
  unfold clsOf
  exact Nat.le_trans (List.length_filter_le _ _) (by simp)
/-- all classes, their elements below m -/
def clsTo (p : List Nat) (m : Nat) : List (List Nat) := (fixsTo p p.length).map (clsOf p m)
def classS (p : List Nat) : List (List Nat) := clsTo p p.length
theorem clsTo_length (p : List Nat) (m : Nat) : (clsTo p m).length = rank p p.length := by simp [clsTo, rank]
theorem clsTo_zero (p : List Nat) : clsTo p 0 = List.replicate (rank p p.length) [] := by
  unfold clsTo rank
  induction fixsTo p p.length with
  | nil => rfl
  | cons a r ih => rw [List.map_cons, ih, List.length_cons, List.replicate_succ]; rfl
theorem clsTo_set {p : List Nat} (hv : V p) {m : Nat} (h : m < p.length) :
    clsTo p (m + 1) = (clsTo p m).set (rank p (at_ p m)) ((clsTo p m).getD (rank p (at_ p m)) [] ++ [m]) := by
  have hf := fixs_at (n := p.length) (hv.lt h) (hv.idem h)
  have hr : rank p (at_ p m) < (fixsTo p p.length).length := rank_lt (hv.lt h) (hv.idem h)
  apply List.ext_getElem (by simp [clsTo])
  intro i h1 h2
  have hi : i < (fixsTo p p.length).length := by simpa [clsTo] using h1
  rw [List.getElem_set]
  have ei : ∀ m, (clsTo p m)[i]? = some (clsOf p m (fixsTo p p.length)[i]) := fun m => by simp [clsTo, hi]
  have e1 : (clsTo p (m + 1))[i] = clsOf p (m + 1) (fixsTo p p.length)[i] := by simp [clsTo]
  rw [e1]
  by_cases he : rank p (at_ p m) = i
  · rw [if_pos he]
    subst he
    have hfi : (fixsTo p p.length)[rank p (at_ p m)] = at_ p m := by rw [List.getElem?_eq_getElem hi] at hf; injection hf
    rw [hfi, clsOf_yes rfl, List.getD_eq_getElem?_getD, ei m, hfi]
    rfl
  · rw [if_neg he]
    have hne : at_ p m ≠ (fixsTo p p.length)[i] := by
      intro e
      have := (fixs_mem (p := p) (n := p.length) (i := i) (f := at_ p m) (by rw [List.getElem?_eq_getElem hi, e])).2.2
      exact he this
    rw [clsOf_no hne]
    simp [clsTo]

theorem sum_set {l : List (List Nat)} {c m : Nat} (h : c < l.length) : ((l.set c (l.getD c [] ++ [m])).map List.length).sum = (l.map List.length).sum + 1 := by
  induction l generalizing c with
  | nil => simp at h
  | cons a r ih =>
    cases c with
    | zero => simp; omega
    | succ c =>
      have := ih (c := c) (by simpa using h)
      simp only [List.getD_cons_succ, List.set_cons_succ, List.map_cons, List.sum_cons]
      omega
theorem cls_sum {p : List Nat} (hv : V p) {m : Nat} (h : m ≤ p.length) : ((clsTo p m).map List.length).sum = m := by
  induction m with
  | zero => rw [clsTo_zero]; simp
  | succ m ih =>
    rw [clsTo_set hv (by omega), sum_set (by rw [clsTo_length]; exact rank_lt (hv.lt (by omega)) (hv.idem (by omega))), ih (by omega)]

/-- what a class holds: its elements have its index, and the least one is the first -/
theorem class_facts {p : List Nat} (hv : V p) {i : Nat} {cl : List Nat} (h : (classS p)[i]? = some cl) :
    0 < cl.length ∧ ∀ j, j < cl.length → at_ cl j < p.length ∧ rank p (at_ p (at_ cl j)) = i ∧ at_ p (at_ cl j) = at_ cl 0 := by
  unfold classS clsTo at h
  rw [List.getElem?_map, Option.map_eq_some_iff] at h
  obtain ⟨f, hf, rfl⟩ := h
  obtain ⟨h1, h2, h3⟩ := fixs_mem hf
  have hmem : f ∈ clsOf p p.length f := by
    unfold clsOf
    rw [List.mem_filter, List.mem_range]
    exact ⟨h1, by simp [h2]⟩
  have hpos : 0 < (clsOf p p.length f).length := List.length_pos_of_mem hmem
  have hall : ∀ j, j < (clsOf p p.length f).length → at_ (clsOf p p.length f) j < p.length ∧ at_ p (at_ (clsOf p p.length f) j) = f := by
    intro j hj
    have : at_ (clsOf p p.length f) j ∈ clsOf p p.length f := by rw [← at_get hj]; exact List.getElem_mem hj
    generalize at_ (clsOf p p.length f) j = x at this
    unfold clsOf at this
    rw [List.mem_filter, List.mem_range] at this
    exact ⟨this.1, by simpa using this.2⟩
  have h0 : at_ (clsOf p p.length f) 0 = f := by
    obtain ⟨j, hj, e⟩ := List.getElem_of_mem hmem
    rw [at_get hj] at e
    have hsort : (clsOf p p.length f).Pairwise (· < ·) := List.pairwise_lt_range.filter _
    have hle : at_ (clsOf p p.length f) 0 ≤ f := by
      rcases Nat.eq_zero_or_pos j with e0 | e0
      · subst e0; omega
      · have := List.pairwise_iff_getElem.1 hsort 0 j hpos hj e0
        rw [at_get hpos, at_get hj, e] at this
        omega
    obtain ⟨k1, k2⟩ := hall 0 hpos
    have := hv.le k1
    omega
  refine ⟨hpos, fun j hj => ?_⟩
  obtain ⟨k1, k2⟩ := hall j hj
  exact ⟨k1, by rw [k2, h3], by rw [k2, h0]⟩

end Go.Proofs.Ytdflgcfjfgojkaa
