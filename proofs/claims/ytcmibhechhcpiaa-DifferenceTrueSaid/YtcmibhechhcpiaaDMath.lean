/-
  Difference constraints as plain mathematics: uses, chains of uses, potentials (solutions), shortest chains.
  Difference constraints, plain: the greatest solution, when there is one; what is implied.
  Difference constraints, plain: the standard refutation, first by length, then in the order of the uses.
  Difference, plain: the walk that finds the standard refutation, use by use.
  Difference, plain: whether a list of uses is a refutation.
  Difference, plain: the greatest values, by rounds that lower them.
-/
namespace Go.Proofs.Ytcmibhechhcpiaa

/-- a use: x - y is at most c; it leads from x to y (places: 0 for no variable, then the variables) -/
structure Arc where
  t : Nat
  s : Int
  f : Nat
  g : Nat
  c : Int

/-- r leads from i to j, by uses of l -/
def Chain (l : List Arc) : Nat → List Arc → Nat → Prop
  | i, [], j => i = j
  | i, a :: r, j => a ∈ l ∧ a.f = i ∧ Chain l a.g r j
def wt : List Arc → Int
  | [] => 0
  | a :: r => a.c + wt r
/-- v satisfies all uses -/
def Pot (l : List Arc) (v : Nat → Int) : Prop := ∀ a ∈ l, v a.f ≤ a.c + v a.g
def inN (n : Nat) (l : List Arc) : Prop := ∀ a ∈ l, a.f ≤ n ∧ a.g ≤ n

theorem wt_append (r s : List Arc) : wt (r ++ s) = wt r + wt s := by
  induction r with
  | nil => simp [wt]
  | cons a r ih => simp only [List.cons_append, wt, ih]; omega
theorem chain_append {l : List Arc} {i j k : Nat} {r s : List Arc} (h : Chain l i r j) (h2 : Chain l j s k) : Chain l i (r ++ s) k := by
  induction r generalizing i with
  | nil => cases h; exact h2
  | cons a r ih => exact ⟨h.1, h.2.1, ih h.2.2⟩
theorem chain_mono {l m : List Arc} (hs : ∀ a ∈ l, a ∈ m) {i j : Nat} {r : List Arc} (h : Chain l i r j) : Chain m i r j := by
  induction r generalizing i with
  | nil => exact h
  | cons a r ih => exact ⟨hs a h.1, h.2.1, ih h.2.2⟩
theorem chain_pot {l : List Arc} {v : Nat → Int} (hv : Pot l v) {i j : Nat} {r : List Arc} (h : Chain l i r j) : v i ≤ wt r + v j := by
  induction r generalizing i with
  | nil => cases h; simp [wt]
  | cons a r ih =>
    have h1 := hv a h.1
    have h2 := ih h.2.2
    rw [h.2.1] at h1
    simp only [wt]
    omega
theorem chain_closed {l : List Arc} {v : Nat → Int} (hv : Pot l v) {i : Nat} {r : List Arc} (h : Chain l i r i) : 0 ≤ wt r := by
  have := chain_pot hv h
  omega

/-- the place behind the first k uses -/
def plc (i : Nat) (r : List Arc) : Nat → Nat
  | 0 => i
  | k + 1 => match r with
    | [] => i
    | a :: s => plc a.g s k
theorem chain_split {l : List Arc} {i j : Nat} {r : List Arc} (h : Chain l i r j) (k : Nat) (hk : k ≤ r.length) : Chain l i (r.take k) (plc i r k) ∧ Chain l (plc i r k) (r.drop k) j := by
  induction k generalizing i r with
  | zero => exact ⟨by simp [Chain, plc], by simpa [plc] using h⟩
  | succ k ih => cases r with
    | nil => simp at hk
    | cons a s =>
      obtain ⟨h1, h2⟩ := ih h.2.2 (by simpa using hk)
      exact ⟨⟨h.1, h.2.1, h1⟩, h2⟩
theorem plc_le {l : List Arc} {n i j : Nat} {r : List Arc} (hn : inN n l) (hi : i ≤ n) (h : Chain l i r j) (k : Nat) : plc i r k ≤ n := by
  induction k generalizing i r with
  | zero => exact hi
  | succ k ih => cases r with
    | nil => exact hi
    | cons a s => exact ih (hn a h.1).2 h.2.2
theorem chain_end_le {l : List Arc} {n i j : Nat} {r : List Arc} (hn : inN n l) (hi : i ≤ n) (h : Chain l i r j) : j ≤ n := by
  induction r generalizing i with
  | nil => cases h; exact hi
  | cons a s ih => exact ih (hn a h.1).2 h.2.2

theorem pigeon : ∀ (n : Nat) (f : Nat → Nat), (∀ i, i ≤ n → f i < n) → ∃ p q, p < q ∧ q ≤ n ∧ f p = f q := by
  intro n
  induction n with
  | zero => intro f h; exact absurd (h 0 (Nat.le_refl _)) (Nat.not_lt_zero _)
  | succ n ih =>
    intro f h
    by_cases h1 : ∃ p, p ≤ n ∧ f p = f (n + 1)
    · obtain ⟨p, hp, e⟩ := h1
      exact ⟨p, n + 1, by omega, Nat.le_refl _, e⟩
    · have hne : ∀ p, p ≤ n → f p ≠ f (n + 1) := fun p hp e => h1 ⟨p, hp, e⟩
      have hl := h (n + 1) (Nat.le_refl _)
      obtain ⟨p, q, hpq, hq, e⟩ := ih (fun i => if f i = n then f (n + 1) else f i) (fun i hi => by
        have h2 := h i (by omega)
        have h3 := hne i hi
        by_cases h4 : f i = n
        · simp only [h4, if_true]; omega
        · simp only [h4, if_false]; omega)
      refine ⟨p, q, hpq, by omega, ?_⟩
      have h2 := hne p (by omega)
      have h3 := hne q hq
      by_cases a : f p = n
      · by_cases b : f q = n
        · omega
        · simp only [a, b, if_true, if_false] at e
          omega
      · by_cases b : f q = n
        · simp only [a, b, if_true, if_false] at e
          omega
        · simpa only [a, b, if_false] using e

/-- no short closed chain is negative -/
def NoNeg (n : Nat) (l : List Arc) : Prop := ∀ i r, Chain l i r i → r.length ≤ n + 1 → 0 ≤ wt r

theorem shorten {n : Nat} {l : List Arc} (hn : inN n l) (hz : NoNeg n l) : ∀ (m : Nat) (i j : Nat) (r : List Arc), r.length ≤ m → i ≤ n → Chain l i r j → ∃ s, Chain l i s j ∧ s.length ≤ n ∧ wt s ≤ wt r := by
  intro m
  induction m with
  | zero => intro i j r hr _ h; exact ⟨r, h, by omega, Int.le_refl _⟩
  | succ m ih =>
    intro i j r hr hi h
    by_cases hl : r.length ≤ n
    · exact ⟨r, h, hl, Int.le_refl _⟩
    · obtain ⟨p, q, hpq, hq, e⟩ := pigeon (n + 1) (plc i r) (fun k _ => by have := plc_le hn hi h k; omega)
      obtain ⟨c1, c2⟩ := chain_split h p (by omega)
      have hlp : (r.drop p).length = r.length - p := List.length_drop
      obtain ⟨d1, d2⟩ := chain_split c2 (q - p) (by omega)
      have e2 : plc (plc i r p) (r.drop p) (q - p) = plc i r q := by
        have : ∀ (p k : Nat) (i : Nat) (r : List Arc), p ≤ r.length → plc (plc i r p) (r.drop p) k = plc i r (p + k) := by
          intro p
          induction p with
          | zero => intro k i r _; simp [plc]
          | succ p ihp => intro k i r hp; cases r with
            | nil => simp at hp
            | cons a s => rw [show p + 1 + k = (p + k) + 1 by omega]; exact ihp k a.g s (by simpa using hp)
        rw [this p (q - p) i r (by omega), show p + (q - p) = q by omega]
      rw [e2, ← e] at d1 d2
      have hw : wt r = wt (r.take p) + (wt ((r.drop p).take (q - p)) + wt ((r.drop p).drop (q - p))) := by
        rw [← wt_append, List.take_append_drop, ← wt_append, List.take_append_drop]
      have h0 := hz _ _ d1 (by rw [List.length_take]; omega)
      obtain ⟨s, s1, s2, s3⟩ := ih i j (r.take p ++ (r.drop p).drop (q - p)) (by rw [List.length_append, List.length_take, List.length_drop, hlp]; omega) hi (chain_append c1 d2)
      refine ⟨s, s1, s2, ?_⟩
      rw [wt_append] at s3
      omega

theorem noNeg_all {n : Nat} {l : List Arc} (hn : inN n l) (hz : NoNeg n l) {i : Nat} {r : List Arc} (hi : i ≤ n) (h : Chain l i r i) : 0 ≤ wt r := by
  obtain ⟨s, s1, s2, s3⟩ := shorten hn hz r.length i i r (Nat.le_refl _) hi h
  have := hz i s s1 (by omega)
  omega

/-! sums over chains of a length -/
def far : Int := 1125899906842624
/-- the numbers are small -/
def Small (l : List Arc) : Prop := ∀ a ∈ l, -2000001 ≤ a.c ∧ a.c ≤ 2000001
theorem wt_small {l : List Arc} (hs : Small l) {i j : Nat} {r : List Arc} (h : Chain l i r j) : -(2000001 * r.length) ≤ wt r ∧ wt r ≤ 2000001 * r.length := by
  induction r generalizing i with
  | nil => simp [wt]
  | cons a r ih =>
    have h1 := hs a h.1
    have h2 := ih h.2.2
    simp only [wt, List.length_cons]
    omega

def stepOne (s : Nat → Nat → Int) (i j : Nat) (m : Int) (a : Arc) : Int := if a.f = i ∧ s a.g j < far then min m (a.c + s a.g j) else m
/-- one use more -/
def fwd (l : List Arc) (s : Nat → Nat → Int) (i j : Nat) : Int := l.foldl (stepOne s i j) far
def sumK (l : List Arc) : Nat → Nat → Nat → Int
  | 0, i, j => if i = j then 0 else far
  | k + 1, i, j => fwd l (sumK l k) i j
def bestK (l : List Arc) : Nat → Nat → Nat → Int
  | 0, i, j => sumK l 0 i j
  | k + 1, i, j => min (bestK l k i j) (sumK l (k + 1) i j)

theorem fold_le (s : Nat → Nat → Int) (i j : Nat) (l : List Arc) : ∀ m, l.foldl (stepOne s i j) m ≤ m := by
  induction l with
  | nil => intro m; exact Int.le_refl _
  | cons a r ih =>
    intro m
    have h1 := ih (stepOne s i j m a)
    have h2 : stepOne s i j m a ≤ m := by unfold stepOne; split <;> omega
    exact Int.le_trans h1 h2
theorem fold_mem (s : Nat → Nat → Int) (i j : Nat) (l : List Arc) {a : Arc} (ha : a ∈ l) (hf : a.f = i) (hs : s a.g j < far) : ∀ m, l.foldl (stepOne s i j) m ≤ a.c + s a.g j := by
  induction l with
  | nil => simp at ha
  | cons b r ih =>
    intro m
    rcases List.mem_cons.1 ha with e | h
    · subst e
      have h1 := fold_le s i j r (stepOne s i j m a)
      have h2 : stepOne s i j m a ≤ a.c + s a.g j := by unfold stepOne; rw [if_pos ⟨hf, hs⟩]; omega
      exact Int.le_trans h1 h2
    · exact ih h _
theorem fold_or (s : Nat → Nat → Int) (i j : Nat) (l : List Arc) : ∀ m, l.foldl (stepOne s i j) m = m ∨ ∃ a ∈ l, a.f = i ∧ s a.g j < far ∧ l.foldl (stepOne s i j) m = a.c + s a.g j := by
  induction l with
  | nil => intro m; exact .inl rfl
  | cons b r ih =>
    intro m
    rcases ih (stepOne s i j m b) with h | ⟨a, h1, h2, h3, h4⟩
    · have e : (b :: r).foldl (stepOne s i j) m = stepOne s i j m b := h
      rw [e]
      unfold stepOne
      by_cases hb : b.f = i ∧ s b.g j < far
      · rw [if_pos hb]
        rcases Int.le_total m (b.c + s b.g j) with h5 | h5
        · exact .inl (by omega)
        · exact .inr ⟨b, by simp, hb.1, hb.2, by omega⟩
      · rw [if_neg hb]; exact .inl rfl
    · exact .inr ⟨a, by simp [h1], h2, h3, h4⟩

/-- what sumK says -/
theorem sumK_spec {l : List Arc} (hs : Small l) : ∀ (k : Nat), k ≤ 100 → ∀ i j, (sumK l k i j = far ∨ ∃ r, Chain l i r j ∧ r.length = k ∧ wt r = sumK l k i j) ∧ (∀ r, Chain l i r j → r.length = k → sumK l k i j ≤ wt r) ∧ sumK l k i j ≤ far := by
  intro k
  induction k with
  | zero =>
    intro _ i j
    simp only [sumK]
    by_cases e : i = j
    · rw [if_pos e]
      refine ⟨.inr ⟨[], e, rfl, rfl⟩, fun r h hl => ?_, by decide⟩
      have : r = [] := List.eq_nil_of_length_eq_zero hl
      subst this
      simp [wt]
    · rw [if_neg e]
      refine ⟨.inl rfl, fun r h hl => ?_, Int.le_refl _⟩
      have : r = [] := List.eq_nil_of_length_eq_zero hl
      subst this
      exact absurd h e
  | succ k ih =>
    intro hk i j
    have ihk := ih (by omega)
    simp only [sumK]
    refine ⟨?_, fun r h hl => ?_, fold_le _ _ _ _ _⟩
    · rcases fold_or (sumK l k) i j l far with h | ⟨a, h1, h2, h3, h4⟩
      · exact .inl h
      · rcases (ihk a.g j).1 with h5 | ⟨r, r1, r2, r3⟩
        · omega
        · exact .inr ⟨a :: r, ⟨h1, h2, r1⟩, by simp [r2], by simp only [wt, r3]; exact h4.symm⟩
    · cases r with
      | nil => simp at hl
      | cons a r =>
        obtain ⟨c1, c2, c3⟩ := h
        have h1 := (ihk a.g j).2.1 r c3 (by simpa using hl)
        have h2 := wt_small hs c3
        have hl' : r.length ≤ 100 := by simp at hl; omega
        have h3 : wt r < far := by unfold far; omega
        have := fold_mem (sumK l k) i j l c1 c2 (by omega) far
        simp only [wt]
        exact Int.le_trans this (by omega)

theorem bestK_spec {l : List Arc} (hs : Small l) : ∀ (k : Nat), k ≤ 100 → ∀ i j, (bestK l k i j = far ∨ ∃ r, Chain l i r j ∧ r.length ≤ k ∧ wt r = bestK l k i j) ∧ (∀ r, Chain l i r j → r.length ≤ k → bestK l k i j ≤ wt r) ∧ bestK l k i j ≤ far := by
  intro k
  induction k with
  | zero =>
    intro _ i j
    obtain ⟨h1, h2, h3⟩ := sumK_spec hs 0 (by omega) i j
    simp only [bestK]
    refine ⟨?_, fun r h hl => h2 r h (by omega), h3⟩
    rcases h1 with h | ⟨r, r1, r2, r3⟩
    · exact .inl h
    · exact .inr ⟨r, r1, by omega, r3⟩
  | succ k ih =>
    intro hk i j
    obtain ⟨p1, p2, p3⟩ := ih (by omega) i j
    obtain ⟨h1, h2, h3⟩ := sumK_spec hs (k + 1) hk i j
    simp only [bestK]
    refine ⟨?_, fun r h hl => ?_, by omega⟩
    · rcases Int.le_total (bestK l k i j) (sumK l (k + 1) i j) with h | h
      · rw [Int.min_eq_left h]
        rcases p1 with q | ⟨r, r1, r2, r3⟩
        · exact .inl q
        · exact .inr ⟨r, r1, by omega, r3⟩
      · rw [Int.min_eq_right h]
        rcases h1 with q | ⟨r, r1, r2, r3⟩
        · exact .inl q
        · exact .inr ⟨r, r1, by omega, r3⟩
    · rcases Nat.lt_or_ge k r.length with h4 | h4
      · have := h2 r h (by omega); omega
      · have := p2 r h h4; omega

end Go.Proofs.Ytcmibhechhcpiaa

namespace Go.Proofs.Ytcmibhechhcpiaa

/-- the least of 0 and the first values of a function -/
def minUp (f : Nat → Int) : Nat → Int
  | 0 => min 0 (f 0)
  | k + 1 => min (minUp f k) (f (k + 1))
theorem minUp_le (f : Nat → Int) (n : Nat) : minUp f n ≤ 0 ∧ ∀ k, k ≤ n → minUp f n ≤ f k := by
  induction n with
  | zero => exact ⟨by simp only [minUp]; omega, fun k hk => by rw [show k = 0 by omega]; simp only [minUp]; omega⟩
  | succ n ih =>
    simp only [minUp]
    refine ⟨by omega, fun k hk => ?_⟩
    by_cases e : k = n + 1
    · subst e; omega
    · have := ih.2 k (by omega); omega
theorem minUp_or (f : Nat → Int) (n : Nat) : minUp f n = 0 ∨ ∃ k, k ≤ n ∧ minUp f n = f k := by
  induction n with
  | zero =>
    simp only [minUp]
    rcases Int.le_total 0 (f 0) with h | h
    · exact .inl (by omega)
    · exact .inr ⟨0, Nat.le_refl _, by omega⟩
  | succ n ih =>
    simp only [minUp]
    rcases Int.le_total (minUp f n) (f (n + 1)) with h | h
    · rcases ih with e | ⟨k, hk, e⟩
      · exact .inl (by omega)
      · exact .inr ⟨k, by omega, by omega⟩
    · exact .inr ⟨n + 1, Nat.le_refl _, by omega⟩

/-- the least sums from place to place -/
def dst (n : Nat) (l : List Arc) (i j : Nat) : Int := bestK l (n + 2) i j
/-- no place lies on a negative closed chain -/
def OkB (n : Nat) (l : List Arc) : Prop := ∀ i, i ≤ n → 0 ≤ dst n l i i
def std (n : Nat) (l : List Arc) (i : Nat) : Int := minUp (dst n l i) n


theorem ok_of_pot {n : Nat} {l : List Arc} (h12 : n ≤ 12) (hs : Small l) {v : Nat → Int} (hv : Pot l v) : OkB n l := by
  intro i _
  rcases (bestK_spec hs (n + 2) (by omega) i i).1 with h | ⟨r, h1, _, h3⟩
  · unfold dst; rw [h]; decide
  · have := chain_closed hv h1
    unfold dst
    omega

theorem noNeg_of_ok' {n : Nat} {l : List Arc} (hn : inN n l) (h12 : n ≤ 12) (hs : Small l) (h : OkB n l) : NoNeg n l := by
  intro i r hc hl
  cases r with
  | nil => simp [wt]
  | cons a s =>
    have hi : i ≤ n := by rw [← hc.2.1]; exact (hn a hc.1).1
    have h1 := h i hi
    have h2 := (bestK_spec hs (n + 2) (by omega) i i).2.1 _ hc (by omega)
    unfold dst at h1
    omega

/-- every chain has a sum that is not below the least one -/
theorem dst_le {n : Nat} {l : List Arc} (hn : inN n l) (h12 : n ≤ 12) (hs : Small l) (h : OkB n l) {i j : Nat} {r : List Arc} (hi : i ≤ n) (hc : Chain l i r j) : dst n l i j ≤ wt r := by
  obtain ⟨s, s1, s2, s3⟩ := shorten hn (noNeg_of_ok' hn h12 hs h) r.length i j r (Nat.le_refl _) hi hc
  have := (bestK_spec hs (n + 2) (by omega) i j).2.1 s s1 (by omega)
  unfold dst
  omega
theorem dst_chain {n : Nat} {l : List Arc} (h12 : n ≤ 12) (hs : Small l) {i j : Nat} (h : dst n l i j < far) : ∃ r, Chain l i r j ∧ wt r = dst n l i j := by
  rcases (bestK_spec hs (n + 2) (by omega) i j).1 with e | ⟨r, h1, _, h3⟩
  · unfold dst at h; omega
  · exact ⟨r, h1, h3⟩
theorem dst_low {n : Nat} {l : List Arc} (h12 : n ≤ 12) (hs : Small l) (i j : Nat) : -30000000 ≤ dst n l i j := by
  rcases (bestK_spec hs (n + 2) (by omega) i j).1 with e | ⟨r, h1, h2, h3⟩
  · unfold dst; rw [e]; decide
  · have := wt_small hs h1
    unfold dst
    omega
theorem dst_self {n : Nat} {l : List Arc} (h12 : n ≤ 12) (hs : Small l) (i : Nat) : dst n l i i ≤ 0 := by
  have := (bestK_spec hs (n + 2) (by omega) i i).2.1 [] rfl (by simp)
  unfold dst
  simpa [wt] using this
theorem std_low {n : Nat} {l : List Arc} (h12 : n ≤ 12) (hs : Small l) (i : Nat) : -30000000 ≤ std n l i := by
  rcases minUp_or (dst n l i) n with e | ⟨k, _, e⟩
  · unfold std; omega
  · have := dst_low h12 hs i k
    unfold std
    omega
theorem std_le {n : Nat} {l : List Arc} (i : Nat) : std n l i ≤ 0 := (minUp_le _ _).1
theorem std_chain {n : Nat} {l : List Arc} (h12 : n ≤ 12) (hs : Small l) {i : Nat} (hi : i ≤ n) : ∃ k r, k ≤ n ∧ Chain l i r k ∧ wt r = std n l i := by
  rcases minUp_or (dst n l i) n with e | ⟨k, hk, e⟩
  · exact ⟨i, [], hi, rfl, by unfold std; rw [e]; rfl⟩
  · have h := std_le (n := n) (l := l) i
    unfold std at h ⊢
    obtain ⟨r, r1, r2⟩ := dst_chain h12 hs (i := i) (j := k) (by rw [← e]; unfold far; omega)
    exact ⟨k, r, hk, r1, by omega⟩

theorem std_pot {n : Nat} {l : List Arc} (hn : inN n l) (h12 : n ≤ 12) (hs : Small l) (h : OkB n l) : Pot l (std n l) := by
  intro a ha
  obtain ⟨k, r, hk, r1, r2⟩ := std_chain h12 hs (hn a ha).2
  have h1 := dst_le hn h12 hs h (hn a ha).1 (r := a :: r) (j := k) ⟨ha, rfl, r1⟩
  have h2 := (minUp_le (dst n l a.f) n).2 k hk
  simp only [wt] at h1
  unfold std at r2 ⊢
  omega
/-- it is the greatest one that is at most 0 everywhere -/
theorem std_greatest {n : Nat} {l : List Arc} (h12 : n ≤ 12) (hs : Small l) {u : Nat → Int} (hu : Pot l u) (h0 : ∀ i, i ≤ n → u i ≤ 0) {i : Nat} (hi : i ≤ n) : u i ≤ std n l i := by
  obtain ⟨k, r, hk, r1, r2⟩ := std_chain h12 hs hi
  have h1 := chain_pot hu r1
  have h2 := h0 k hk
  omega
theorem solvable_iff {n : Nat} {l : List Arc} (hn : inN n l) (h12 : n ≤ 12) (hs : Small l) : (∃ v, Pot l v) ↔ OkB n l := ⟨fun ⟨_, hv⟩ => ok_of_pot h12 hs hv, fun h => ⟨_, std_pot hn h12 hs h⟩⟩

/-- what is implied: by the least sums -/
theorem implied_iff {n : Nat} {l : List Arc} (hn : inN n l) (h12 : n ≤ 12) (hs : Small l) (h : OkB n l) {f t : Nat} {c : Int} (hc : c ≤ 2000001) : (∀ v, Pot l v → v f - v t ≤ c) ↔ dst n l f t ≤ c := by
  constructor
  · intro hall
    rcases Int.lt_or_le c (dst n l f t) with hlt | hge
    · exfalso
      have hp : Pot l (fun i => min (dst n l i t) (1000000000 + std n l i)) := by
        intro a ha
        have h1 := std_pot hn h12 hs h a ha
        show min (dst n l a.f t) (1000000000 + std n l a.f) ≤ a.c + min (dst n l a.g t) (1000000000 + std n l a.g)
        rcases Int.le_total (dst n l a.g t) (1000000000 + std n l a.g) with h2 | h2
        · rw [Int.min_eq_left h2]
          have h3 := std_le (n := n) (l := l) a.g
          obtain ⟨r, r1, r2⟩ := dst_chain h12 hs (i := a.g) (j := t) (by unfold far; omega)
          have h4 := dst_le hn h12 hs h (hn a ha).1 (r := a :: r) (j := t) ⟨ha, rfl, r1⟩
          simp only [wt] at h4
          omega
        · rw [Int.min_eq_right h2]
          omega
      have h1 : min (dst n l f t) (1000000000 + std n l f) - min (dst n l t t) (1000000000 + std n l t) ≤ c := hall _ hp
      have h2 := dst_self h12 hs t
      have h3 := std_low h12 hs f
      omega
    · exact hge
  · intro hd v hv
    obtain ⟨r, r1, r2⟩ := dst_chain h12 hs (i := f) (j := t) (by unfold far; omega)
    have := chain_pot hv r1
    omega
end Go.Proofs.Ytcmibhechhcpiaa

namespace Go.Proofs.Ytcmibhechhcpiaa

/-- the place of a use in the order: by its test, the sign 1 first -/
def key (a : Arc) : Int := 2 * a.t + (if a.s = 1 then 0 else 1)
def lexLe : List Arc → List Arc → Prop
  | [], _ => True
  | _ :: _, [] => False
  | a :: r, b :: s => key a < key b ∨ (key a = key b ∧ lexLe r s)
/-- the uses stand in their order -/
def Sorted (l : List Arc) : Prop := l.Pairwise fun a b => key a < key b
theorem sorted_inj {l : List Arc} (h : Sorted l) {a b : Arc} (ha : a ∈ l) (hb : b ∈ l) (e : key a = key b) : a = b := by
  induction l with
  | nil => simp at ha
  | cons x r ih =>
    have h1 := List.pairwise_cons.1 h
    rcases List.mem_cons.1 ha with ea | ha
    · rcases List.mem_cons.1 hb with eb | hb
      · rw [ea, eb]
      · have := h1.1 b hb; rw [ea] at e; omega
    · rcases List.mem_cons.1 hb with eb | hb
      · have := h1.1 a ha; rw [eb] at e; omega
      · exact ih h1.2 ha hb
theorem chain_mem {l : List Arc} {i j : Nat} {r : List Arc} (h : Chain l i r j) : ∀ a ∈ r, a ∈ l := by
  induction r generalizing i with
  | nil => intro a ha; simp at ha
  | cons b s ih =>
    intro a ha
    rcases List.mem_cons.1 ha with e | ha
    · rw [e]; exact h.1
    · exact ih h.2.2 a ha
theorem lexLe_antisymm {l : List Arc} (h : Sorted l) : ∀ {r s : List Arc}, (∀ a ∈ r, a ∈ l) → (∀ a ∈ s, a ∈ l) → lexLe r s → lexLe s r → r = s := by
  intro r
  induction r with
  | nil => intro s _ _ _ h2; cases s with
    | nil => rfl
    | cons b s => exact absurd h2 (by simp [lexLe])
  | cons a r ih => intro s hr hs h1 h2; cases s with
    | nil => exact absurd h1 (by simp [lexLe])
    | cons b s =>
      simp only [lexLe] at h1 h2
      have e : key a = key b := by
        rcases h1 with h1 | h1 <;> rcases h2 with h2 | h2 <;> omega
      have e2 := sorted_inj h (hr a (by simp)) (hs b (by simp)) e
      have h3 : lexLe r s := by rcases h1 with h1 | h1; · omega
                                exact h1.2
      have h4 : lexLe s r := by rcases h2 with h2 | h2; · omega
                                exact h2.2
      rw [e2, ih (fun x hx => hr x (by simp [hx])) (fun x hx => hs x (by simp [hx])) h3 h4]

/-- a negative closed chain -/
def IsNeg (l : List Arc) (r : List Arc) : Prop := r ≠ [] ∧ ∃ i, Chain l i r i ∧ wt r < 0
/-- the first one -/
def IsStd (l : List Arc) (r : List Arc) : Prop := IsNeg l r ∧ ∀ s, IsNeg l s → r.length < s.length ∨ (r.length = s.length ∧ lexLe r s)
theorem std_unique {l : List Arc} (h : Sorted l) {r s : List Arc} (hr : IsStd l r) (hs : IsStd l s) : r = s := by
  obtain ⟨i, hi, _⟩ := hr.1.2
  obtain ⟨j, hj, _⟩ := hs.1.2
  have h1 := hr.2 s hs.1
  have h2 := hs.2 r hr.1
  have e : r.length = s.length := by omega
  refine lexLe_antisymm h (chain_mem hi) (chain_mem hj) ?_ ?_
  · rcases h1 with h1 | h1
    · omega
    · exact h1.2
  · rcases h2 with h2 | h2
    · omega
    · exact h2.2

/-- there is a negative chain, of n + 1 uses at most, where there is no solution -/
theorem neg_of_not_ok {n : Nat} {l : List Arc} (hn : inN n l) (h12 : n ≤ 12) (hs : Small l) (h : ¬ OkB n l) : ∃ i r, i ≤ n ∧ Chain l i r i ∧ r ≠ [] ∧ r.length ≤ n + 1 ∧ wt r < 0 := by
  by_cases hz : NoNeg n l
  · exfalso
    apply h
    intro i hi
    rcases (bestK_spec hs (n + 2) (by omega) i i).1 with e | ⟨r, h1, _, h3⟩
    · unfold dst; rw [e]; decide
    · have := noNeg_all hn hz hi h1
      unfold dst
      omega
  · unfold NoNeg at hz
    simp only [Classical.not_forall] at hz
    obtain ⟨i, r, h1, h2, h3⟩ := hz
    have h4 : wt r < 0 := by omega
    cases r with
    | nil => simp [wt] at h4
    | cons a s => exact ⟨i, _, by rw [← h1.2.1]; exact (hn a h1.1).1, h1, by simp, h2, h4⟩
theorem not_ok_of_neg {n : Nat} {l : List Arc} (hn : inN n l) (h12 : n ≤ 12) (hs : Small l) {r : List Arc} (h : IsNeg l r) : ¬ OkB n l := by
  obtain ⟨_, i, h1, h2⟩ := h
  intro hok
  have := chain_closed (std_pot hn h12 hs hok) h1
  omega

/-- what completes a chain: k uses more, from i to j, in all below 0 -/
def Compl (l : List Arc) (k i j : Nat) (q : Int) (r : List Arc) : Prop := Chain l i r j ∧ r.length = k ∧ q + wt r < 0
theorem compl_iff {l : List Arc} (hs : Small l) {k i j : Nat} {q : Int} (hk : k ≤ 100) : (∃ r, Compl l k i j q r) ↔ (sumK l k i j < far ∧ q + sumK l k i j < 0) := by
  obtain ⟨h1, h2, h3⟩ := sumK_spec hs k hk i j
  constructor
  · rintro ⟨r, c1, c2, c3⟩
    have h4 := h2 r c1 c2
    have h5 := wt_small hs c1
    have h6 : wt r < far := by unfold far; omega
    exact ⟨by omega, by omega⟩
  · rintro ⟨h4, h5⟩
    rcases h1 with e | ⟨r, r1, r2, r3⟩
    · omega
    · exact ⟨r, r1, r2, by omega⟩

def pick (l : List Arc) (k i j : Nat) (q : Int) (a : Arc) : Bool := decide (a.f = i) && (decide (sumK l k a.g j < far) && decide (q + a.c + sumK l k a.g j < 0))
def greedy (l : List Arc) : Nat → Nat → Nat → Int → List Arc
  | 0, _, _, _ => []
  | k + 1, i, j, q => match l.find? (pick l k i j q) with
    | none => []
    | some a => a :: greedy l k a.g j (q + a.c)

theorem find_first {l : List Arc} (h : Sorted l) {p : Arc → Bool} {a b : Arc} (hf : l.find? p = some a) (hb : b ∈ l) (hp : p b = true) : key a ≤ key b := by
  induction l with
  | nil => simp at hb
  | cons x r ih =>
    have h1 := List.pairwise_cons.1 h
    by_cases hx : p x = true
    · rw [List.find?_cons_of_pos hx] at hf
      injection hf with hf
      subst hf
      rcases List.mem_cons.1 hb with e | hb
      · rw [e]; exact Int.le_refl _
      · have := h1.1 b hb; omega
    · rw [List.find?_cons_of_neg hx] at hf
      rcases List.mem_cons.1 hb with e | hb
      · rw [e] at hp; exact absurd hp hx
      · exact ih h1.2 hf hb

theorem greedy_spec {l : List Arc} (hs : Small l) (ho : Sorted l) : ∀ (k i j : Nat) (q : Int), k ≤ 100 → (∃ r, Compl l k i j q r) → Compl l k i j q (greedy l k i j q) ∧ ∀ r, Compl l k i j q r → lexLe (greedy l k i j q) r := by
  intro k
  induction k with
  | zero =>
    rintro i j q _ ⟨r, c1, c2, c3⟩
    have e : r = [] := List.eq_nil_of_length_eq_zero c2
    subst e
    exact ⟨⟨c1, rfl, c3⟩, fun r _ => by simp [greedy, lexLe]⟩
  | succ k ih =>
    rintro i j q hk ⟨r, hr⟩
    have hpick : ∀ b s, Compl l (k + 1) i j q (b :: s) → b ∈ l ∧ pick l k i j q b = true := by
      rintro b s ⟨c1, c2, c3⟩
      have := (compl_iff hs (k := k) (i := b.g) (j := j) (q := q + b.c) (by omega)).1 ⟨s, c1.2.2, by simpa using c2, by simp only [wt] at c3; omega⟩
      refine ⟨c1.1, ?_⟩
      unfold pick
      simp only [Bool.and_eq_true, decide_eq_true_eq]
      exact ⟨c1.2.1, this.1, this.2⟩
    cases hfi : l.find? (pick l k i j q) with
    | none =>
      exfalso
      cases r with
      | nil => have := hr.2.1; simp at this
      | cons b s =>
        obtain ⟨h1, h2⟩ := hpick b s hr
        rw [List.find?_eq_none] at hfi
        exact hfi b h1 h2
    | some a =>
      have ha : a ∈ l := List.mem_of_find?_eq_some hfi
      have hp := List.find?_some hfi
      unfold pick at hp
      simp only [Bool.and_eq_true, decide_eq_true_eq] at hp
      obtain ⟨p1, p2, p3⟩ := hp
      obtain ⟨g1, g2⟩ := ih a.g j (q + a.c) (by omega) ((compl_iff hs (by omega)).2 ⟨p2, p3⟩)
      have e : greedy l (k + 1) i j q = a :: greedy l k a.g j (q + a.c) := by simp only [greedy, hfi]
      rw [e]
      obtain ⟨c1, c2, c3⟩ := g1
      refine ⟨⟨⟨ha, p1, c1⟩, by simp [c2], by simp only [wt]; omega⟩, fun r hr => ?_⟩
      cases r with
      | nil => have := hr.2.1; simp at this
      | cons b s =>
        obtain ⟨h1, h2⟩ := hpick b s hr
        have hle := find_first ho hfi h1 h2
        rcases Int.lt_or_le (key a) (key b) with h3 | h3
        · exact .inl h3
        · have e2 := sorted_inj ho ha h1 (by omega)
          subst e2
          exact .inr ⟨rfl, g2 s ⟨hr.1.2.2, by have := hr.2.1; simpa using this, by have := hr.2.2; simp only [wt] at this; omega⟩⟩

/-- the whole: the first use of a closed chain of k + 1 uses, then the rest -/
def top (l : List Arc) (k : Nat) : List Arc :=
  match l.find? (fun a => pick l k a.f a.f 0 a) with
  | none => []
  | some a => a :: greedy l k a.g a.f a.c
theorem top_spec {l : List Arc} (hs : Small l) (ho : Sorted l) {k : Nat} (hk : k ≤ 99) (h1 : ∃ r, IsNeg l r ∧ r.length = k + 1) (h2 : ∀ r, IsNeg l r → k + 1 ≤ r.length) : IsStd l (top l k) ∧ (top l k).length = k + 1 := by
  have hpick : ∀ b s, IsNeg l (b :: s) → (b :: s).length = k + 1 → b ∈ l ∧ pick l k b.f b.f 0 b = true ∧ Compl l k b.g b.f b.c s := by
    rintro b s ⟨_, i, c1, c2⟩ hl
    have hi := c1.2.1
    subst hi
    have hc : Compl l k b.g b.f b.c s := ⟨c1.2.2, by simpa using hl, by simp only [wt] at c2; omega⟩
    have := (compl_iff hs (k := k) (i := b.g) (j := b.f) (q := b.c) (by omega)).1 ⟨s, hc⟩
    refine ⟨c1.1, ?_, hc⟩
    unfold pick
    simp only [Bool.and_eq_true, decide_eq_true_eq]
    exact ⟨trivial, this.1, by omega⟩
  unfold top
  cases hfi : l.find? (fun a => pick l k a.f a.f 0 a) with
  | none =>
    exfalso
    obtain ⟨r, hr, hl⟩ := h1
    cases r with
    | nil => simp at hl
    | cons b s =>
      obtain ⟨k1, k2, _⟩ := hpick b s hr hl
      rw [List.find?_eq_none] at hfi
      exact hfi b k1 k2
  | some a =>
    have ha : a ∈ l := List.mem_of_find?_eq_some hfi
    have hp := List.find?_some hfi
    unfold pick at hp
    simp only [Bool.and_eq_true, decide_eq_true_eq] at hp
    obtain ⟨_, p2, p3⟩ := hp
    obtain ⟨g1, g2⟩ := greedy_spec hs ho k a.g a.f a.c (by omega) ((compl_iff hs (by omega)).2 ⟨p2, by omega⟩)
    obtain ⟨c1, c2, c3⟩ := g1
    have hl : (a :: greedy l k a.g a.f a.c).length = k + 1 := by simp [c2]
    show IsStd l (a :: greedy l k a.g a.f a.c) ∧ (a :: greedy l k a.g a.f a.c).length = k + 1
    refine ⟨⟨⟨by simp, a.f, ⟨ha, rfl, c1⟩, by simp only [wt]; omega⟩, fun s hsn => ?_⟩, hl⟩
    have h3 := h2 s hsn
    rcases Nat.lt_or_ge (k + 1) s.length with h4 | h4
    · exact .inl (by omega)
    · refine .inr ⟨by omega, ?_⟩
      cases s with
      | nil => simp at h3
      | cons b s =>
        obtain ⟨k1, k2, k3⟩ := hpick b s hsn (by omega)
        have hle := find_first ho hfi k1 k2
        rcases Int.lt_or_le (key a) (key b) with h5 | h5
        · exact .inl h5
        · have e2 := sorted_inj ho ha k1 (by omega)
          subst e2
          exact .inr ⟨rfl, g2 s k3⟩

end Go.Proofs.Ytcmibhechhcpiaa

namespace Go.Proofs.Ytcmibhechhcpiaa

def fstN (a : Arc) (sv : Int) : Nat := if sv < 0 then a.f else sv.toNat
def selB (l : List Arc) (k : Nat) (sv av q : Int) (a : Arc) : Bool :=
  (decide (sv < 0) || decide ((a.f : Int) = av)) && (decide (sumK l k a.g (fstN a sv) < far) && decide (q + a.c + sumK l k a.g (fstN a sv) < 0))
def walkU (l : List Arc) : Nat → Int → Int → Int → List Arc
  | 0, _, _, _ => []
  | k + 1, sv, av, q => match l.find? (selB l k sv av q) with
    | none => walkU l k sv av q
    | some a => a :: walkU l k (fstN a sv) a.g (q + a.c)
theorem walkU_none {l : List Arc} {k : Nat} {sv av q : Int} (h : ∀ a ∈ l, selB l k sv av q a = false) : walkU l (k + 1) sv av q = walkU l k sv av q := by
  have : l.find? (selB l k sv av q) = none := List.find?_eq_none.2 (fun a ha => by rw [h a ha]; simp)
  rw [walkU, this]
theorem find_at {l : List Arc} {p : Arc → Bool} {i : Nat} (hi : i < l.length) (h : ∀ a ∈ l.take i, p a = false) (hp : p l[i] = true) : l.find? p = some l[i] := by
  induction l generalizing i with
  | nil => simp at hi
  | cons x r ih =>
    cases i with
    | zero => exact List.find?_cons_of_pos hp
    | succ i =>
      rw [List.find?_cons_of_neg (by rw [h x (by simp)]; simp)]
      exact ih (i := i) (by simpa using hi) (fun a ha => h a (by simp [ha])) hp
theorem walkU_some {l : List Arc} {k i : Nat} {sv av q : Int} (hi : i < l.length) (h : ∀ a ∈ l.take i, selB l k sv av q a = false) (hp : selB l k sv av q l[i] = true) :
    walkU l (k + 1) sv av q = l[i] :: walkU l k (fstN l[i] sv) l[i].g (q + l[i].c) := by
  rw [walkU, find_at hi h hp]

theorem sel_pick (l : List Arc) (k s p : Nat) (q : Int) : selB l k (s : Int) (p : Int) q = pick l k p s q := by
  funext a
  unfold selB pick fstN
  have h : ¬ ((s : Int) < 0) := by omega
  rw [if_neg h, decide_eq_false h, Bool.false_or, Int.toNat_natCast, show decide ((a.f : Int) = (p : Int)) = decide (a.f = p) from by simp only [Int.ofNat_inj]]
theorem walk_greedy {l : List Arc} (hs : Small l) (ho : Sorted l) : ∀ (k p s : Nat) (q : Int), k ≤ 100 → (∃ r, Compl l k p s q r) → walkU l k s p q = greedy l k p s q := by
  intro k
  induction k with
  | zero => intro p s q _ _; rfl
  | succ k ih =>
    intro p s q hk hex
    have h1 := (greedy_spec hs ho (k + 1) p s q hk hex).1
    rw [walkU, sel_pick]
    rw [greedy] at h1 ⊢
    cases hf : l.find? (pick l k p s q) with
    | none =>
      rw [hf] at h1
      have := h1.2.1
      simp at this
    | some a =>
      rw [hf] at h1
      obtain ⟨c1, c2, c3⟩ := h1
      show a :: walkU l k (fstN a s) a.g (q + a.c) = a :: greedy l k a.g s (q + a.c)
      have e : fstN a (s : Int) = s := by unfold fstN; rw [if_neg (by omega)]; omega
      rw [e, ih a.g s (q + a.c) (by omega) ⟨_, c1.2.2, by simpa using c2, by simp only [wt] at c3; omega⟩]
theorem sel_top (l : List Arc) (k : Nat) : selB l k (-1) (-1) 0 = fun a => pick l k a.f a.f 0 a := by
  funext a
  unfold selB pick fstN
  have h : (-1 : Int) < 0 := by omega
  rw [if_pos h, decide_eq_true h, Bool.true_or]
  simp
theorem walk_top {l : List Arc} (hs : Small l) (ho : Sorted l) {k : Nat} (hk : k ≤ 99) (h1 : ∃ r, IsNeg l r ∧ r.length = k + 1) (h2 : ∀ r, IsNeg l r → k + 1 ≤ r.length) : walkU l (k + 1) (-1) (-1) 0 = top l k := by
  obtain ⟨⟨hneg, _⟩, hl⟩ := top_spec hs ho hk h1 h2
  rw [walkU, sel_top]
  unfold top at hl hneg ⊢
  cases hf : l.find? (fun a => pick l k a.f a.f 0 a) with
  | none => rw [hf] at hl; simp at hl
  | some a =>
    rw [hf] at hl hneg
    obtain ⟨_, i, c1, c2⟩ := hneg
    have e : fstN a (-1) = a.f := by unfold fstN; rw [if_pos (by omega)]
    have e0 : (0 : Int) + a.c = a.c := by omega
    show a :: walkU l k (fstN a (-1)) a.g (0 + a.c) = a :: greedy l k a.g a.f a.c
    rw [e, e0]
    have ei : a.f = i := c1.2.1
    subst ei
    rw [walk_greedy hs ho k a.g a.f a.c (by omega) ⟨_, c1.2.2, by simpa using hl, by simp only [wt] at c2; exact c2⟩]

/-- k uses lead back, with a negative sum -/
def hasNeg (n : Nat) (l : List Arc) (k : Nat) : Prop := ∃ i, i ≤ n ∧ sumK l k i i < 0
theorem hasNeg_zero (n : Nat) (l : List Arc) : ¬ hasNeg n l 0 := by
  rintro ⟨i, _, h⟩
  simp [sumK] at h
theorem hasNeg_of {n : Nat} {l : List Arc} (hn : inN n l) (hs : Small l) {r : List Arc} (h : IsNeg l r) (hk : r.length ≤ 100) : hasNeg n l r.length := by
  obtain ⟨h0, i, c1, c2⟩ := h
  cases r with
  | nil => exact absurd rfl h0
  | cons a s =>
    have hi : i ≤ n := by rw [← c1.2.1]; exact (hn a c1.1).1
    have := (sumK_spec hs _ hk i i).2.1 _ c1 rfl
    exact ⟨i, hi, by omega⟩
theorem of_hasNeg {n : Nat} {l : List Arc} (hs : Small l) {k : Nat} (hk : k ≤ 100) (h : hasNeg n l k) : ∃ r, IsNeg l r ∧ r.length = k := by
  obtain ⟨i, hi, h1⟩ := h
  rcases (sumK_spec hs k hk i i).1 with e | ⟨r, r1, r2, r3⟩
  · rw [e] at h1; exact absurd h1 (by decide)
  · refine ⟨r, ⟨fun e => ?_, i, r1, by omega⟩, r2⟩
    subst e
    simp [wt] at r3
    omega
theorem hasNeg_ex {n : Nat} {l : List Arc} (hn : inN n l) (h12 : n ≤ 12) (hs : Small l) (h : ¬ OkB n l) : ∃ k, k ≤ n + 1 ∧ hasNeg n l k := by
  obtain ⟨i, r, hi, c1, c2, c3, c4⟩ := neg_of_not_ok hn h12 hs h
  exact ⟨r.length, c3, hasNeg_of hn hs ⟨c2, i, c1, c4⟩ (by omega)⟩
/-- the first length with a negative sum gives the standard refutation -/
theorem walk_std {n : Nat} {l : List Arc} (hn : inN n l) (hs : Small l) (ho : Sorted l) {k : Nat} (hk : k ≤ 99) (h1 : hasNeg n l (k + 1)) (h2 : ∀ j, j ≤ k → ¬ hasNeg n l j) : IsStd l (walkU l (k + 1) (-1) (-1) 0) ∧ (walkU l (k + 1) (-1) (-1) 0).length = k + 1 := by
  have a1 := of_hasNeg hs (by omega) h1
  have a2 : ∀ r, IsNeg l r → k + 1 ≤ r.length := by
    intro r hr
    rcases Nat.lt_or_ge r.length (k + 1) with h | h
    · exact absurd (hasNeg_of hn hs hr (by omega)) (h2 _ (by omega))
    · exact h
  rw [walk_top hs ho hk a1 a2]
  exact top_spec hs ho hk a1 a2

end Go.Proofs.Ytcmibhechhcpiaa

namespace Go.Proofs.Ytcmibhechhcpiaa

def usesOf (r : List Arc) : List (Int × Int) := r.map fun a => ((a.t : Int), a.s)
theorem usesOf_snoc (r : List Arc) (a : Arc) : usesOf (r ++ [a]) = usesOf r ++ [((a.t : Int), a.s)] := by simp [usesOf]
theorem usesOf_len (r : List Arc) : (usesOf r).length = r.length := by simp [usesOf]
def Refutes (l : List Arc) (r : List (Int × Int)) : Prop := ∃ cs, usesOf cs = r ∧ IsNeg l cs
def isU (u : Int × Int) (a : Arc) : Bool := decide ((a.t : Int) = u.1) && decide (a.s = u.2)
theorem isU_iff {u : Int × Int} {a : Arc} : isU u a = true ↔ ((a.t : Int), a.s) = u := by
  unfold isU
  rw [Bool.and_eq_true, decide_eq_true_eq, decide_eq_true_eq]
  constructor
  · rintro ⟨h1, h2⟩; rw [h1, h2]
  · intro h; rw [← h]; exact ⟨rfl, rfl⟩
theorem use_key {a b : Arc} (h : ((a.t : Int), a.s) = ((b.t : Int), b.s)) : key a = key b := by
  simp only [Prod.mk.injEq] at h
  unfold key
  rw [h.2]
  omega
theorem isU_inj {l : List Arc} (ho : Sorted l) {u : Int × Int} {a b : Arc} (ha : a ∈ l) (hb : b ∈ l) (h1 : isU u a = true) (h2 : isU u b = true) : a = b :=
  sorted_inj ho ha hb (use_key ((isU_iff.1 h1).trans (isU_iff.1 h2).symm))
theorem isU_find {l : List Arc} (ho : Sorted l) {u : Int × Int} {a : Arc} (ha : a ∈ l) (h : isU u a = true) : l.find? (isU u) = some a := by
  cases hf : l.find? (isU u) with
  | none => rw [List.find?_eq_none] at hf; exact absurd h (hf a ha)
  | some b => rw [isU_inj ho ha (List.mem_of_find?_eq_some hf) h (List.find?_some hf)]

def chkF (l : List Arc) : Nat → Int → List (Int × Int) → Option (Nat × Int)
  | p, q, [] => some (p, q)
  | p, q, u :: us => match l.find? (isU u) with
    | none => none
    | some a => if a.f = p then chkF l a.g (q + a.c) us else none
def fin (st : Nat) : Option (Nat × Int) → Bool
  | none => false
  | some z => decide (z.1 = st) && decide (z.2 < 0)
def chk (l : List Arc) : List (Int × Int) → Bool
  | [] => false
  | u :: us => match l.find? (isU u) with
    | none => false
    | some a => fin a.f (chkF l a.g a.c us)

theorem chkF_iff {l : List Arc} (ho : Sorted l) : ∀ (us : List (Int × Int)) (p : Nat) (q : Int) (z : Nat × Int), chkF l p q us = some z ↔ ∃ cs, usesOf cs = us ∧ Chain l p cs z.1 ∧ q + wt cs = z.2 := by
  intro us
  induction us with
  | nil =>
    intro p q z
    simp only [chkF, Option.some.injEq]
    constructor
    · intro h; subst h; exact ⟨[], rfl, rfl, by simp [wt]⟩
    · rintro ⟨cs, h1, h2, h3⟩
      have : cs = [] := by cases cs with
        | nil => rfl
        | cons a s => simp [usesOf] at h1
      subst this
      have h2 : p = z.1 := h2
      simp only [wt] at h3
      rw [h2, show q = z.2 by omega]
  | cons u us ih =>
    intro p q z
    constructor
    · intro h
      simp only [chkF] at h
      cases hf : l.find? (isU u) with
      | none => rw [hf] at h; cases h
      | some a =>
        rw [hf] at h
        dsimp only at h
        split at h
        · next hp =>
          obtain ⟨cs, h1, h2, h3⟩ := (ih _ _ _).1 h
          refine ⟨a :: cs, ?_, ⟨List.mem_of_find?_eq_some hf, hp, h2⟩, by simp only [wt]; omega⟩
          have := isU_iff.1 (List.find?_some hf)
          simp only [usesOf, List.map_cons] at h1 ⊢
          rw [h1, this]
        · cases h
    · rintro ⟨cs, h1, h2, h3⟩
      cases cs with
      | nil => simp [usesOf] at h1
      | cons a s =>
        simp only [usesOf, List.map_cons, List.cons.injEq] at h1
        obtain ⟨c1, c2, c3⟩ := h2
        simp only [chkF]
        rw [isU_find ho c1 (isU_iff.2 h1.1)]
        dsimp only
        rw [if_pos c2]
        exact (ih _ _ _).2 ⟨s, h1.2, c3, by simp only [wt] at h3; omega⟩
theorem chk_iff {l : List Arc} (ho : Sorted l) (r : List (Int × Int)) : chk l r = true ↔ Refutes l r := by
  cases r with
  | nil =>
    constructor
    · intro h; cases h
    · rintro ⟨cs, h1, h2, _⟩
      cases cs with
      | nil => exact absurd rfl h2
      | cons a s => simp [usesOf] at h1
  | cons u us =>
    constructor
    · intro h
      simp only [chk] at h
      cases hf : l.find? (isU u) with
      | none => rw [hf] at h; cases h
      | some a =>
        rw [hf] at h
        dsimp only at h
        cases hc : chkF l a.g a.c us with
        | none => rw [hc] at h; cases h
        | some z =>
          rw [hc] at h
          simp only [fin, Bool.and_eq_true, decide_eq_true_eq] at h
          obtain ⟨cs, h1, h2, h3⟩ := (chkF_iff ho _ _ _ _).1 hc
          have := isU_iff.1 (List.find?_some hf)
          refine ⟨a :: cs, ?_, by simp, a.f, ⟨List.mem_of_find?_eq_some hf, rfl, by rw [← h.1]; exact h2⟩, by simp only [wt]; omega⟩
          simp only [usesOf, List.map_cons] at h1 ⊢
          rw [h1, this]
    · rintro ⟨cs, h1, h2, i, h3, h4⟩
      cases cs with
      | nil => exact absurd rfl h2
      | cons a s =>
        simp only [usesOf, List.map_cons, List.cons.injEq] at h1
        obtain ⟨c1, c2, c3⟩ := h3
        subst c2
        simp only [chk]
        rw [isU_find ho c1 (isU_iff.2 h1.1)]
        dsimp only
        rw [(chkF_iff ho us a.g a.c (a.f, a.c + wt s)).2 ⟨s, h1.2, c3, rfl⟩]
        simp only [fin, Bool.and_eq_true, decide_eq_true_eq]
        exact ⟨trivial, by simpa only [wt] using h4⟩

end Go.Proofs.Ytcmibhechhcpiaa

namespace Go.Proofs.Ytcmibhechhcpiaa

/-- a use lowers the value where it begins -/
def relax (v : Nat → Int) (a : Arc) : Nat → Int := fun i => if i = a.f ∧ v a.g + a.c < v a.f then v a.g + a.c else v i
def lows (v : Nat → Int) (l : List Arc) : Nat → Int := l.foldl relax v
def moves (v : Nat → Int) (a : Arc) : Bool := decide (v a.g + a.c < v a.f)
def changes (v : Nat → Int) : List Arc → Bool
  | [] => false
  | a :: r => moves v a || changes (relax v a) r
def roundK (l : List Arc) : Nat → Nat → Int
  | 0 => fun _ => 0
  | k + 1 => lows (roundK l k) l

theorem lows_snoc (v : Nat → Int) (l : List Arc) (a : Arc) : lows v (l ++ [a]) = relax (lows v l) a := by simp [lows]
theorem changes_snoc (l : List Arc) (a : Arc) : ∀ v, changes v (l ++ [a]) = (changes v l || moves (lows v l) a) := by
  induction l with
  | nil => intro v; simp [changes, lows]
  | cons b r ih =>
    intro v
    have e : lows v (b :: r) = lows (relax v b) r := rfl
    rw [List.cons_append, changes, changes, ih, e, Bool.or_assoc]
theorem take_snoc {l : List Arc} {k : Nat} (hk : k < l.length) : l.take (k + 1) = l.take k ++ [l[k]] := by
  rw [List.take_succ_eq_append_getElem hk]
theorem relax_le (v : Nat → Int) (a : Arc) (i : Nat) : relax v a i ≤ v i := by
  unfold relax
  split
  · next h => rw [h.1]; omega
  · exact Int.le_refl _
theorem relax_f (v : Nat → Int) (a : Arc) : relax v a a.f ≤ v a.g + a.c := by
  unfold relax
  split
  · exact Int.le_refl _
  · next h =>
    have : ¬ v a.g + a.c < v a.f := fun h2 => h ⟨rfl, h2⟩
    omega
theorem lows_le (l : List Arc) : ∀ (v : Nat → Int) (i : Nat), lows v l i ≤ v i := by
  induction l with
  | nil => intro v i; exact Int.le_refl _
  | cons a r ih => intro v i; exact Int.le_trans (ih (relax v a) i) (relax_le v a i)
theorem lows_arc (l : List Arc) : ∀ (v : Nat → Int) (a : Arc), a ∈ l → lows v l a.f ≤ v a.g + a.c := by
  induction l with
  | nil => intro v a h; simp at h
  | cons b r ih =>
    intro v a h
    rcases List.mem_cons.1 h with e | h
    · subst e
      exact Int.le_trans (lows_le r (relax v a) a.f) (relax_f v a)
    · have h1 := ih (relax v b) a h
      have h2 := relax_le v b a.g
      have e : lows v (b :: r) = lows (relax v b) r := rfl
      rw [e]
      omega
theorem relax_keep {u v : Nat → Int} {a : Arc} (ha : u a.f ≤ a.c + u a.g) (h : ∀ i, u i ≤ v i) (i : Nat) : u i ≤ relax v a i := by
  unfold relax
  split
  · next h1 => have := h a.g; rw [h1.1]; omega
  · exact h i
theorem lows_keep {u : Nat → Int} (l : List Arc) : ∀ {v : Nat → Int}, Pot l u → (∀ i, u i ≤ v i) → ∀ i, u i ≤ lows v l i := by
  induction l with
  | nil => intro v _ h i; exact h i
  | cons a r ih => intro v hp h i; exact ih (fun b hb => hp b (by simp [hb])) (relax_keep (hp a (by simp)) h) i
theorem relax_same {v : Nat → Int} {a : Arc} (h : moves v a = false) : relax v a = v := by
  funext i
  unfold relax
  rw [if_neg]
  rintro ⟨_, h2⟩
  unfold moves at h
  exact of_decide_eq_false h h2
theorem pot_of_same (l : List Arc) : ∀ {v : Nat → Int}, changes v l = false → lows v l = v ∧ Pot l v := by
  induction l with
  | nil => intro v _; exact ⟨rfl, fun a h => by simp at h⟩
  | cons a r ih =>
    intro v h
    simp only [changes, Bool.or_eq_false_iff] at h
    obtain ⟨h1, h2⟩ := h
    have e := relax_same h1
    rw [e] at h2
    obtain ⟨h3, h4⟩ := ih h2
    refine ⟨?_, fun b hb => ?_⟩
    · have e2 : lows v (a :: r) = lows (relax v a) r := rfl
      rw [e2, e, h3]
    · rcases List.mem_cons.1 hb with e3 | hb
      · subst e3
        unfold moves at h1
        have := of_decide_eq_false h1
        omega
      · exact h4 b hb
theorem same_of_pot (l : List Arc) : ∀ {v : Nat → Int}, Pot l v → changes v l = false := by
  induction l with
  | nil => intro v _; rfl
  | cons a r ih =>
    intro v h
    have h1 : moves v a = false := by
      unfold moves
      have := h a (by simp)
      exact decide_eq_false (by omega)
    rw [changes, relax_same h1, h1, ih fun b hb => h b (by simp [hb])]
    rfl
theorem relax_low {v : Nat → Int} {a : Arc} {B : Int} (ha : -2000001 ≤ a.c) (h : ∀ i, -B ≤ v i) (i : Nat) : -(B + 2000001) ≤ relax v a i := by
  have h1 := h i
  have h2 := h a.g
  unfold relax
  split <;> omega
theorem lows_low (l : List Arc) : ∀ {v : Nat → Int} {B : Int}, Small l → (∀ i, -B ≤ v i) → ∀ i, -(B + 2000001 * l.length) ≤ lows v l i := by
  induction l with
  | nil => intro v B _ h i; have := h i; simp only [List.length_nil]; show _ ≤ v i; omega
  | cons a r ih =>
    intro v B hs h i
    have := ih (v := relax v a) (B := B + 2000001) (fun b hb => hs b (by simp [hb])) (relax_low (hs a (by simp)).1 h) i
    simp only [List.length_cons]
    have e : lows v (a :: r) = lows (relax v a) r := rfl
    rw [e]
    omega
theorem roundK_le (l : List Arc) (k i : Nat) : roundK l k i ≤ 0 := by
  induction k with
  | zero => exact Int.le_refl _
  | succ k ih => exact Int.le_trans (lows_le l (roundK l k) i) ih
theorem roundK_low {l : List Arc} (hs : Small l) (hl : l.length ≤ 100) (k i : Nat) : -(200000100 * (k : Int)) ≤ roundK l k i := by
  induction k generalizing i with
  | zero => simp [roundK]
  | succ k ih =>
    have := lows_low l hs (v := roundK l k) (B := 200000100 * (k : Int)) ih i
    simp only [roundK]
    omega
theorem roundK_chain {l : List Arc} : ∀ (k i j : Nat) (r : List Arc), Chain l i r j → r.length ≤ k → roundK l k i ≤ wt r := by
  intro k
  induction k with
  | zero =>
    intro i j r h hl
    have : r = [] := List.eq_nil_of_length_eq_zero (by omega)
    subst this
    exact roundK_le l 0 i
  | succ k ih =>
    intro i j r h hl
    cases r with
    | nil => exact roundK_le l (k + 1) i
    | cons a s =>
      obtain ⟨h1, h2, h3⟩ := h
      have h4 := ih a.g j s h3 (by simpa using hl)
      have h5 := lows_arc l (roundK l k) a h1
      subst h2
      simp only [roundK, wt]
      omega
theorem roundK_keep {u : Nat → Int} {l : List Arc} (hp : Pot l u) (h0 : ∀ i, u i ≤ 0) (k : Nat) : ∀ i, u i ≤ roundK l k i := by
  induction k with
  | zero => exact h0
  | succ k ih => exact lows_keep l hp ih

/-- a round that changes nothing leaves the greatest values -/
theorem great_of_same {n : Nat} {l : List Arc} (hn : inN n l) (h12 : n ≤ 12) (hs : Small l) {k : Nat} (h : changes (roundK l k) l = false) : OkB n l ∧ lows (roundK l k) l = roundK l k ∧ ∀ i, i ≤ n → roundK l k i = std n l i := by
  obtain ⟨h1, h2⟩ := pot_of_same l h
  have hok := ok_of_pot h12 hs h2
  refine ⟨hok, h1, fun i hi => ?_⟩
  have h3 := std_greatest h12 hs h2 (fun i _ => roundK_le l k i) hi
  have h4 := roundK_keep (std_pot hn h12 hs hok) (fun i => std_le i) k i
  omega
/-- and there is one, if there is a solution -/
theorem same_of_ok {n : Nat} {l : List Arc} (hn : inN n l) (h12 : n ≤ 12) (hs : Small l) (h : OkB n l) : changes (roundK l n) l = false := by
  have e : ∀ i, i ≤ n → roundK l n i = std n l i := by
    intro i hi
    obtain ⟨k, r, hk, r1, r2⟩ := std_chain h12 hs hi
    obtain ⟨s, s1, s2, s3⟩ := shorten hn (noNeg_of_ok' hn h12 hs h) r.length i k r (Nat.le_refl _) hi r1
    have h1 := roundK_chain n i k s s1 s2
    have h2 := roundK_keep (std_pot hn h12 hs h) (fun i => std_le i) n i
    omega
  apply same_of_pot
  intro a ha
  have h1 := std_pot hn h12 hs h a ha
  rw [e _ (hn a ha).1, e _ (hn a ha).2]
  exact h1

/-- the opposite of a use -/
def oppA (a : Arc) : Arc := ⟨0, 0, a.g, a.f, -a.c - 1⟩
def Tight (l : List Arc) : Prop := ∀ a ∈ l, -2000000 ≤ a.c ∧ a.c ≤ 2000000
theorem tight_small {l : List Arc} (h : Tight l) : Small l := fun a ha => by have := h a ha; omega
theorem opp_small {l : List Arc} {a : Arc} (h : Small l) (ha : -2000000 ≤ a.c ∧ a.c ≤ 2000000) : Small (l ++ [oppA a]) := by
  intro b hb
  rw [List.mem_append] at hb
  rcases hb with hb | hb
  · exact h b hb
  · simp at hb
    subst hb
    show -2000001 ≤ -a.c - 1 ∧ -a.c - 1 ≤ 2000001
    omega
theorem opp_in {n : Nat} {l : List Arc} {a : Arc} (h : inN n l) (ha : a.f ≤ n ∧ a.g ≤ n) : inN n (l ++ [oppA a]) := by
  intro b hb
  rw [List.mem_append] at hb
  rcases hb with hb | hb
  · exact h b hb
  · simp at hb
    subst hb
    exact ⟨ha.2, ha.1⟩
theorem opp_iff {n : Nat} {l : List Arc} (hn : inN n l) (h12 : n ≤ 12) (hs : Small l) {a : Arc} (ha : a.f ≤ n ∧ a.g ≤ n) (hc : -2000000 ≤ a.c ∧ a.c ≤ 2000000) :
    OkB n (l ++ [oppA a]) ↔ ∃ v, Pot l v ∧ ¬ v a.f ≤ a.c + v a.g := by
  rw [← solvable_iff (opp_in hn ha) h12 (opp_small hs hc)]
  constructor
  · rintro ⟨v, hv⟩
    refine ⟨v, fun b hb => hv b (by simp [hb]), ?_⟩
    have : v a.g ≤ -a.c - 1 + v a.f := hv (oppA a) (by simp)
    omega
  · rintro ⟨v, h1, h2⟩
    refine ⟨v, fun b hb => ?_⟩
    rw [List.mem_append] at hb
    rcases hb with hb | hb
    · exact h1 b hb
    · simp at hb
      subst hb
      show v a.g ≤ -a.c - 1 + v a.f
      omega

end Go.Proofs.Ytcmibhechhcpiaa
