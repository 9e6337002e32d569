/-
  Types: what Made makes is valid; subtypes are a partial order; the numbers as arguments; where a law about a made type graph stands.
-/
import Derived.Test.YtgpcaofikmdpjaaTMade
import Derived.Test.YtgpcaofikmdpjaaTOpen
import Derived.Test.YtgpcaofikmdpjaaTMade
import Derived.Deep.QuietTactic
namespace Go.Proofs.Ytgpcaofikmdpjaa

/-! subtypes -/
theorem sub_self {t : Typ} (hg : GoodP t) {k : Nat} (hk : k < t.nodes.length) : bel t k k = true := by
  rw [bel_step hg hk, decide_eq_true rfl]; rfl
theorem sub_ind {t : Typ} (hg : GoodP t) {P : Nat → Prop} (h : ∀ k, k < t.nodes.length → (∀ p : Nat, parT t k = p → P p) → P k) : ∀ k, k < t.nodes.length → P k := by
  intro k
  induction k using Nat.strongRecOn with
  | _ k ih =>
    intro hk
    refine h k hk fun p hp => ?_
    have := hg k hk
    exact ih p (by omega) (by omega)
/-- what a step of bel says -/
theorem sub_cases {t : Typ} (hg : GoodP t) {k b : Nat} (hk : k < t.nodes.length) (h : bel t k b = true) : k = b ∨ ∃ p : Nat, parT t k = p ∧ bel t p b = true := by
  rw [bel_step hg hk, Bool.or_eq_true, decide_eq_true_eq] at h
  rcases h with h | h
  · exact .inl (by omega)
  · have hp := hg k hk
    by_cases h0 : parT t k = -1
    · rw [h0, bel_none, decide_eq_true_eq] at h
      omega
    · exact .inr ⟨(parT t k).toNat, by omega, by rw [show (((parT t k).toNat : Nat) : Int) = parT t k by omega]; exact h⟩
theorem sub_up {t : Typ} (hg : GoodP t) {k p : Nat} (hk : k < t.nodes.length) (hp : parT t k = p) {b : Int} (h : bel t p b = true) : bel t k b = true := by
  rw [bel_step hg hk, hp, h, Bool.or_true]
theorem sub_le {t : Typ} (hg : GoodP t) {b : Nat} : ∀ k, k < t.nodes.length → bel t k b = true → b ≤ k := by
  refine sub_ind hg fun k hk ih h => ?_
  rcases sub_cases hg hk h with h1 | ⟨p, h1, h2⟩
  · omega
  · have := ih p h1 h2
    have := hg k hk
    omega
theorem sub_trans {t : Typ} (hg : GoodP t) {b : Nat} {c : Int} (hbc : bel t b c = true) : ∀ k, k < t.nodes.length → bel t k b = true → bel t k c = true := by
  refine sub_ind hg fun k hk ih h => ?_
  rcases sub_cases hg hk h with h1 | ⟨p, h1, h2⟩
  · rw [h1]; exact hbc
  · exact sub_up hg hk h1 (ih p h1 h2)
theorem sub_anti {t : Typ} (hg : GoodP t) {a b : Nat} (ha : a < t.nodes.length) (hb : b < t.nodes.length) (h1 : bel t a b = true) (h2 : bel t b a = true) : a = b := by
  have := sub_le hg a ha h1
  have := sub_le hg b hb h2
  omega
/-- the supertypes of a type are a chain -/
theorem sub_chain {t : Typ} (hg : GoodP t) {a b : Nat} : ∀ k, k < t.nodes.length → bel t k a = true → bel t k b = true → bel t a b = true ∨ bel t b a = true := by
  refine sub_ind hg fun k hk ih h1 h2 => ?_
  rcases sub_cases hg hk h1 with e1 | ⟨p, e1, f1⟩
  · subst e1; exact .inl h2
  · rcases sub_cases hg hk h2 with e2 | ⟨p', e2, f2⟩
    · subst e2; exact .inr h1
    · have : p' = p := by omega
      subst this
      exact ih p' e1 f1 f2
/-- Join by steps: the first supertype of i that is above b -/
theorem joinU_spec {t : Typ} (hg : GoodP t) {b : Nat} : ∀ (f : Nat) (i : Int), -1 ≤ i → i < t.nodes.length → (i + 1).toNat ≤ f →
    (∃ j : Nat, joinU t b f i = ((j : Int), 0) ∧ (0 ≤ i ∧ (j : Int) ≤ i) ∧ bel t i j = true ∧ bel t b j = true ∧ ∀ c : Nat, bel t i c = true → bel t b c = true → bel t j c = true) ∨
    (joinU t b f i = (0, 10) ∧ ∀ c : Nat, bel t i c = true → bel t b c = true → False) := by
  intro f
  induction f with
  | zero =>
    intro i h1 _ h3
    refine .inr ⟨rfl, fun c hc _ => ?_⟩
    have : i = -1 := by omega
    rw [this, bel_none, decide_eq_true_eq] at hc
    omega
  | succ f ih =>
    intro i h1 h2 h3
    by_cases h0 : i < 0
    · refine .inr ⟨by simp only [joinU]; rw [if_pos h0], fun c hc _ => ?_⟩
      have : i = -1 := by omega
      rw [this, bel_none, decide_eq_true_eq] at hc
      omega
    · obtain ⟨k, rfl⟩ : ∃ k : Nat, i = k := ⟨i.toNat, by omega⟩
      have hk : k < t.nodes.length := by omega
      by_cases hb : bel t b k = true
      · refine .inl ⟨k, by simp only [joinU]; rw [if_neg h0, if_pos hb], ⟨by omega, by omega⟩, sub_self hg hk, hb, fun c hc _ => hc⟩
      · have hp := hg k hk
        have e : joinU t b (f + 1) k = joinU t b f (parT t k) := by simp only [joinU]; rw [if_neg h0, if_neg hb, Int.toNat_natCast]
        rw [e]
        have up : ∀ c : Nat, bel t k c = true → bel t b c = true → bel t (parT t k) c = true := fun c hc hbc => by
          rw [bel_step hg hk, Bool.or_eq_true, decide_eq_true_eq] at hc
          rcases hc with hc | hc
          · have : k = c := by omega
            subst this
            exact absurd hbc hb
          · exact hc
        rcases ih (parT t k) hp.1 (by omega) (by omega) with ⟨j, g1, g2, g3, g4, g5⟩ | ⟨g1, g2⟩
        · refine .inl ⟨j, g1, ⟨by omega, by omega⟩, ?_, g4, fun c hc hbc => g5 c (up c hc hbc) hbc⟩
          rw [bel_step hg hk, g3, Bool.or_true]
        · exact .inr ⟨g1, fun c hc hbc => g2 c (up c hc hbc) hbc⟩

/-! what Made makes -/
theorem madeN_get (qs : List (Nat × Nat)) {n k : Nat} (hk : k < n) : (madeN qs n).getD k default = madeNod k (qs.getD k (0, 0)).1 (qs.getD k (0, 0)).2 := by
  induction n with
  | zero => omega
  | succ n ih =>
    unfold madeN
    rw [List.getD_eq_getElem?_getD] at ih ⊢
    by_cases h : k < n
    · rw [List.getElem?_append_left (by rw [madeN_len]; exact h)]
      exact ih h
    · have : k = n := by omega
      subst this
      rw [List.getElem?_append_right (by rw [madeN_len]; exact Nat.le_refl _), madeN_len, Nat.sub_self]
      rfl
theorem madeE_get (m : Nat) (rs : List (Nat × Nat)) {n k : Nat} (hk : k < n) : (madeE m rs n).getD k default = madeEdg m k (rs.getD k (0, 0)).1 (rs.getD k (0, 0)).2 := by
  induction n with
  | zero => omega
  | succ n ih =>
    unfold madeE
    rw [List.getD_eq_getElem?_getD] at ih ⊢
    by_cases h : k < n
    · rw [List.getElem?_append_left (by rw [madeE_len]; exact h)]
      exact ih h
    · have : k = n := by omega
      subst this
      rw [List.getElem?_append_right (by rw [madeE_len]; exact Nat.le_refl _), madeE_len, Nat.sub_self]
      rfl
theorem madeN_mem {qs : List (Nat × Nat)} {n : Nat} {x : Nod} (h : x ∈ madeN qs n) : ∃ k, k < n ∧ x = madeNod k (qs.getD k (0, 0)).1 (qs.getD k (0, 0)).2 := by
  obtain ⟨k, hk, rfl⟩ := List.mem_iff_getElem.1 h
  have hk' : k < n := by rw [madeN_len] at hk; exact hk
  exact ⟨k, hk', by rw [← madeN_get qs hk', getD_at hk]⟩
theorem madeE_mem {m : Nat} {rs : List (Nat × Nat)} {n : Nat} {x : Edg} (h : x ∈ madeE m rs n) : ∃ k, k < n ∧ x = madeEdg m k (rs.getD k (0, 0)).1 (rs.getD k (0, 0)).2 := by
  obtain ⟨k, hk, rfl⟩ := List.mem_iff_getElem.1 h
  have hk' : k < n := by rw [madeE_len] at hk; exact hk
  exact ⟨k, hk', by rw [← madeE_get m rs hk', getD_at hk]⟩
theorem madeN_take (qs : List (Nat × Nat)) {n k : Nat} (hk : k ≤ n) : (madeN qs n).take k = madeN qs k := by
  induction n with
  | zero => have : k = 0 := by omega
            subst this; rfl
  | succ n ih =>
    by_cases h : k ≤ n
    · rw [show madeN qs (n + 1) = madeN qs n ++ [madeNod n (qs.getD n (0, 0)).1 (qs.getD n (0, 0)).2] from rfl]
      rw [List.take_append_of_le_length (by rw [madeN_len]; exact h)]
      exact ih h
    · have : k = n + 1 := by omega
      subst this
      rw [List.take_of_length_le (by rw [madeN_len]; exact Nat.le_refl _)]
theorem madeE_take (m : Nat) (rs : List (Nat × Nat)) {n k : Nat} (hk : k ≤ n) : (madeE m rs n).take k = madeE m rs k := by
  induction n with
  | zero => have : k = 0 := by omega
            subst this; rfl
  | succ n ih =>
    by_cases h : k ≤ n
    · rw [show madeE m rs (n + 1) = madeE m rs n ++ [madeEdg m n (rs.getD n (0, 0)).1 (rs.getD n (0, 0)).2] from rfl]
      rw [List.take_append_of_le_length (by rw [madeE_len]; exact h)]
      exact ih h
    · have : k = n + 1 := by omega
      subst this
      rw [List.take_of_length_le (by rw [madeE_len]; exact Nat.le_refl _)]

theorem nmA_ok : ∀ k : Fin 6, isNm (nmA k) = true ∧ (nmA k).size ≤ 40 := by decide +kernel
theorem nmU_ok : ∀ k : Fin 6, isNm (nmU k) = true ∧ (nmU k).size ≤ 40 := by decide +kernel
theorem nmE_ok : ∀ k : Fin 5, isNm (nmE k) = true ∧ (nmE k).size ≤ 40 := by decide +kernel
theorem nmA_ne : ∀ j k : Fin 6, j < k → nmA j ≠ nmA k := by decide +kernel
theorem nmU_ne : ∀ j k : Fin 6, j < k → nmU j ≠ nmU k := by decide +kernel
theorem nmE_ne : ∀ j k : Fin 5, j < k → nmE j ≠ nmE k := by decide +kernel
theorem onoff_ok : namesE [nOff, nOn] = 0 := by decide +kernel

theorem madeAtt_len (i z : Nat) : (madeAtt i z).length ≤ 1 := by
  unfold madeAtt; split
  · exact Nat.le_refl _
  · split
    · exact Nat.le_refl _
    · exact Nat.zero_le _
theorem madeAtt_mem {i z : Nat} {y : Att} (h : y ∈ madeAtt i z) : y.nm = nmU i ∧ attE y = 0 ∧ y.ns.length ≤ 25 ∧ ∀ s ∈ y.ns, s.size ≤ 40 := by
  unfold madeAtt at h
  split at h
  · simp at h
    subst h
    refine ⟨rfl, ?_, by simp, fun s hs => by simp at hs⟩
    unfold attE inB
    simp only [List.length_nil]
    have h1 : 0 ≤ (z : Int) / 4 % 9 := Int.emod_nonneg _ (by omega)
    have h2 : (z : Int) / 4 % 9 < 9 := Int.emod_lt_of_pos _ (by omega)
    rw [if_pos trivial, decide_eq_true (by omega), decide_eq_true (by omega), decide_eq_true (by omega), decide_eq_true (by omega)]
    rfl
  · split at h
    · simp at h
      subst h
      refine ⟨rfl, ?_, by show 2 ≤ 25; omega, fun s hs => by simp at hs; rcases hs with rfl | rfl <;> decide⟩
      unfold attE
      simp only [onoff_ok]
      rfl
    · simp at h

section
variable (qs rs : List (Nat × Nat))
theorem made_par {k : Nat} (hk : k < cntN qs.length) : -1 ≤ parT (madeT qs rs) k ∧ parT (madeT qs rs) k < k := by
  unfold parT
  have e : (madeT qs rs).nodes.getD k default = _ := madeN_get qs hk
  rw [e]
  show -1 ≤ ((qs.getD k (0, 0)).1 : Int) % ((k : Int) + 1) - 1 ∧ ((qs.getD k (0, 0)).1 : Int) % ((k : Int) + 1) - 1 < k
  have h1 : 0 ≤ ((qs.getD k (0, 0)).1 : Int) % ((k : Int) + 1) := Int.emod_nonneg _ (by omega)
  have h2 : ((qs.getD k (0, 0)).1 : Int) % ((k : Int) + 1) < (k : Int) + 1 := Int.emod_lt_of_pos _ (by omega)
  omega
theorem made_lenN : (madeT qs rs).nodes.length = cntN qs.length := madeN_len _ _
theorem made_lenE : (madeT qs rs).edges.length = cntE rs.length := madeE_len _ _ _
theorem made_goodU : GoodU (madeT qs rs) (cntN qs.length) := fun _ hi => made_par qs rs hi
theorem made_good : GoodP (madeT qs rs) := fun i hi => made_par qs rs (by rw [made_lenN] at hi; exact hi)
theorem made_own {k : Nat} (hk : k < cntN qs.length) : ((madeT qs rs).nodes.getD k default).att = madeAtt k (qs.getD k (0, 0)).2 := by
  have e : (madeT qs rs).nodes.getD k default = _ := madeN_get qs hk
  rw [e]; rfl
theorem made_atts : ∀ k, k < cntN qs.length → (attL (madeT qs rs) k).length ≤ k + 1 ∧ ∀ y ∈ attL (madeT qs rs) k, ∃ j, j ≤ k ∧ y.nm = nmU j := by
  intro k
  induction k using Nat.strongRecOn with
  | _ k ih =>
    intro hk
    have hp := made_par qs rs hk
    rw [attL_step (made_goodU qs rs) hk, made_own qs rs hk, List.length_append]
    have hl := madeAtt_len k (qs.getD k (0, 0)).2
    have hpar : (attL (madeT qs rs) (parT (madeT qs rs) k)).length ≤ k ∧ ∀ y ∈ attL (madeT qs rs) (parT (madeT qs rs) k), ∃ j, j < k ∧ y.nm = nmU j := by
      by_cases h0 : parT (madeT qs rs) k = -1
      · rw [h0, attL_none]
        exact ⟨Nat.zero_le _, fun y hy => by simp at hy⟩
      · obtain ⟨p, hp2⟩ : ∃ p : Nat, parT (madeT qs rs) k = p := ⟨(parT (madeT qs rs) k).toNat, by omega⟩
        rw [hp2]
        obtain ⟨h1, h2⟩ := ih p (by omega) (by omega)
        refine ⟨by omega, fun y hy => ?_⟩
        obtain ⟨j, h3, h4⟩ := h2 y hy
        exact ⟨j, by omega, h4⟩
    refine ⟨by omega, fun y hy => ?_⟩
    rw [List.mem_append] at hy
    rcases hy with hy | hy
    · obtain ⟨j, h3, h4⟩ := hpar.2 y hy
      exact ⟨j, by omega, h4⟩
    · exact ⟨k, Nat.le_refl _, (madeAtt_mem hy).1⟩
theorem made_nodeE {k : Nat} (hk : k < cntN qs.length) : nodeE (madeT qs rs) k = 0 := by
  have hn6 := cntN_le6 qs.length
  have hk6 : k < 6 := by omega
  have hp := made_par qs rs hk
  obtain ⟨hl, _⟩ := made_atts qs rs k hk
  unfold nodeE
  have e : (madeT qs rs).nodes.getD k default = madeNod k (qs.getD k (0, 0)).1 (qs.getD k (0, 0)).2 := madeN_get qs hk
  have e2 : (madeT qs rs).nodes.take k = madeN qs k := madeN_take qs (by omega)
  have eown := made_own qs rs hk
  have hpt : parT (madeT qs rs) k = (madeNod k (qs.getD k (0, 0)).1 (qs.getD k (0, 0)).2).par := by unfold parT; rw [e]
  have hL := attL_step (made_goodU qs rs) hk
  rw [eown] at hL
  have hpn : ∀ y ∈ attL (madeT qs rs) (parT (madeT qs rs) k), y.nm ≠ nmU k := fun y hy => by
    by_cases h0 : parT (madeT qs rs) k = -1
    · rw [h0, attL_none] at hy
      simp at hy
    · obtain ⟨p, hp2⟩ : ∃ p : Nat, parT (madeT qs rs) k = p := ⟨(parT (madeT qs rs) k).toNat, by omega⟩
      rw [hp2] at hy
      obtain ⟨j, h3, h4⟩ := (made_atts qs rs p (by omega)).2 y hy
      rw [h4]
      exact nmU_ne ⟨j, by omega⟩ ⟨k, hk6⟩ (by simp [Fin.lt_def]; omega)
  rw [e, e2]
  generalize (qs.getD k (0, 0)).1 = a at *
  generalize (qs.getD k (0, 0)).2 = z at *
  unfold nodeR
  have h1 : isNm (madeNod k a z).nm = true := (nmA_ok ⟨k, hk6⟩).1
  have h2 : (madeN qs k).any (fun y => decide (y.nm = (madeNod k a z).nm)) = false := any_none fun x hx => by
    obtain ⟨j, hj, rfl⟩ := madeN_mem hx
    exact decide_eq_false (nmA_ne ⟨j, by omega⟩ ⟨k, hk6⟩ (by simp [Fin.lt_def]; omega))
  have h3 : inB (madeNod k a z).par (-1) ((k : Int) - 1) = true := by
    unfold inB
    rw [← hpt, decide_eq_true (by omega), decide_eq_true (by omega)]; rfl
  have h4 : (madeNod k a z).att.length ≤ 1 := madeAtt_len k z
  have hat : (madeNod k a z).att = madeAtt k z := rfl
  rw [if_neg (by rw [h1]; simp), if_neg (by rw [h2]; simp), if_neg (by rw [h3]; simp), if_neg (by omega)]
  rw [hat] at h4 ⊢
  rw [hL, List.length_append]
  generalize attL (madeT qs rs) (parT (madeT qs rs) k) = L at *
  cases hz : madeAtt k z with
  | nil => rfl
  | cons y r =>
    rw [hz] at h4
    have hr : r = [] := by
      cases r with
      | nil => rfl
      | cons => simp at h4
    subst hr
    obtain ⟨m1, m2, _⟩ := madeAtt_mem (i := k) (z := z) (y := y) (by rw [hz]; simp)
    rw [show L.length + [y].length - [y].length = L.length by simp]
    show nzD (ownAt (L ++ [y])) L.length 1 = 0
    have ho : ownAt (L ++ [y]) L.length = 0 := by
      unfold ownAt
      have e4 : (L ++ [y]).getD L.length default = y := by
        rw [List.getD_eq_getElem?_getD, List.getElem?_append_right (Nat.le_refl _), Nat.sub_self]; rfl
      rw [e4, m1, List.take_append_of_le_length (Nat.le_refl _), List.take_length]
      rw [if_neg (by rw [(nmU_ok ⟨k, hk6⟩).1]; simp)]
      rw [if_neg (by
        rw [any_none (p := fun x : Att => decide (x.nm = nmU k)) (fun x hx => decide_eq_false (hpn x hx))]
        simp)]
      exact m2
    simp only [nzD, ho]
    rfl
theorem made_edgeE {k : Nat} (hk : k < cntE rs.length) : edgeE (madeT qs rs) k = 0 := by
  have hn5 := cntE_le5 rs.length
  have hk5 : k < 5 := by omega
  have hn1 := cntN_ge1 qs.length
  unfold edgeE
  have e : (madeT qs rs).edges.getD k default = _ := madeE_get _ rs hk
  have e2 : (madeT qs rs).edges.take k = _ := madeE_take _ rs (by omega)
  rw [e, e2, made_lenN]
  generalize (rs.getD k (0, 0)).1 = a
  generalize (rs.getD k (0, 0)).2 = z
  unfold edgeR
  have h1 : isNm (madeEdg (cntN qs.length) k a z).nm = true := (nmE_ok ⟨k, hk5⟩).1
  have h2 : (madeE (cntN qs.length) rs k).any (fun y => decide (y.nm = (madeEdg (cntN qs.length) k a z).nm)) = false := any_none fun x hx => by
    obtain ⟨j, hj, rfl⟩ := madeE_mem hx
    exact decide_eq_false (nmE_ne ⟨j, by omega⟩ ⟨k, hk5⟩ (by simp [Fin.lt_def]; omega))
  rw [if_neg (by rw [h1]; simp), if_neg (by rw [h2]; simp)]
  refine if_pos ?_
  show (inB ((a : Int) % (cntN qs.length : Int)) 0 ((cntN qs.length : Int) - 1) && (inB ((z : Int) % (cntN qs.length : Int)) 0 ((cntN qs.length : Int) - 1) && (boundS 0 (-1) && boundS 0 (-1)))) = true
  have g : ∀ x : Nat, inB ((x : Int) % (cntN qs.length : Int)) 0 ((cntN qs.length : Int) - 1) = true := fun x => by
    unfold inB
    have h1 : 0 ≤ (x : Int) % (cntN qs.length : Int) := Int.emod_nonneg _ (by omega)
    have h2 : (x : Int) % (cntN qs.length : Int) < (cntN qs.length : Int) := Int.emod_lt_of_pos _ (by omega)
    rw [decide_eq_true (by omega), decide_eq_true (by omega)]; rfl
  rw [g, g]
  decide
theorem resD_all {f : Nat → Nat} {g : Nat → ByteArray} {z : Nat × ByteArray} : ∀ (d k : Nat), (∀ i, k ≤ i → i < k + d → f i = 0) → resD f g z k d = z := by
  intro d
  induction d with
  | zero => intro k _; rfl
  | succ d ih =>
    intro k h
    simp only [resD]
    rw [if_neg (fun e => e (h k (Nat.le_refl _) (by omega)))]
    exact ih (k + 1) (fun i h1 h2 => h i (by omega) (by omega))
theorem made_valid : (validR (madeT qs rs)).1 = 0 := by
  have h1 := cntN_ge1 qs.length
  have h2 := cntN_le6 qs.length
  have h3 := cntE_le5 rs.length
  unfold validR
  rw [made_lenN, made_lenE, if_neg (by omega), if_neg (by omega)]
  unfold nodesR
  rw [resD_all _ _ (fun i _ hi => made_nodeE qs rs (by omega))]
  unfold edgesR
  rw [resD_all _ _ (fun i _ hi => made_edgeE qs rs (by rw [made_lenE] at hi; omega))]
theorem made_few : FewT (madeT qs rs) := ⟨by rw [made_lenN]; have := cntN_le6 qs.length; omega, by rw [made_lenE]; have := cntE_le5 rs.length; omega,
  fun x hx => by
    obtain ⟨k, hk, rfl⟩ := madeN_mem hx
    have := cntN_le6 qs.length
    refine ⟨(nmA_ok ⟨k, by omega⟩).2, by have := madeAtt_len k (qs.getD k (0, 0)).2; show (madeAtt k _).length ≤ 30; omega, fun y hy => ?_⟩
    obtain ⟨e1, _, e3, e4⟩ := madeAtt_mem hy
    exact ⟨by rw [e1]; exact (nmU_ok ⟨k, by omega⟩).2, e3, e4⟩,
  fun x hx => by
    obtain ⟨k, hk, rfl⟩ := madeE_mem hx
    have := cntE_le5 rs.length
    exact (nmE_ok ⟨k, by omega⟩).2⟩
theorem made_given {a b : Nat} (ha : a < cntN qs.length) (hb : b < cntN qs.length) : givenE (madeT qs rs) a b = 0 := by
  unfold givenE inB
  rw [made_valid, made_lenN, if_neg (fun h => h rfl), decide_eq_true (show (0 : Int) ≤ a by omega), decide_eq_true (show (a : Int) ≤ (cntN qs.length : Int) - 1 by omega), decide_eq_true (show (0 : Int) ≤ b by omega), decide_eq_true (show (b : Int) ≤ (cntN qs.length : Int) - 1 by omega)]
  rfl
theorem made_is {a b : Nat} (ha : a < cntN qs.length) (hb : b < cntN qs.length) : isS (madeT qs rs) a b = bel (madeT qs rs) a b := by
  unfold isS
  rw [made_given qs rs ha hb]; rfl
end

end Go.Proofs.Ytgpcaofikmdpjaa

namespace Go.Proofs.Ytgpcaofikmdpjaa
open Go.RowKit

section
open Go.ChangeShapes Go.WideShapes Go.Deep
variable {H : Type} {enc : TypeId × Value → H} {W : World} {fuel : Nat} {cs : List Value} {x : DataW H × List MemPlace}

theorem cellsTwo : Try.prog.cellsOf 74 = 2 := by kernel_rfl
theorem cellsByte : Try.prog.cellsOf 5 = 1 := by kernel_rfl
theorem cells3b : Try.prog.cellsOf 48 = 3 := by kernel_rfl
theorem cells5b : Try.prog.cellsOf 51 = 5 := by kernel_rfl
theorem byte_of {v : Value} (h : DataW.trod enc Try.prog W 0 (fun _ => true) true fuel 5 [v] = some x) : ∃ n : Nat, v = .int .u8 (n : Int) ∧ n < 256 := by
  obtain ⟨n, e, _, hw⟩ := DataW.trod_int Try.underlying5 h
  simp [Lit.wf, IntKind.min, IntKind.max, IntKind.signed, IntKind.bits] at hw
  injection e with e
  exact ⟨n.toNat, by rw [e]; congr 1; omega, by omega⟩
set_option maxRecDepth 100000 in
theorem two_bytes (h : DataW.trod enc Try.prog W 0 (fun _ => true) true fuel 74 cs = some x) (hl2 : cs.length = 2) : ∃ y : Nat × Nat, cs = ETwo.enc y ∧ (y.1 < 256 ∧ y.2 < 256) := by
  obtain ⟨xs, k, _, _, _, hxl, hel⟩ := DataW.trod_array Try.underlying74 h
  match cs, hl2 with
  | [c0, c1], _ =>
    have e0 := hel 0 (by decide)
    have e1 := hel 1 (by decide)
    rw [cellsByte] at e0 e1
    simp only [Nat.zero_mul, Nat.one_mul, List.drop_zero, List.take_succ_cons, List.take_zero, List.drop_succ_cons] at e0 e1
    rw [List.getElem?_eq_getElem (by omega)] at e0 e1
    obtain ⟨n0, rfl, b0⟩ := byte_of e0
    obtain ⟨n1, rfl, b1⟩ := byte_of e1
    exact ⟨(n0, n1), rfl, b0, b1⟩
theorem two_bytes' (h : DataW.trod enc Try.prog W 0 (fun _ => true) true fuel 74 cs = some x) : ∃ y : Nat × Nat, cs = ETwo.enc y ∧ (y.1 < 256 ∧ y.2 < 256) := by
  obtain ⟨xs, k, _, _, hl, _, _⟩ := DataW.trod_array Try.underlying74 h
  exact two_bytes h (by rw [hl, cellsTwo])
/-- a slice of pairs of bytes among the arguments -/
theorem open_p (h : DataW.trod enc Try.prog W 0 (fun _ => true) true fuel 47 cs = some x) :
    ∃ (A : Option Addr) (qs : List (Nat × Nat)) (c : Nat), cs = [.slice A qs.length c] ∧ Twos W W.heap.size A qs ∧ (qs.length ≤ maxLen → Twos W W.heap.size A qs → Byt qs ∧ Twos W W.heap.size A qs) ∧ qs.length ≤ c ∧ c ≤ maxLen := by
  obtain ⟨A, qs, c, e, hT, hG, hl, hm⟩ := open_E ETwo (fun q => q.1 < 256 ∧ q.2 < 256) 74 47 Try.underlying47 cellsTwo (by decide) (fun fuel cs x h => two_bytes' h) h
  exact ⟨A, qs, c, e, hT, fun _ h => ⟨byt_of hG, h⟩, hl, hm⟩
set_option maxRecDepth 100000 in
theorem three_of (h : DataW.trod enc Try.prog W 0 (fun _ => true) true fuel 48 cs = some x) : ∃ y : Nat × Nat × Nat, cs = [.int .u8 (y.1 : Int), .int .u8 (y.2.1 : Int), .int .u8 (y.2.2 : Int)] ∧ (y.1 < 256 ∧ y.2.1 < 256 ∧ y.2.2 < 256) := by
  obtain ⟨xs, k, _, _, hl, hxl, hel⟩ := DataW.trod_array Try.underlying48 h
  rw [cells3b] at hl
  match cs, hl with
  | [c0, c1, c2], _ =>
    have e0 := hel 0 (by decide)
    have e1 := hel 1 (by decide)
    have e2 := hel 2 (by decide)
    rw [cellsByte] at e0 e1 e2
    simp only [Nat.mul_one, List.drop_zero, List.take_succ_cons, List.take_zero, List.drop_succ_cons] at e0 e1 e2
    rw [List.getElem?_eq_getElem (by omega)] at e0 e1 e2
    obtain ⟨n0, rfl, b0⟩ := byte_of e0
    obtain ⟨n1, rfl, b1⟩ := byte_of e1
    obtain ⟨n2, rfl, b2⟩ := byte_of e2
    exact ⟨(n0, n1, n2), rfl, b0, b1, b2⟩
set_option maxRecDepth 100000 in
theorem five_of (h : DataW.trod enc Try.prog W 0 (fun _ => true) true fuel 51 cs = some x) :
    ∃ y : Nat × Nat × Nat × Nat × Nat, cs = [.int .u8 (y.1 : Int), .int .u8 (y.2.1 : Int), .int .u8 (y.2.2.1 : Int), .int .u8 (y.2.2.2.1 : Int), .int .u8 (y.2.2.2.2 : Int)] ∧ (y.1 < 256 ∧ y.2.1 < 256 ∧ y.2.2.1 < 256 ∧ y.2.2.2.1 < 256 ∧ y.2.2.2.2 < 256) := by
  obtain ⟨xs, k, _, _, hl, hxl, hel⟩ := DataW.trod_array Try.underlying51 h
  rw [cells5b] at hl
  match cs, hl with
  | [c0, c1, c2, c3, c4], _ =>
    have e0 := hel 0 (by decide)
    have e1 := hel 1 (by decide)
    have e2 := hel 2 (by decide)
    have e3 := hel 3 (by decide)
    have e4 := hel 4 (by decide)
    rw [cellsByte] at e0 e1 e2 e3 e4
    simp only [Nat.mul_one, List.drop_zero, List.take_succ_cons, List.take_zero, List.drop_succ_cons] at e0 e1 e2 e3 e4
    rw [List.getElem?_eq_getElem (by omega)] at e0 e1 e2 e3 e4
    obtain ⟨n0, rfl, b0⟩ := byte_of e0
    obtain ⟨n1, rfl, b1⟩ := byte_of e1
    obtain ⟨n2, rfl, b2⟩ := byte_of e2
    obtain ⟨n3, rfl, b3⟩ := byte_of e3
    obtain ⟨n4, rfl, b4⟩ := byte_of e4
    exact ⟨(n0, n1, n2, n3, n4), rfl, b0, b1, b2, b3, b4⟩
end

end Go.Proofs.Ytgpcaofikmdpjaa

namespace Go.Proofs.Ytgpcaofikmdpjaa
open Go.RowKit

/-- t lies in the box g, and u is above w -/
structure Sit (w : World) (g : Nat) (An : Option Addr) (cn : Nat) (Ae : Option Addr) (ce : Nat) (t : Typ) (u : World) : Prop where
  c0 : u.cell? ⟨g, 0, none⟩ = some (.slice An t.nodes.length cn)
  c1 : u.cell? ⟨g, 1, none⟩ = some (.slice Ae t.edges.length ce)
  ty : TyC u An Ae t
  lt : g < u.heap.size
  be : Below w.heap.size w u
theorem Sit.up {w : World} {g : Nat} {An : Option Addr} {cn : Nat} {Ae : Option Addr} {ce : Nat} {t : Typ} {u u' : World} (h : Sit w g An cn Ae ce t u) (hb : Below u.heap.size u u') : Sit w g An cn Ae ce t u' :=
  ⟨(hb.cell (p := ⟨g, 0, none⟩) h.lt).trans h.c0, (hb.cell (p := ⟨g, 1, none⟩) h.lt).trans h.c1, h.ty.up hb, Nat.lt_of_lt_of_le h.lt hb.size, h.be.trans (hb.mono h.be.size)⟩
theorem Sit.draws {w : World} {g : Nat} {An : Option Addr} {cn : Nat} {Ae : Option Addr} {ce : Nat} {t : Typ} {u : World} (h : Sit w g An cn Ae ce t u) (n : Nat) : Sit w g An cn Ae ce t (u.drewN n) := h.up (below_draws (Below.refl _ _) n)
theorem Sit.start {w u : World} {An : Option Addr} {cn : Nat} {Ae : Option Addr} {ce : Nat} {t : Typ} (hb : Below w.heap.size w u) (ht : TyC u An Ae t) :
    Sit w u.heap.size An cn Ae ce t (u.alloc (.cells #[.slice An t.nodes.length cn, .slice Ae t.edges.length ce] 25 (0, 0))) :=
  ⟨by simp, by simp, ht.up ((Below.refl _ _).alloc (Nat.le_refl _) _), by simp, hb.trans (((Below.refl _ _).alloc (Nat.le_refl _) _).mono hb.size)⟩

/-- what is known of a made type graph -/
structure MadeT (t : Typ) : Prop where
  good : GoodP t
  few : FewT t
  pos : 1 ≤ t.nodes.length
  six : t.nodes.length ≤ 6
  five : t.edges.length ≤ 5
  giv : ∀ a b : Nat, a < t.nodes.length → b < t.nodes.length → givenE t a b = 0
theorem madeT_ok (qs rs : List (Nat × Nat)) : MadeT (madeT qs rs) :=
  ⟨made_good qs rs, made_few qs rs, by rw [made_lenN]; exact cntN_ge1 _, by rw [made_lenN]; exact cntN_le6 _, by rw [made_lenE]; exact cntE_le5 _, fun a b ha hb => made_given qs rs (by rw [made_lenN] at ha; exact ha) (by rw [made_lenN] at hb; exact hb)⟩
theorem i64_of {a n : Nat} (h : a < n) (hn : n ≤ 6) : I64 (a : Int) := by constructor <;> omega
theorem is_call {t : Typ} (hp : TC) (hm : MadeT t) {An : Option Addr} {cn : Nat} {Ae : Option Addr} {ce : Nat} (hc : CapT t cn ce) (a b : Nat) (r : Bool) (u : World) (ha : a < t.nodes.length) (hb : b < t.nodes.length) (hr : bel t a b = r) (hT : TyC u An Ae t) :
    Calls Try.prog 15 #[tyval An t.nodes.length cn Ae t.edges.length ce, .int .i64 (a : Int), .int .i64 (b : Int)] u fun e w' => e = .returned (.bool r) ∧ Below u.heap.size u w' := by
  refine (hp.isx t An cn Ae ce a b u hm.few hc (i64_of ha hm.six) (i64_of hb hm.six) hT).mono ?_
  rintro e w' ⟨rfl, hb⟩
  refine ⟨ret_bool ?_, hb⟩
  unfold isS
  rw [hm.giv a b ha (by assumption), hr]; rfl
theorem tmod_nat (a n : Nat) (hn : 1 ≤ n) : ∃ x : Nat, x < n ∧ Int.tmod (a : Int) (n : Int) = (x : Int) :=
  ⟨a % n, Nat.mod_lt _ hn, by rw [Int.tmod_eq_emod_of_nonneg (by omega)]; simp⟩
theorem made_nil (qs : List (Nat × Nat)) (A : Option Addr) (c : Nat) (w : World) (hq : Byt qs) (hT : Twos w w.heap.size A qs) :
    Calls Try.prog 31 #[.slice A qs.length c, .slice none 0 0] w fun e w' => MadePost qs [] e w' ∧ Below w.heap.size w w' :=
  made_any qs [] A none c 0 w hq (byt_of fun q h => by simp at h) hT (.inl rfl)

end Go.Proofs.Ytgpcaofikmdpjaa
