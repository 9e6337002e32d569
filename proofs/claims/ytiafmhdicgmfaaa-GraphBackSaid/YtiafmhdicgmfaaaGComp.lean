/-
  Components as plain data: the classes of the ends, and the rounds of the reference, which come to the same.
-/
import Derived.Test.YtiafmhdicgmfaaaGMath
import Derived.Test.YtiafmhdicgmfaaaPtPlain
namespace Go.Proofs.Ytiafmhdicgmfaaa
open Pt (at_)

def endsL (g : Gr) : List (Nat × Nat) := g.es.map fun x => (x.fr.toNat, x.to.toNat)
theorem endsL_len (g : Gr) : (endsL g).length = g.es.length := by simp [endsL]
theorem endsL_get {g : Gr} {i : Nat} (h : i < g.es.length) : (endsL g)[i]? = some (frN g i, toN g i) := by
  unfold endsL frN toN
  rw [List.getElem?_map, List.getD_eq_getElem?_getD, List.getElem?_eq_getElem h]; rfl
theorem ends_lt {g : Gr} (h : validE g = 0) {i : Nat} (hi : i < g.es.length) : frN g i < g.ns.length ∧ toN g i < g.ns.length := by
  obtain ⟨⟨h1, h2⟩, h3, h4⟩ := valid_at h hi
  unfold frN toN
  omega
theorem ends_inR {g : Gr} (h : validE g = 0) : Pt.inR g.ns.length (endsL g) := by
  intro x hx
  obtain ⟨i, hi, rfl⟩ := List.mem_iff_getElem.1 hx
  rw [endsL_len] at hi
  have := endsL_get hi
  rw [List.getElem?_eq_getElem (by rw [endsL_len]; exact hi)] at this
  injection this with this
  rw [this]
  exact ends_lt h hi
/-- the least node of each node's component -/
def lstS (g : Gr) : List Nat := Pt.genS g.ns.length (endsL g)
theorem lstS_len (g : Gr) : (lstS g).length = g.ns.length := Pt.genS_length _ _
theorem lstS_V {g : Gr} (h : validE g = 0) : Pt.V (lstS g) := Pt.V_gen (ends_inR h)
theorem lst_edge {g : Gr} (h : validE g = 0) {i : Nat} (hi : i < g.es.length) : at_ (lstS g) (frN g i) = at_ (lstS g) (toN g i) :=
  Pt.gen_resp (ends_inR h) (frN g i, toN g i) (List.mem_of_getElem? (endsL_get hi))

def ndsOf (L : List Nat) (n r : Nat) : List Int := coll (fun i => if at_ L i = r then [(i : Int)] else []) n
def edsOf (g : Gr) (L : List Nat) (m r : Nat) : List Int := coll (fun j => if at_ L (frN g j) = r then [(j : Int)] else []) m
def compTo (g : Gr) (L : List Nat) (k : Nat) : List Mo := (Pt.fixsTo L k).map fun r => ⟨ndsOf L g.ns.length r, edsOf g L g.es.length r⟩
def compR (g : Gr) : List Mo := if validE g = 0 then compTo g (lstS g) g.ns.length else []
theorem compTo_len (g : Gr) (L : List Nat) (k : Nat) : (compTo g L k).length = Pt.rank L k := by simp [compTo, Pt.rank]

/-! the rounds of the reference -/
def relax (ls : List Nat) (a b : Nat) : List Nat := (ls.set a (min (at_ ls a) (at_ ls b))).set b (min (at_ ls a) (at_ ls b))
theorem relax_len (ls : List Nat) (a b : Nat) : (relax ls a b).length = ls.length := by simp [relax]
theorem at_set {l : List Nat} {a x i : Nat} (ha : a < l.length) : at_ (l.set a x) i = if i = a then x else at_ l i := by
  unfold at_
  rw [List.getD_eq_getElem?_getD, List.getD_eq_getElem?_getD, List.getElem?_set]
  by_cases h : a = i
  · subst h; rw [if_pos rfl, if_pos rfl, if_pos ha]; rfl
  · rw [if_neg h, if_neg (fun e => h e.symm)]
theorem at_relax {ls : List Nat} {a b i : Nat} (ha : a < ls.length) (hb : b < ls.length) : at_ (relax ls a b) i = if i = a ∨ i = b then min (at_ ls a) (at_ ls b) else at_ ls i := by
  unfold relax
  rw [at_set (by simpa using hb), at_set ha]
  by_cases h1 : i = b
  · rw [if_pos h1, if_pos (.inr h1)]
  · rw [if_neg h1]
    by_cases h2 : i = a
    · rw [if_pos h2, if_pos (.inl h2)]
    · rw [if_neg h2, if_neg (by omega)]
def relTo (g : Gr) (ls : List Nat) : Nat → List Nat
  | 0 => ls
  | j + 1 => relax (relTo g ls j) (frN g j) (toN g j)
theorem relTo_len (g : Gr) (ls : List Nat) (j : Nat) : (relTo g ls j).length = ls.length := by
  induction j with
  | zero => rfl
  | succ j ih => simp only [relTo, relax_len, ih]
def rnd (g : Gr) : Nat → List Nat
  | 0 => List.range g.ns.length
  | r + 1 => relTo g (rnd g r) g.es.length
theorem rnd_len (g : Gr) (r : Nat) : (rnd g r).length = g.ns.length := by
  induction r with
  | zero => simp [rnd]
  | succ r ih => simp only [rnd, relTo_len, ih]

/-- above the least node, in its class -/
def Inv (g : Gr) (ls : List Nat) : Prop := ls.length = g.ns.length ∧ ∀ i, i < g.ns.length → at_ (lstS g) i ≤ at_ ls i ∧ at_ ls i ≤ i ∧ at_ (lstS g) (at_ ls i) = at_ (lstS g) i
theorem inv_range {g : Gr} (h : validE g = 0) : Inv g (List.range g.ns.length) := by
  refine ⟨by simp, fun i hi => ?_⟩
  rw [Pt.at_range hi]
  exact ⟨(lstS_V h).le (by rw [lstS_len]; exact hi), Nat.le_refl _, rfl⟩
theorem inv_relax {g : Gr} {ls : List Nat} (hI : Inv g ls) {a b : Nat} (ha : a < g.ns.length) (hb : b < g.ns.length) (he : at_ (lstS g) a = at_ (lstS g) b) : Inv g (relax ls a b) := by
  obtain ⟨h1, h2⟩ := hI
  refine ⟨by rw [relax_len]; exact h1, fun i hi => ?_⟩
  rw [at_relax (by omega) (by omega)]
  obtain ⟨a1, a2, a3⟩ := h2 a ha
  obtain ⟨b1, b2, b3⟩ := h2 b hb
  by_cases h : i = a ∨ i = b
  · rw [if_pos h]
    rcases Nat.le_total (at_ ls a) (at_ ls b) with hm | hm
    · rw [Nat.min_eq_left hm]
      rcases h with rfl | rfl
      · exact ⟨a1, a2, a3⟩
      · exact ⟨by omega, by omega, by rw [a3, he]⟩
    · rw [Nat.min_eq_right hm]
      rcases h with rfl | rfl
      · exact ⟨by omega, by omega, by rw [b3, he]⟩
      · exact ⟨b1, b2, b3⟩
  · rw [if_neg h]; exact h2 i hi
theorem inv_to {g : Gr} (hv : validE g = 0) {ls : List Nat} (hI : Inv g ls) {j : Nat} (hj : j ≤ g.es.length) : Inv g (relTo g ls j) := by
  induction j with
  | zero => exact hI
  | succ j ih =>
    obtain ⟨h1, h2⟩ := ends_lt hv (i := j) (by omega)
    exact inv_relax (ih (by omega)) h1 h2 (lst_edge hv (by omega))
theorem inv_rnd {g : Gr} (hv : validE g = 0) (r : Nat) : Inv g (rnd g r) := by
  induction r with
  | zero => exact inv_range hv
  | succ r ih => exact inv_to hv ih (Nat.le_refl _)
/-- a node that has come to its least node -/
def Come (g : Gr) (ls : List Nat) (i : Nat) : Prop := at_ ls i = at_ (lstS g) i
theorem come_relax {g : Gr} {ls : List Nat} (hI : Inv g ls) {a b i : Nat} (ha : a < g.ns.length) (hb : b < g.ns.length) (hi : i < g.ns.length) (he : at_ (lstS g) a = at_ (lstS g) b) (h : Come g ls i) : Come g (relax ls a b) i := by
  have h3 := (inv_relax hI ha hb he).2 i hi
  have h4 := (hI.2 i hi)
  unfold Come at h ⊢
  have : at_ (relax ls a b) i ≤ at_ ls i := by
    rw [at_relax (by rw [hI.1]; exact ha) (by rw [hI.1]; exact hb)]
    split
    · rename_i h5
      rcases h5 with rfl | rfl <;> omega
    · exact Nat.le_refl _
  omega
theorem come_both {g : Gr} {ls : List Nat} (hI : Inv g ls) {a b : Nat} (ha : a < g.ns.length) (hb : b < g.ns.length) (he : at_ (lstS g) a = at_ (lstS g) b) (h : Come g ls a ∨ Come g ls b) : Come g (relax ls a b) a ∧ Come g (relax ls a b) b := by
  obtain ⟨a1, _, _⟩ := hI.2 a ha
  obtain ⟨b1, _, _⟩ := hI.2 b hb
  unfold Come at h ⊢
  rw [at_relax (by rw [hI.1]; exact ha) (by rw [hI.1]; exact hb), at_relax (by rw [hI.1]; exact ha) (by rw [hI.1]; exact hb), if_pos (.inl rfl), if_pos (.inr rfl)]
  rcases h with h | h <;> omega
theorem come_to {g : Gr} (hv : validE g = 0) {ls : List Nat} (hI : Inv g ls) {i : Nat} (hi : i < g.ns.length) (h : Come g ls i) {j : Nat} (hj : j ≤ g.es.length) : Come g (relTo g ls j) i := by
  induction j with
  | zero => exact h
  | succ j ih =>
    obtain ⟨h1, h2⟩ := ends_lt hv (i := j) (by omega)
    exact come_relax (inv_to hv hI (by omega)) h1 h2 hi (lst_edge hv (by omega)) (ih (by omega))
theorem come_edge {g : Gr} (hv : validE g = 0) {ls : List Nat} (hI : Inv g ls) {k : Nat} (hk : k < g.es.length) (h : Come g ls (frN g k) ∨ Come g ls (toN g k)) {j : Nat} (hj : j ≤ g.es.length) (hkj : k < j) : Come g (relTo g ls j) (frN g k) ∧ Come g (relTo g ls j) (toN g k) := by
  induction j with
  | zero => omega
  | succ j ih =>
    obtain ⟨h1, h2⟩ := ends_lt hv (i := j) (by omega)
    obtain ⟨k1, k2⟩ := ends_lt hv hk
    have hI' := inv_to hv hI (j := j) (by omega)
    by_cases e : k = j
    · subst e
      exact come_both hI' h1 h2 (lst_edge hv hk) (h.imp (fun h => come_to hv hI k1 h (by omega)) (fun h => come_to hv hI k2 h (by omega)))
    · obtain ⟨h3, h4⟩ := ih (by omega) (by omega)
      exact ⟨come_relax hI' h1 h2 k1 (lst_edge hv (by omega)) h3, come_relax hI' h1 h2 k2 (lst_edge hv (by omega)) h4⟩
/-- how many have come -/
def cntC (p : Nat → Bool) : Nat → Nat
  | 0 => 0
  | n + 1 => cntC p n + if p n then 1 else 0
theorem cntC_le (p : Nat → Bool) (n : Nat) : cntC p n ≤ n := by
  induction n with
  | zero => exact Nat.le_refl _
  | succ n ih => simp only [cntC]; split <;> omega
theorem cntC_all {p : Nat → Bool} {n : Nat} (h : n ≤ cntC p n) : ∀ i, i < n → p i = true := by
  induction n with
  | zero => intro i hi; omega
  | succ n ih =>
    simp only [cntC] at h
    have := cntC_le p n
    intro i hi
    split at h
    · rename_i hp
      by_cases e : i = n
      · subst e; exact hp
      · exact ih (by omega) i (by omega)
    · omega
theorem cntC_mono {p q : Nat → Bool} {n : Nat} (h : ∀ i, i < n → p i = true → q i = true) : cntC p n ≤ cntC q n := by
  induction n with
  | zero => exact Nat.le_refl _
  | succ n ih =>
    simp only [cntC]
    have h1 := ih fun i hi => h i (by omega)
    have h2 := h n (by omega)
    by_cases hp : p n = true
    · rw [if_pos hp, if_pos (h2 hp)]; omega
    · rw [if_neg hp]; omega
theorem cntC_less {p q : Nat → Bool} {n i : Nat} (hi : i < n) (h : ∀ i, i < n → p i = true → q i = true) (hp : p i = false) (hq : q i = true) : cntC p n < cntC q n := by
  induction n with
  | zero => omega
  | succ n ih =>
    simp only [cntC]
    by_cases e : i = n
    · subst e
      have := cntC_mono (n := i) fun j hj => h j (by omega)
      rw [if_pos hq, if_neg (by rw [hp]; simp)]; omega
    · have h1 := ih (by omega) fun j hj => h j (by omega)
      have h2 := h n (by omega)
      by_cases hp2 : p n = true
      · rw [if_pos hp2, if_pos (h2 hp2)]; omega
      · rw [if_neg hp2]; omega
theorem come_cross {g : Gr} (hv : validE g = 0) {ls : List Nat} (hI : Inv g ls) {i : Nat} (hi : i < g.ns.length) (hn : ¬ Come g ls i) : ∃ k, k < g.es.length ∧ (Come g ls (frN g k) ∧ ¬ Come g ls (toN g k) ∨ Come g ls (toN g k) ∧ ¬ Come g ls (frN g k)) := by
  apply Classical.byContradiction
  intro hc
  have hall : ∀ k, k < g.es.length → (Come g ls (frN g k) ↔ Come g ls (toN g k)) := fun k hk => by
    constructor
    · exact fun h => Classical.byContradiction fun h2 => hc ⟨k, hk, .inl ⟨h, h2⟩⟩
    · exact fun h => Classical.byContradiction fun h2 => hc ⟨k, hk, .inr ⟨h, h2⟩⟩
  let q : List Nat := (List.range g.ns.length).map fun i => if at_ ls i = at_ (lstS g) i then 1 else 0
  have hq : ∀ j, j < g.ns.length → at_ q j = if at_ ls j = at_ (lstS g) j then 1 else 0 := fun j hj => by
    show at_ ((List.range g.ns.length).map _) j = _
    rw [Pt.at_map (by simpa using hj), Pt.at_range hj]
  have hr : Pt.Resp q (endsL g) := by
    intro x hx
    obtain ⟨k, hk, rfl⟩ := List.mem_iff_getElem.1 hx
    rw [endsL_len] at hk
    have e := endsL_get hk
    rw [List.getElem?_eq_getElem (by rw [endsL_len]; exact hk)] at e
    injection e with e
    rw [e]
    obtain ⟨h1, h2⟩ := ends_lt hv hk
    show at_ q (frN g k) = at_ q (toN g k)
    rw [hq _ h1, hq _ h2]
    have := hall k hk
    unfold Come at this
    by_cases h3 : at_ ls (frN g k) = at_ (lstS g) (frN g k)
    · rw [if_pos h3, if_pos (this.1 h3)]
    · rw [if_neg h3, if_neg (fun h4 => h3 (this.2 h4))]
  have hF := Pt.gen_least (ends_inR hv) hr i (by rw [Pt.genS_length]; exact hi)
  have hroot : at_ (lstS g) i < g.ns.length := by have := (lstS_V hv).lt (i := i) (by rw [lstS_len]; exact hi); rwa [lstS_len] at this
  change at_ q (at_ (lstS g) i) = at_ q i at hF
  rw [hq _ hroot, hq _ hi] at hF
  have hid := (lstS_V hv).idem (i := i) (by rw [lstS_len]; exact hi)
  obtain ⟨r1, r2, _⟩ := hI.2 _ hroot
  rw [hid] at r1
  rw [if_pos (by rw [hid]; omega), if_neg (show ¬ at_ ls i = at_ (lstS g) i from hn)] at hF
  omega
theorem rnd_cnt {g : Gr} (hv : validE g = 0) (r : Nat) : min r g.ns.length ≤ cntC (fun i => decide (at_ (rnd g r) i = at_ (lstS g) i)) g.ns.length := by
  induction r with
  | zero => simp
  | succ r ih =>
    have hmono : ∀ i, i < g.ns.length → decide (at_ (rnd g r) i = at_ (lstS g) i) = true → decide (at_ (rnd g (r + 1)) i = at_ (lstS g) i) = true := fun i hi h => by
      rw [decide_eq_true_eq] at h ⊢
      exact come_to hv (inv_rnd hv r) hi h (Nat.le_refl _)
    by_cases hall : g.ns.length ≤ cntC (fun i => decide (at_ (rnd g r) i = at_ (lstS g) i)) g.ns.length
    · have := cntC_mono hmono
      omega
    · obtain ⟨i, hi, hn⟩ : ∃ i, i < g.ns.length ∧ ¬ Come g (rnd g r) i := Classical.byContradiction fun hc => hall (by
        have : ∀ i, i < g.ns.length → (fun _ : Nat => true) i = true → decide (at_ (rnd g r) i = at_ (lstS g) i) = true := fun i hi _ => by
          rw [decide_eq_true_eq]
          exact Classical.byContradiction fun h => hc ⟨i, hi, h⟩
        have h2 := cntC_mono this
        have h3 : ∀ n, cntC (fun _ : Nat => true) n = n := fun n => by
          induction n with
          | zero => rfl
          | succ n ih => simp only [cntC, ih]; rfl
        rw [h3] at h2
        exact h2)
      obtain ⟨k, hk, h⟩ := come_cross hv (inv_rnd hv r) hi hn
      obtain ⟨k1, k2⟩ := ends_lt hv hk
      have hb := come_edge hv (inv_rnd hv r) hk (h.imp (fun h => h.1) (fun h => h.1)) (Nat.le_refl _) hk
      have hlt : cntC (fun i => decide (at_ (rnd g r) i = at_ (lstS g) i)) g.ns.length < cntC (fun i => decide (at_ (rnd g (r + 1)) i = at_ (lstS g) i)) g.ns.length := by
        rcases h with h | h
        · exact cntC_less k2 hmono (decide_eq_false h.2) (decide_eq_true hb.2)
        · exact cntC_less k1 hmono (decide_eq_false h.2) (decide_eq_true hb.1)
      omega
theorem rnd_all {g : Gr} (hv : validE g = 0) : rnd g g.ns.length = lstS g := by
  apply Pt.ext_at (by rw [rnd_len, lstS_len])
  intro i hi
  rw [rnd_len] at hi
  have := rnd_cnt hv g.ns.length
  rw [Nat.min_self] at this
  simpa using cntC_all this i hi

end Go.Proofs.Ytiafmhdicgmfaaa
