/-
  Reordering as plain data: permutations, what lands where, and back.
-/
import Derived.Test.YtiafmhdicgmfaaaGPlU
namespace Go.Proofs.Ytiafmhdicgmfaaa

def PermN (l : List Int) (n : Nat) : Prop := l.Perm (numS (0 : Nat) n)
theorem PermN.len {l : List Int} {n : Nat} (h : PermN l n) : l.length = n := by rw [List.Perm.length_eq h, num_length]
theorem getD_eq {l : List Int} {i : Nat} (h : i < l.length) : l.getD i 0 = l[i] := by rw [List.getD_eq_getElem?_getD, List.getElem?_eq_getElem h]; rfl
theorem PermN.at {l : List Int} {n i : Nat} (h : PermN l n) (hi : i < n) : 0 ≤ l.getD i 0 ∧ l.getD i 0 < n := by
  have hl := h.len
  have := (List.Perm.mem_iff h).1 (getD_mem (d := (0 : Int)) (show i < l.length by omega))
  have := num_mem.1 this
  omega
theorem num_nodup (a n : Nat) : (numS a n).Nodup := by
  unfold numS
  show List.Pairwise (· ≠ ·) _
  induction n with
  | zero => exact List.Pairwise.nil
  | succ n ih =>
    simp only [coll]
    rw [List.pairwise_append]
    refine ⟨ih, by simp, fun x hx y hy => ?_⟩
    obtain ⟨i, hi, hx⟩ := coll_mem.1 hx
    rw [List.mem_singleton] at hx hy
    omega
theorem PermN.nodup {l : List Int} {n : Nat} (h : PermN l n) : l.Nodup := (List.Perm.nodup_iff h).2 (num_nodup 0 n)
theorem PermN.inj {l : List Int} {n i j : Nat} (h : PermN l n) (hi : i < n) (hj : j < n) (e : l.getD i 0 = l.getD j 0) : i = j := by
  have hl := h.len
  rw [getD_eq (by omega), getD_eq (by omega)] at e
  have hp := List.pairwise_iff_getElem.1 h.nodup
  rcases Nat.lt_trichotomy i j with hlt | he | hlt
  · exact absurd e (hp i j (by omega) (by omega) hlt)
  · exact he
  · exact absurd e.symm (hp j i (by omega) (by omega) hlt)
theorem PermN.surj {l : List Int} {n v : Nat} (h : PermN l n) (hv : v < n) : ∃ i, i < n ∧ l.getD i 0 = v := by
  have hl := h.len
  have hm : (v : Int) ∈ l := (List.Perm.mem_iff h).2 (num_mem.2 (by omega))
  obtain ⟨i, hi, e⟩ := List.mem_iff_getElem.1 hm
  exact ⟨i, by omega, by rw [getD_eq hi]; exact e⟩

/-! what lands where -/
section
variable {β : Type}
def scat (p : List Int) (f : Nat → β) (z : β) (n : Nat) : Nat → List β
  | 0 => List.replicate n z
  | k + 1 => (scat p f z n k).set (p.getD k 0).toNat (f k)
theorem scat_len (p : List Int) (f : Nat → β) (z : β) (n k : Nat) : (scat p f z n k).length = n := by
  induction k with
  | zero => simp [scat]
  | succ k ih => simp [scat, ih]
theorem scat_at {p : List Int} {n : Nat} (hp : PermN p n) (f : Nat → β) (z : β) {k i : Nat} (hk : k ≤ n) (hi : i < k) : (scat p f z n k)[(p.getD i 0).toNat]? = some (f i) := by
  induction k with
  | zero => omega
  | succ k ih =>
    simp only [scat]
    have hki := hp.at (i := k) (by omega)
    have hii := hp.at (i := i) (by omega)
    by_cases e : i = k
    · subst e
      rw [List.getElem?_set_self (by rw [scat_len]; omega)]
    · have hne : (p.getD k 0).toNat ≠ (p.getD i 0).toNat := fun h => e (hp.inj (i := i) (j := k) (by omega) (by omega) (by omega))
      rw [List.getElem?_set_ne hne]
      exact ih (by omega) (by omega)
theorem scat_getD {p : List Int} {n : Nat} (hp : PermN p n) (f : Nat → β) (z d : β) {i : Nat} (hi : i < n) : (scat p f z n n).getD (p.getD i 0).toNat d = f i := by
  rw [List.getD_eq_getElem?_getD, scat_at hp f z (Nat.le_refl _) hi]; rfl
theorem scat_perm {p : List Int} {n : Nat} (hp : PermN p n) (f : Nat → β) (z : β) : (scat p f z n n).Perm ((List.range n).map f) := by
  have hl := hp.len
  have h1 : p.map (fun x => (scat p f z n n).getD x.toNat z) = (List.range n).map f := by
    apply List.ext_getElem (by simp [hl])
    intro i h1 h2
    simp only [List.length_map, List.length_range] at h2
    rw [List.getElem_map, List.getElem_map, List.getElem_range, ← getD_eq (by omega)]
    exact scat_getD hp f z z h2
  have h2 : (numS (0 : Nat) n).map (fun x => (scat p f z n n).getD x.toNat z) = scat p f z n n := by
    apply List.ext_getElem (by simp [num_length, scat_len])
    intro i h1 h2
    rw [scat_len] at h2
    rw [List.getElem_map, ← getD_eq (by rw [num_length]; exact h2), num_get h2]
    have e : (((0 : Nat) : Int) + (i : Int)).toNat = i := by omega
    rw [e, List.getD_eq_getElem?_getD, List.getElem?_eq_getElem (by rw [scat_len]; exact h2)]
    rfl
  have h3 := List.Perm.map (fun x => (scat p f z n n).getD x.toNat z) hp
  rw [h1, h2] at h3
  exact h3.symm
end

def mvE (p : List Int) (x : Ed) : Ed := ⟨x.ty, p.getD x.fr.toNat 0, p.getD x.to.toNat 0⟩
def reoN (g : Gr) (m : Mo) (k : Nat) : List Int := scat m.ns (fun i => g.ns.getD i 0) 0 g.ns.length k
def reoE (g : Gr) (m : Mo) (k : Nat) : List Ed := scat m.es (fun j => mvE m.ns (g.es.getD j default)) default g.es.length k
def reoG (g : Gr) (m : Mo) : Gr := ⟨reoN g m g.ns.length, reoE g m g.es.length⟩
def bkL (p : List Int) (n k : Nat) : List Int := scat p (fun i => (i : Int)) 0 n k
theorem bk_perm {p : List Int} {n : Nat} (hp : PermN p n) : PermN (bkL p n n) n := by
  have h := scat_perm hp (fun i : Nat => (i : Int)) 0
  have e : (List.range n).map (fun i : Nat => (i : Int)) = numS (0 : Nat) n := by
    apply List.ext_getElem (by simp [num_length])
    intro i h1 h2
    rw [num_length] at h2
    rw [List.getElem_map, List.getElem_range, ← getD_eq (by rw [num_length]; exact h2), num_get h2]
    omega
  rw [e] at h
  exact h
theorem range_getD {β : Type} (l : List β) (d : β) : (List.range l.length).map (fun i => l.getD i d) = l := by
  apply List.ext_getElem (by simp)
  intro i h1 h2
  rw [List.getElem_map, List.getElem_range, List.getD_eq_getElem?_getD, List.getElem?_eq_getElem h2]; rfl
theorem reo_lens (g : Gr) (m : Mo) : (reoG g m).ns.length = g.ns.length ∧ (reoG g m).es.length = g.es.length := ⟨scat_len _ _ _ _ _, scat_len _ _ _ _ _⟩
theorem reo_ns {g : Gr} {m : Mo} (h1 : PermN m.ns g.ns.length) : (reoG g m).ns.Perm g.ns := by
  have := scat_perm h1 (fun i => g.ns.getD i 0) 0
  rw [range_getD] at this
  exact this
theorem reo_es {g : Gr} {m : Mo} (h2 : PermN m.es g.es.length) : (reoG g m).es.Perm (g.es.map (mvE m.ns)) := by
  have := scat_perm h2 (fun j => mvE m.ns (g.es.getD j default)) default
  have e : (List.range g.es.length).map (fun j => mvE m.ns (g.es.getD j default)) = g.es.map (mvE m.ns) := by
    have := congrArg (List.map (mvE m.ns)) (range_getD g.es default)
    rw [List.map_map] at this
    exact this
  rw [e] at this
  exact this
theorem reo_valid {g : Gr} {m : Mo} (hv : validE g = 0) (h1 : PermN m.ns g.ns.length) (h2 : PermN m.es g.es.length) : validE (reoG g m) = 0 := by
  obtain ⟨l1, l2⟩ := reo_lens g m
  obtain ⟨v1, v2, v3, v4⟩ := valid_zero hv
  apply valid_ok (by omega) (by omega)
  · intro i hi
    exact idxB_iff.2 (v3 _ ((reo_ns h1).mem_iff.1 (getD_mem hi)))
  · intro i hi
    have hm := (reo_es h2).mem_iff.1 (getD_mem (d := default) hi)
    obtain ⟨x, hx, e⟩ := List.mem_map.1 hm
    rw [← e, l1]
    have hx2 := edB_iff.1 (v4 x hx)
    have a1 := h1.at (i := x.fr.toNat) (by omega)
    have a2 := h1.at (i := x.to.toNat) (by omega)
    apply edB_iff.2
    unfold mvE
    dsimp only
    omega
theorem ins_count (g : Gr) (v : Int) (k : Nat) (hk : k ≤ g.es.length) : (insS g v k).length = (g.es.take k).countP (fun x => decide (x.to = v)) := by
  induction k with
  | zero => rfl
  | succ k ih =>
    have e : insS g v (k + 1) = insS g v k ++ (if (g.es.getD k default).to = v then [(k : Int)] else []) := rfl
    rw [e, List.length_append, ih (by omega), List.take_add_one, List.getElem?_eq_getElem (by omega), List.countP_append]
    congr 1
    rw [List.getD_eq_getElem?_getD, List.getElem?_eq_getElem (by omega)]
    simp only [Option.getD_some, Option.toList, List.countP_cons, List.countP_nil]
    by_cases h : (g.es[k]).to = v
    · simp [h]
    · simp [h]
theorem outs_count (g : Gr) (v : Int) (k : Nat) (hk : k ≤ g.es.length) : (outsS g v k).length = (g.es.take k).countP (fun x => decide (x.fr = v)) := by
  induction k with
  | zero => rfl
  | succ k ih =>
    have e : outsS g v (k + 1) = outsS g v k ++ (if (g.es.getD k default).fr = v then [(k : Int)] else []) := rfl
    rw [e, List.length_append, ih (by omega), List.take_add_one, List.getElem?_eq_getElem (by omega), List.countP_append]
    congr 1
    rw [List.getD_eq_getElem?_getD, List.getElem?_eq_getElem (by omega)]
    simp only [Option.getD_some, Option.toList, List.countP_cons, List.countP_nil]
    by_cases h : (g.es[k]).fr = v
    · simp [h]
    · simp [h]
/-- the edges of a node keep their number -/
theorem reo_inc {g : Gr} {m : Mo} (hv : validE g = 0) (h1 : PermN m.ns g.ns.length) (h2 : PermN m.es g.es.length) {i : Nat} (hi : i < g.ns.length) :
    incE g i = 0 ∧ incE (reoG g m) (m.ns.getD i 0) = 0 ∧ (incI g i).length = (incI (reoG g m) (m.ns.getD i 0)).length ∧ (incO g i).length = (incO (reoG g m) (m.ns.getD i 0)).length := by
  obtain ⟨l1, l2⟩ := reo_lens g m
  have hp := h1.at hi
  have e1 : incE g i = 0 := by
    unfold incE
    rw [hv, if_neg (by simp), if_neg]
    rw [idxB_iff.2 (by omega)]; simp
  have e2 : incE (reoG g m) (m.ns.getD i 0) = 0 := by
    unfold incE
    rw [reo_valid hv h1 h2, if_neg (by simp), if_neg]
    rw [idxB_iff.2 (by rw [l1]; exact hp)]; simp
  have key : ∀ (q : Ed → Int), (∀ x ∈ g.es, 0 ≤ q x ∧ q x < g.ns.length) → (∀ x, q (mvE m.ns x) = m.ns.getD (q x).toNat 0) → g.es.countP (fun x => decide (q x = (i : Int))) = (reoG g m).es.countP (fun x => decide (q x = m.ns.getD i 0)) := fun q hq hq2 => by
    rw [(reo_es h2).countP_eq, List.countP_map]
    apply List.countP_congr
    intro x hx
    have hr := hq x hx
    simp only [Function.comp, hq2, decide_eq_true_eq]
    constructor
    · intro e; rw [e, Int.toNat_natCast]
    · intro e
      have := h1.inj (i := (q x).toNat) (j := i) (by omega) hi e
      omega
  have hed : ∀ x ∈ g.es, (0 ≤ x.fr ∧ x.fr < g.ns.length) ∧ (0 ≤ x.to ∧ x.to < g.ns.length) := fun x hx => (edB_iff.1 ((valid_zero hv).2.2.2 x hx)).2
  refine ⟨e1, e2, ?_, ?_⟩
  · unfold incI
    rw [if_pos e1, if_pos e2, ins_count _ _ _ (Nat.le_refl _), ins_count _ _ _ (Nat.le_refl _), List.take_length, List.take_length]
    exact key (·.to) (fun x hx => (hed x hx).2) (fun x => rfl)
  · unfold incO
    rw [if_pos e1, if_pos e2, outs_count _ _ _ (Nat.le_refl _), outs_count _ _ _ (Nat.le_refl _), List.take_length, List.take_length]
    exact key (·.fr) (fun x hx => (hed x hx).1) (fun x => rfl)
/-- there and back -/
theorem reo_back {g : Gr} {m : Mo} (hv : validE g = 0) (h1 : PermN m.ns g.ns.length) (h2 : PermN m.es g.es.length) :
    reoG (reoG g m) ⟨bkL m.ns g.ns.length g.ns.length, bkL m.es g.es.length g.es.length⟩ = g := by
  obtain ⟨l1, l2⟩ := reo_lens g m
  have b1 := bk_perm h1
  have b2 := bk_perm h2
  have g1 : ∀ i, i < g.ns.length → (bkL m.ns g.ns.length g.ns.length).getD (m.ns.getD i 0).toNat 0 = (i : Int) := fun i hi => scat_getD h1 (fun i => (i : Int)) 0 0 hi
  have g2 : ∀ i, i < g.es.length → (bkL m.es g.es.length g.es.length).getD (m.es.getD i 0).toNat 0 = (i : Int) := fun i hi => scat_getD h2 (fun i => (i : Int)) 0 0 hi
  have en : reoN (reoG g m) ⟨bkL m.ns g.ns.length g.ns.length, bkL m.es g.es.length g.es.length⟩ (reoG g m).ns.length = g.ns := by
    unfold reoN
    rw [l1]
    apply List.ext_getElem?
    intro i
    by_cases hi : i < g.ns.length
    · have hp := h1.at hi
      have := scat_at b1 (fun i => (reoG g m).ns.getD i 0) 0 (Nat.le_refl _) (i := (m.ns.getD i 0).toNat) (by omega)
      rw [g1 i hi, Int.toNat_natCast] at this
      rw [this]
      have e : (reoG g m).ns.getD (m.ns.getD i 0).toNat 0 = g.ns.getD i 0 := scat_getD h1 (fun i => g.ns.getD i 0) 0 0 hi
      rw [e, List.getD_eq_getElem?_getD, List.getElem?_eq_getElem hi]; rfl
    · rw [List.getElem?_eq_none (by rw [scat_len]; omega), List.getElem?_eq_none (by omega)]
  have ee : reoE (reoG g m) ⟨bkL m.ns g.ns.length g.ns.length, bkL m.es g.es.length g.es.length⟩ (reoG g m).es.length = g.es := by
    unfold reoE
    rw [l2]
    apply List.ext_getElem?
    intro i
    by_cases hi : i < g.es.length
    · have hp := h2.at hi
      have := scat_at b2 (fun j => mvE (bkL m.ns g.ns.length g.ns.length) ((reoG g m).es.getD j default)) default (Nat.le_refl _) (i := (m.es.getD i 0).toNat) (by omega)
      rw [g2 i hi, Int.toNat_natCast] at this
      rw [this]
      have e : (reoG g m).es.getD (m.es.getD i 0).toNat default = mvE m.ns (g.es.getD i default) := scat_getD h2 (fun j => mvE m.ns (g.es.getD j default)) default default hi
      rw [e]
      obtain ⟨⟨f1, f2⟩, f3, f4⟩ := valid_at hv hi
      have hge : g.es[i]? = some (g.es.getD i default) := by rw [List.getD_eq_getElem?_getD, List.getElem?_eq_getElem hi]; rfl
      rw [hge]
      generalize g.es.getD i default = x at *
      obtain ⟨ty, fr, tt⟩ := x
      simp only [mvE] at *
      have k1 := g1 fr.toNat (by omega)
      have k2 := g1 tt.toNat (by omega)
      rw [k1, k2]
      congr 1
      simp only [Ed.mk.injEq, true_and]
      omega
    · rw [List.getElem?_eq_none (by rw [scat_len]; omega), List.getElem?_eq_none (by omega)]
  unfold reoG at *
  simp only at *
  rw [en, ee]

/-! a step of the shuffle -/
theorem swp_perm {l : List Int} {i k : Nat} (hi : i < l.length) (hk : k < l.length) : ((l.set i (l.getD k 0)).set k (l.getD i 0)).Perm l := by
  rw [List.perm_iff_count]
  intro x
  rw [getD_eq hi, getD_eq hk]
  rw [List.count_set (by simpa using hk), List.count_set hi]
  by_cases e : i = k
  · subst e
    rw [List.getElem_set_self]
    have hc : (if (l[i] == x) = true then 1 else 0) ≤ l.count x := by
      split
      · rename_i h
        rw [beq_iff_eq] at h
        exact List.count_pos_iff.2 (h ▸ List.getElem_mem hi)
      · omega
    omega
  · rw [List.getElem_set_ne e]
    have hc1 : (if (l[i] == x) = true then 1 else 0) ≤ l.count x := by
      split
      · rename_i h
        rw [beq_iff_eq] at h
        exact List.count_pos_iff.2 (h ▸ List.getElem_mem hi)
      · omega
    omega
theorem perm_swp {l : List Int} {n i k : Nat} (h : PermN l n) (hi : i < n) (hk : k < n) : PermN ((l.set i (l.getD k 0)).set k (l.getD i 0)) n := (swp_perm (by rw [h.len]; exact hi) (by rw [h.len]; exact hk)).trans h

end Go.Proofs.Ytiafmhdicgmfaaa
