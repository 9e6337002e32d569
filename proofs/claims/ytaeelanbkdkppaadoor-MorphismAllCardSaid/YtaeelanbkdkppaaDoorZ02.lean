import Derived.Test.YtaeelanbkdkppaaDoorZ01
/-
  Unions as plain data: without one side, and their components.
-/
namespace Go.Proofs.YtaeelanbkdkppaaDoor
open Pt (at_)

theorem num_mem {a n : Nat} {x : Int} : x ∈ numS a n ↔ (a : Int) ≤ x ∧ x < (a : Int) + n := by
  unfold numS
  rw [coll_mem]
  constructor
  · rintro ⟨i, hi, hx⟩
    rw [List.mem_singleton] at hx
    omega
  · rintro ⟨h1, h2⟩
    exact ⟨(x - a).toNat, by omega, by rw [List.mem_singleton]; omega⟩
theorem num_get {a : Int} {n i : Nat} (h : i < n) : (numS a n).getD i 0 = a + i := coll_getD _ h _
theorem num_length (a : Int) (n : Nat) : (numS a n).length = n := coll_len _ _
theorem num_asc {a n m : Nat} (h : a + n ≤ m) : ascE (numS a n) m = 0 := by
  apply asc_mk
  · intro x hx
    have := num_mem.1 hx
    omega
  · intro i hi
    rw [num_length] at hi
    rw [num_get (by omega), num_get (by omega)]
    omega
theorem plc_low {a n i : Nat} (h : i < a) : plc (numS a n) i = i := by
  rw [plc_out (fun hm => by have := num_mem.1 hm; omega), cnt_none (fun x hx => by have := num_mem.1 hx; omega)]
  omega
theorem plc_high {n i : Nat} (h : n ≤ i) : plc (numS (0 : Nat) n) i = (i : Int) - n := by
  rw [plc_out (fun hm => by have := num_mem.1 hm; omega)]
  have e : cntL (numS (0 : Nat) n) i = n := by
    unfold cntL
    rw [List.countP_eq_length.2 (fun x hx => by have := num_mem.1 hx; rw [decide_eq_true_eq]; omega), num_length]
  rw [e]

def uni (a b : Gr) : Gr := ⟨a.ns ++ b.ns, a.es ++ b.es.map (shE a.ns.length)⟩
theorem uniG_ok {a b : Gr} (h : uniE a b = 0) : uniG a b = uni a b := if_pos h
theorem uni_ns {a b : Gr} {i : Nat} : (uni a b).ns.getD i 0 = if i < a.ns.length then a.ns.getD i 0 else b.ns.getD (i - a.ns.length) 0 := by
  unfold uni
  split
  · rename_i h; rw [List.getD_eq_getElem?_getD, List.getElem?_append_left h, ← List.getD_eq_getElem?_getD]
  · rename_i h; rw [List.getD_eq_getElem?_getD, List.getElem?_append_right (by omega), ← List.getD_eq_getElem?_getD]
theorem uni_esL {a b : Gr} {i : Nat} (h : i < a.es.length) : (uni a b).es.getD i default = a.es.getD i default := by
  unfold uni
  rw [List.getD_eq_getElem?_getD, List.getElem?_append_left h, ← List.getD_eq_getElem?_getD]
theorem uni_esR {a b : Gr} {i : Nat} (h : i < b.es.length) : (uni a b).es.getD (a.es.length + i) default = shE a.ns.length (b.es.getD i default) := by
  unfold uni
  rw [List.getD_eq_getElem?_getD, List.getElem?_append_right (by omega), Nat.add_sub_cancel_left, List.getElem?_map, List.getD_eq_getElem?_getD, List.getElem?_eq_getElem h]
  rfl
theorem uni_lens (a b : Gr) : (uni a b).ns.length = a.ns.length + b.ns.length ∧ (uni a b).es.length = a.es.length + b.es.length := by simp [uni]
theorem uni_valid {a b : Gr} (h : uniE a b = 0) : validE (uni a b) = 0 := by
  obtain ⟨h1, h2, h3, h4⟩ := uni_zero h
  obtain ⟨l1, l2⟩ := uni_lens a b
  apply valid_ok (by omega) (by omega)
  · intro i hi
    rw [uni_ns]
    split
    · rename_i h; exact idxB_iff.2 ((valid_zero h1).2.2.1 _ (getD_mem h))
    · rename_i h; exact idxB_iff.2 ((valid_zero h2).2.2.1 _ (getD_mem (by omega)))
  · intro i hi
    rw [l1]
    by_cases hl : i < a.es.length
    · rw [uni_esL hl]
      have := edB_iff.1 ((valid_zero h1).2.2.2 (a.es.getD i default) (getD_mem hl))
      apply edB_iff.2
      omega
    · obtain ⟨k, rfl⟩ : ∃ k, i = a.es.length + k := ⟨i - a.es.length, by omega⟩
      rw [uni_esR (by omega)]
      have := edB_iff.1 ((valid_zero h2).2.2.2 (b.es.getD k default) (getD_mem (by omega)))
      apply edB_iff.2
      simp only [shE]
      omega
/-- the union without the first graph -/
theorem rem_first {a b : Gr} (h : uniE a b = 0) : remE (uni a b) (numS (0 : Nat) a.ns.length) (numS (0 : Nat) a.es.length) = 0 ∧ remG (uni a b) (numS (0 : Nat) a.ns.length) (numS (0 : Nat) a.es.length) = b := by
  obtain ⟨h1, h2, h3, h4⟩ := uni_zero h
  obtain ⟨l1, l2⟩ := uni_lens a b
  have hE : remE (uni a b) (numS (0 : Nat) a.ns.length) (numS (0 : Nat) a.es.length) = 0 := by
    unfold remE
    rw [uni_valid h, num_asc (by omega), num_asc (by omega)]
    simp only [ne_eq, not_true_eq_false, if_false]
    apply fstN_all
    intro i _ hi
    unfold dangAt dangB
    by_cases hl : i < a.es.length
    · rw [decide_eq_true (num_mem.2 (by omega))]; rfl
    · obtain ⟨k, rfl⟩ : ∃ k, i = a.es.length + k := ⟨i - a.es.length, by omega⟩
      rw [uni_esR (by omega)]
      obtain ⟨⟨f1, f2⟩, f3, f4⟩ := valid_at h2 (i := k) (by omega)
      rw [decide_eq_false (p := (shE a.ns.length (b.es.getD k default)).fr ∈ _) (fun hm => by have := num_mem.1 hm; simp only [shE] at this; omega), decide_eq_false (p := (shE a.ns.length (b.es.getD k default)).tq ∈ _) (fun hm => by have := num_mem.1 hm; simp only [shE] at this; omega)]
      simp
  refine ⟨hE, ?_⟩
  unfold remG
  rw [if_pos hE, l1, l2]
  have e1 : remNs (uni a b) (numS (0 : Nat) a.ns.length) (a.ns.length + b.ns.length) = b.ns := by
    unfold remNs
    rw [coll_add, coll_nil _ (fun i hi => if_pos (num_mem.2 (by omega))), List.nil_append]
    refine Eq.trans (coll_ext (fun i hi => ?_)) (coll_self b.ns 0)
    show (if ((a.ns.length + i : Nat) : Int) ∈ numS (0 : Nat) a.ns.length then [] else [(uni a b).ns.getD (a.ns.length + i) 0]) = [b.ns.getD i 0]
    rw [if_neg (fun hm => by have := num_mem.1 hm; omega), uni_ns, if_neg (by omega), Nat.add_sub_cancel_left]
  have e2 : remEs (uni a b) (numS (0 : Nat) a.ns.length) (numS (0 : Nat) a.es.length) (a.es.length + b.es.length) = b.es := by
    unfold remEs
    rw [coll_add, coll_nil _ (fun i hi => if_pos (num_mem.2 (by omega))), List.nil_append]
    refine Eq.trans (coll_ext (fun i hi => ?_)) (coll_self b.es default)
    show (if ((a.es.length + i : Nat) : Int) ∈ numS (0 : Nat) a.es.length then [] else [mvd (uni a b) (numS (0 : Nat) a.ns.length) (a.es.length + i)]) = [b.es.getD i default]
    rw [if_neg (fun hm => by have := num_mem.1 hm; omega)]
    unfold mvd frN toN
    rw [uni_esR hi]
    obtain ⟨⟨f1, f2⟩, f3, f4⟩ := valid_at h2 hi
    generalize b.es.getD i default = x at *
    obtain ⟨ty, fr, tt⟩ := x
    simp only [shE] at *
    rw [plc_high (by omega), plc_high (by omega)]
    congr 1
    simp only [Ed.mk.injEq, true_and]
    omega
  rw [e1, e2]
/-- the union without the second graph -/
theorem rem_second {a b : Gr} (h : uniE a b = 0) : remE (uni a b) (numS a.ns.length b.ns.length) (numS a.es.length b.es.length) = 0 ∧ remG (uni a b) (numS a.ns.length b.ns.length) (numS a.es.length b.es.length) = a := by
  obtain ⟨h1, h2, h3, h4⟩ := uni_zero h
  obtain ⟨l1, l2⟩ := uni_lens a b
  have hE : remE (uni a b) (numS a.ns.length b.ns.length) (numS a.es.length b.es.length) = 0 := by
    unfold remE
    rw [uni_valid h, num_asc (by omega), num_asc (by omega)]
    simp only [ne_eq, not_true_eq_false, if_false]
    apply fstN_all
    intro i _ hi
    unfold dangAt dangB
    by_cases hl : i < a.es.length
    · rw [uni_esL hl]
      obtain ⟨⟨f1, f2⟩, f3, f4⟩ := valid_at h1 hl
      rw [decide_eq_false (p := (a.es.getD i default).fr ∈ _) (fun hm => by have := num_mem.1 hm; omega), decide_eq_false (p := (a.es.getD i default).tq ∈ _) (fun hm => by have := num_mem.1 hm; omega)]
      simp
    · rw [decide_eq_true (num_mem.2 (by omega))]; rfl
  refine ⟨hE, ?_⟩
  unfold remG
  rw [if_pos hE, l1, l2]
  have e1 : remNs (uni a b) (numS a.ns.length b.ns.length) (a.ns.length + b.ns.length) = a.ns := by
    unfold remNs
    rw [coll_add]
    rw [coll_nil (fun i => if ((a.ns.length + i : Nat) : Int) ∈ numS a.ns.length b.ns.length then [] else [(uni a b).ns.getD (a.ns.length + i) 0]) (fun i hi => if_pos (num_mem.2 (by omega))), List.append_nil]
    refine Eq.trans (coll_ext (fun i hi => ?_)) (coll_self a.ns 0)
    rw [if_neg (fun hm => by have := num_mem.1 hm; omega), uni_ns, if_pos hi]
  have e2 : remEs (uni a b) (numS a.ns.length b.ns.length) (numS a.es.length b.es.length) (a.es.length + b.es.length) = a.es := by
    unfold remEs
    rw [coll_add]
    rw [coll_nil (fun i => if ((a.es.length + i : Nat) : Int) ∈ numS a.es.length b.es.length then [] else [mvd (uni a b) (numS a.ns.length b.ns.length) (a.es.length + i)]) (fun i hi => if_pos (num_mem.2 (by omega))), List.append_nil]
    refine Eq.trans (coll_ext (fun i hi => ?_)) (coll_self a.es default)
    rw [if_neg (fun hm => by have := num_mem.1 hm; omega)]
    unfold mvd frN toN
    rw [uni_esL hi]
    obtain ⟨⟨f1, f2⟩, f3, f4⟩ := valid_at h1 hi
    generalize a.es.getD i default = x at *
    obtain ⟨ty, fr, tt⟩ := x
    simp only at *
    rw [plc_low (by omega), plc_low (by omega)]
    congr 1
    simp only [Ed.mk.injEq, true_and]
    omega
  rw [e1, e2]

/-! its components -/
def lstU (a b : Gr) : List Nat := lstS a ++ (lstS b).map (· + a.ns.length)
theorem lstU_len (a b : Gr) : (lstU a b).length = a.ns.length + b.ns.length := by simp [lstU, lstS_len]
theorem lstU_low {a b : Gr} {i : Nat} (h : i < a.ns.length) : at_ (lstU a b) i = at_ (lstS a) i := by
  unfold at_ lstU
  rw [List.getD_eq_getElem?_getD, List.getElem?_append_left (by rw [lstS_len]; exact h), ← List.getD_eq_getElem?_getD]
theorem lstU_high {a b : Gr} {i : Nat} (h : i < b.ns.length) : at_ (lstU a b) (a.ns.length + i) = at_ (lstS b) i + a.ns.length := by
  have h2 : i < (lstS b).length := by rw [lstS_len]; exact h
  unfold at_ lstU
  rw [List.getD_eq_getElem?_getD, List.getElem?_append_right (by rw [lstS_len]; omega), lstS_len, Nat.add_sub_cancel_left, List.getElem?_map, List.getD_eq_getElem?_getD, List.getElem?_eq_getElem h2]
  rfl
theorem at_drop (q : List Nat) (n i : Nat) : at_ (q.drop n) i = at_ q (n + i) := by
  unfold at_
  rw [List.getD_eq_getElem?_getD, List.getD_eq_getElem?_getD, List.getElem?_drop]
theorem lst_uni {a b : Gr} (h : uniE a b = 0) : lstS (uni a b) = lstU a b := by
  obtain ⟨h1, h2, h3, h4⟩ := uni_zero h
  obtain ⟨l1, l2⟩ := uni_lens a b
  have hv := uni_valid h
  have ea : ∀ i, i < a.es.length → frN (uni a b) i = frN a i ∧ toN (uni a b) i = toN a i := fun i hi => by unfold frN toN; rw [uni_esL hi]; exact ⟨rfl, rfl⟩
  have eb : ∀ i, i < b.es.length → frN (uni a b) (a.es.length + i) = a.ns.length + frN b i ∧ toN (uni a b) (a.es.length + i) = a.ns.length + toN b i := fun i hi => by
    obtain ⟨⟨f1, f2⟩, f3, f4⟩ := valid_at h2 hi
    unfold frN toN
    rw [uni_esR hi]
    simp only [shE]
    omega
  have low : ∀ {i}, i < a.ns.length → at_ (lstS a) i < a.ns.length := fun {i} hi => by have := (lstS_V h1).lt (i := i) (by rw [lstS_len]; exact hi); rwa [lstS_len] at this
  have high : ∀ {i}, i < b.ns.length → at_ (lstS b) i < b.ns.length := fun {i} hi => by have := (lstS_V h2).lt (i := i) (by rw [lstS_len]; exact hi); rwa [lstS_len] at this
  have hV : Pt.V (lstU a b) := by
    intro i hi
    rw [lstU_len] at hi
    by_cases hl : i < a.ns.length
    · rw [lstU_low hl, lstU_low (low hl)]
      exact ⟨(lstS_V h1).le (by rw [lstS_len]; exact hl), (lstS_V h1).idem (by rw [lstS_len]; exact hl)⟩
    · obtain ⟨k, rfl⟩ : ∃ k, i = a.ns.length + k := ⟨i - a.ns.length, by omega⟩
      have hk : k < b.ns.length := by omega
      have := (lstS_V h2).le (i := k) (by rw [lstS_len]; exact hk)
      have e := (lstS_V h2).idem (i := k) (by rw [lstS_len]; exact hk)
      rw [lstU_high hk, Nat.add_comm (at_ (lstS b) k), lstU_high (high hk), e]
      omega
  have hR : Pt.Resp (lstU a b) (endsL (uni a b)) := by
    intro x hx
    obtain ⟨i, hi, rfl⟩ := List.mem_iff_getElem.1 hx
    rw [endsL_len] at hi
    have e := endsL_get hi
    rw [List.getElem?_eq_getElem (by rw [endsL_len]; exact hi)] at e
    injection e with e
    rw [e]
    show at_ (lstU a b) (frN (uni a b) i) = at_ (lstU a b) (toN (uni a b) i)
    by_cases hl : i < a.es.length
    · obtain ⟨k1, k2⟩ := ends_lt h1 hl
      rw [(ea i hl).1, (ea i hl).2, lstU_low k1, lstU_low k2]
      exact lst_edge h1 hl
    · obtain ⟨k, rfl⟩ : ∃ k, i = a.es.length + k := ⟨i - a.es.length, by omega⟩
      have hk : k < b.es.length := by omega
      obtain ⟨k1, k2⟩ := ends_lt h2 hk
      rw [(eb k hk).1, (eb k hk).2, lstU_high k1, lstU_high k2, lst_edge h2 hk]
  have hL : ∀ q, Pt.Resp q (endsL (uni a b)) → Pt.F (lstU a b) q := by
    intro q hq i hi
    rw [lstU_len] at hi
    have hqe : ∀ j, j < (uni a b).es.length → at_ q (frN (uni a b) j) = at_ q (toN (uni a b) j) := fun j hj => hq _ (List.mem_of_getElem? (endsL_get hj))
    by_cases hl : i < a.ns.length
    · rw [lstU_low hl]
      refine Pt.gen_least (ends_inR h1) (q := q) ?_ i (by rw [Pt.genS_length]; exact hl)
      intro x hx
      obtain ⟨j, hj, rfl⟩ := List.mem_iff_getElem.1 hx
      rw [endsL_len] at hj
      have e := endsL_get hj
      rw [List.getElem?_eq_getElem (by rw [endsL_len]; exact hj)] at e
      injection e with e
      rw [e]
      have := hqe j (by omega)
      rwa [(ea j hj).1, (ea j hj).2] at this
    · obtain ⟨k, rfl⟩ : ∃ k, i = a.ns.length + k := ⟨i - a.ns.length, by omega⟩
      have hk : k < b.ns.length := by omega
      rw [lstU_high hk, Nat.add_comm (at_ (lstS b) k), ← at_drop, ← at_drop]
      refine Pt.gen_least (ends_inR h2) (q := q.drop a.ns.length) ?_ k (by rw [Pt.genS_length]; exact hk)
      intro x hx
      obtain ⟨j, hj, rfl⟩ := List.mem_iff_getElem.1 hx
      rw [endsL_len] at hj
      have e := endsL_get hj
      rw [List.getElem?_eq_getElem (by rw [endsL_len]; exact hj)] at e
      injection e with e
      rw [e]
      have := hqe (a.es.length + j) (by omega)
      rw [(eb j hj).1, (eb j hj).2] at this
      rw [at_drop, at_drop]
      exact this
  exact Pt.F.antisymm (lstS_V hv) hV (by rw [lstS_len, lstU_len]; exact l1) (Pt.gen_least (ends_inR hv) hR) (hL _ (Pt.gen_resp (ends_inR hv)))
theorem rank_ext {p q : List Nat} {k : Nat} (h : ∀ i, i < k → at_ p i = at_ q i) : Pt.rank p k = Pt.rank q k := by
  induction k with
  | zero => rfl
  | succ k ih =>
    have ih := ih fun i hi => h i (by omega)
    have hk := h k (by omega)
    by_cases e : at_ p k = k
    · rw [Pt.rank_yes e, Pt.rank_yes (by rw [← hk]; exact e), ih]
    · rw [Pt.rank_no e, Pt.rank_no (by rw [← hk]; exact e), ih]
theorem rank_uni (a b : Gr) {k : Nat} (h : k ≤ b.ns.length) : Pt.rank (lstU a b) (a.ns.length + k) = Pt.rank (lstS a) a.ns.length + Pt.rank (lstS b) k := by
  induction k with
  | zero => exact rank_ext fun i hi => lstU_low hi
  | succ k ih =>
    have ih := ih (by omega)
    have hk := lstU_high (a := a) (b := b) (i := k) (by omega)
    rw [show a.ns.length + (k + 1) = (a.ns.length + k) + 1 by omega]
    by_cases e : at_ (lstS b) k = k
    · rw [Pt.rank_yes (by rw [hk, e]; omega), Pt.rank_yes e, ih]; omega
    · rw [Pt.rank_no (by rw [hk]; omega), Pt.rank_no e, ih]
theorem comp_len {g : Gr} (h : validE g = 0) : (compR g).length = Pt.rank (lstS g) g.ns.length := by
  unfold compR
  rw [if_pos h, compTo_len]
theorem comp_uni {a b : Gr} (h : uniE a b = 0) : (compR (uni a b)).length = (compR a).length + (compR b).length := by
  obtain ⟨h1, h2, _⟩ := uni_zero h
  rw [comp_len (uni_valid h), comp_len h1, comp_len h2, lst_uni h, (uni_lens a b).1]
  exact rank_uni a b (Nat.le_refl _)

/-! the components contain each element once -/
theorem pick_asc (p : Nat → Bool) (k : Nat) : (coll (fun i => if p i then [(i : Int)] else []) k).Pairwise (· < ·) := by
  induction k with
  | zero => exact List.Pairwise.nil
  | succ k ih =>
    simp only [coll]
    rw [List.pairwise_append]
    refine ⟨ih, by split <;> simp, fun x hx y hy => ?_⟩
    obtain ⟨i, hi, hx⟩ := coll_mem.1 hx
    split at hx
    · split at hy
      · rw [List.mem_singleton] at hx hy
        omega
      · cases hy
    · cases hx
theorem pick_mem {p : Nat → Bool} {k : Nat} {x : Int} : x ∈ coll (fun i => if p i then [(i : Int)] else []) k ↔ ∃ i, i < k ∧ p i = true ∧ x = i := by
  rw [coll_mem]
  constructor
  · rintro ⟨i, hi, hx⟩
    split at hx
    · rename_i hp; exact ⟨i, hi, hp, List.mem_singleton.1 hx⟩
    · cases hx
  · rintro ⟨i, hi, hp, rfl⟩
    exact ⟨i, hi, by rw [if_pos hp]; exact List.mem_singleton.2 rfl⟩
/-- a list of things, parted by a class, class after class -/
def byCls (L : List Nat) (n : Nat) (key : Nat → Nat) (m : Nat) : List Int := (Pt.fixsTo L n).flatMap fun r => coll (fun i => if at_ L (key i) = r then [(i : Int)] else []) m
theorem byCls_perm {L : List Nat} (hV : Pt.V L) {key : Nat → Nat} {m : Nat} (hk : ∀ i, i < m → key i < L.length) : (byCls L L.length key m).Perm (numS (0 : Nat) m) := by
  have e : ∀ r : Nat, coll (fun i => if at_ L (key i) = r then [(i : Int)] else []) m = coll (fun i => if (at_ L (key i) == r) then [(i : Int)] else []) m := fun r => coll_ext fun i _ => by
    by_cases h : at_ L (key i) = r
    · rw [if_pos h, if_pos (by rw [h]; exact beq_self_eq_true r)]
    · rw [if_neg h, if_neg (by rw [beq_eq_false_iff_ne.2 h]; simp)]
  have en : numS (0 : Nat) m = coll (fun i => if (fun _ => true) i then [(i : Int)] else []) m := coll_ext fun i _ => by simp
  refine (List.perm_ext_iff_of_nodup ?_ ?_).2 ?_
  · unfold byCls
    show List.Pairwise (· ≠ ·) _
    rw [List.pairwise_flatMap]
    refine ⟨fun r _ => ?_, ?_⟩
    · rw [e]
      exact (pick_asc _ _).imp fun h => by omega
    · have hn : (Pt.fixsTo L L.length).Pairwise (· ≠ ·) := by
        unfold Pt.fixsTo
        exact List.Pairwise.filter _ (List.nodup_range)
      refine hn.imp fun {r s} hrs x hx y hy hxy => ?_
      rw [e] at hx hy
      obtain ⟨i, _, h1, rfl⟩ := pick_mem.1 hx
      obtain ⟨j, _, h2, rfl⟩ := pick_mem.1 hy
      have : i = j := by omega
      subst this
      exact hrs ((beq_iff_eq.1 h1).symm.trans (beq_iff_eq.1 h2))
  · rw [en]
    show List.Pairwise (· ≠ ·) _
    exact (pick_asc _ _).imp fun h => by omega
  · intro x
    unfold byCls
    rw [List.mem_flatMap, en, pick_mem]
    constructor
    · rintro ⟨r, _, hx⟩
      rw [e] at hx
      obtain ⟨i, hi, _, rfl⟩ := pick_mem.1 hx
      exact ⟨i, hi, rfl, rfl⟩
    · rintro ⟨i, hi, _, rfl⟩
      refine ⟨at_ L (key i), ?_, by rw [e]; exact pick_mem.2 ⟨i, hi, beq_self_eq_true _, rfl⟩⟩
      unfold Pt.fixsTo
      rw [List.mem_filter, List.mem_range]
      exact ⟨hV.lt (hk i hi), beq_iff_eq.2 (hV.idem (hk i hi))⟩
theorem comp_nodes {g : Gr} (h : validE g = 0) : ((compR g).flatMap (·.ns)).Perm (numS (0 : Nat) g.ns.length) := by
  have hl := lstS_len g
  have hp := byCls_perm (lstS_V h) (key := id) (m := g.ns.length) (fun i hi => by rw [hl]; exact hi)
  rw [hl] at hp
  unfold compR
  rw [if_pos h]
  unfold compTo
  rw [List.flatMap_map]
  exact hp
theorem comp_edges {g : Gr} (h : validE g = 0) : ((compR g).flatMap (·.es)).Perm (numS (0 : Nat) g.es.length) := by
  have hl := lstS_len g
  have hp := byCls_perm (lstS_V h) (key := frN g) (m := g.es.length) (fun i hi => by rw [hl]; exact (ends_lt h hi).1)
  rw [hl] at hp
  unfold compR
  rw [if_pos h]
  unfold compTo
  rw [List.flatMap_map]
  exact hp
theorem sort_num {l : List Int} {m : Nat} (h : l.Perm (numS (0 : Nat) m)) : (l.mergeSort fun x y => decide (x ≤ y)) = numS (0 : Nat) m := by
  have h1 : (l.mergeSort fun x y => decide (x ≤ y)).Pairwise (· ≤ ·) := by
    have := List.pairwise_mergeSort (le := fun x y : Int => decide (x ≤ y)) (fun a b c h1 h2 => by rw [decide_eq_true_eq] at *; omega) (fun a b => by rw [Bool.or_eq_true, decide_eq_true_eq, decide_eq_true_eq]; omega) l
    exact this.imp fun h => by rwa [decide_eq_true_eq] at h
  have h2 : (numS (0 : Nat) m).Pairwise (· ≤ ·) := by
    have en : numS (0 : Nat) m = coll (fun i => if (fun _ => true) i then [(i : Int)] else []) m := coll_ext fun i _ => by simp
    rw [en]
    exact (pick_asc _ _).imp fun h => by omega
  exact ((List.mergeSort_perm l _).trans h).eq_of_pairwise (fun a b _ _ h3 h4 => by omega) h1 h2

end Go.Proofs.YtaeelanbkdkppaaDoor

/-
  Reordering as plain data: permutations, what lands where, and back.
-/
namespace Go.Proofs.YtaeelanbkdkppaaDoor

def PermN (l : List Int) (n : Nat) : Prop := l.Perm (numS (0 : Nat) n)
theorem PermN.len {l : List Int} {n : Nat} (h : PermN l n) : l.length = n := by rw [List.Perm.length_eq h, num_length]
theorem getD_eq {l : List Int} {i : Nat} (h : i < l.length) : l.getD i 0 = l[i] := by rw [List.getD_eq_getElem?_getD, List.getElem?_eq_getElem h]; rfl
theorem PermN.at {l : List Int} {n i : Nat} (h : PermN l n) (hi : i < n) : 0 ≤ l.getD i 0 ∧ l.getD i 0 < n := by
  have hl := h.len
  have := (List.Perm.mem_iff h).1 (getD_mem (d := (0 : Int)) (show i < l.length by omega))
  have := num_mem.1 this
  omega
theorem num_nodup (a n : Nat) : (numS a n).Nodup := by
  unfold numS
  show List.Pairwise (· ≠ ·) _
  induction n with
  | zero => exact List.Pairwise.nil
  | succ n ih =>
    simp only [coll]
    rw [List.pairwise_append]
    refine ⟨ih, by simp, fun x hx y hy => ?_⟩
    obtain ⟨i, hi, hx⟩ := coll_mem.1 hx
    rw [List.mem_singleton] at hx hy
    omega
theorem PermN.nodup {l : List Int} {n : Nat} (h : PermN l n) : l.Nodup := (List.Perm.nodup_iff h).2 (num_nodup 0 n)
theorem PermN.inj {l : List Int} {n i j : Nat} (h : PermN l n) (hi : i < n) (hj : j < n) (e : l.getD i 0 = l.getD j 0) : i = j := by
  have hl := h.len
  rw [getD_eq (by omega), getD_eq (by omega)] at e
  have hp := List.pairwise_iff_getElem.1 h.nodup
  rcases Nat.lt_trichotomy i j with hlt | he | hlt
  · exact absurd e (hp i j (by omega) (by omega) hlt)
  · exact he
  · exact absurd e.symm (hp j i (by omega) (by omega) hlt)
theorem PermN.surj {l : List Int} {n v : Nat} (h : PermN l n) (hv : v < n) : ∃ i, i < n ∧ l.getD i 0 = v := by
  have hl := h.len
  have hm : (v : Int) ∈ l := (List.Perm.mem_iff h).2 (num_mem.2 (by omega))
  obtain ⟨i, hi, e⟩ := List.mem_iff_getElem.1 hm
  exact ⟨i, by omega, by rw [getD_eq hi]; exact e⟩

/-! what lands where -/
section
variable {β : Type}
def scat (p : List Int) (f : Nat → β) (z : β) (n : Nat) : Nat → List β
  | 0 => List.replicate n z
  | k + 1 => (scat p f z n k).set (p.getD k 0).toNat (f k)
theorem scat_len (p : List Int) (f : Nat → β) (z : β) (n k : Nat) : (scat p f z n k).length = n := by
  induction k with
  | zero => simp [scat]
  | succ k ih => simp [scat, ih]
theorem scat_at {p : List Int} {n : Nat} (hp : PermN p n) (f : Nat → β) (z : β) {k i : Nat} (hk : k ≤ n) (hi : i < k) : (scat p f z n k)[(p.getD i 0).toNat]? = some (f i) := by
  induction k with
  | zero => omega
  | succ k ih =>
    simp only [scat]
    have hki := hp.at (i := k) (by omega)
    have hii := hp.at (i := i) (by omega)
    by_cases e : i = k
    · subst e
      rw [List.getElem?_set_self (by rw [scat_len]; omega)]
    · have hne : (p.getD k 0).toNat ≠ (p.getD i 0).toNat := fun h => e (hp.inj (i := i) (j := k) (by omega) (by omega) (by omega))
      rw [List.getElem?_set_ne hne]
      exact ih (by omega) (by omega)
theorem scat_getD {p : List Int} {n : Nat} (hp : PermN p n) (f : Nat → β) (z d : β) {i : Nat} (hi : i < n) : (scat p f z n n).getD (p.getD i 0).toNat d = f i := by
  rw [List.getD_eq_getElem?_getD, scat_at hp f z (Nat.le_refl _) hi]; rfl
theorem scat_perm {p : List Int} {n : Nat} (hp : PermN p n) (f : Nat → β) (z : β) : (scat p f z n n).Perm ((List.range n).map f) := by
  have hl := hp.len
  have h1 : p.map (fun x => (scat p f z n n).getD x.toNat z) = (List.range n).map f := by
    apply List.ext_getElem (by simp [hl])
    intro i h1 h2
    simp only [List.length_map, List.length_range] at h2
    rw [List.getElem_map, List.getElem_map, List.getElem_range, ← getD_eq (by omega)]
    exact scat_getD hp f z z h2
  have h2 : (numS (0 : Nat) n).map (fun x => (scat p f z n n).getD x.toNat z) = scat p f z n n := by
    apply List.ext_getElem (by simp [num_length, scat_len])
    intro i h1 h2
    rw [scat_len] at h2
    rw [List.getElem_map, ← getD_eq (by rw [num_length]; exact h2), num_get h2]
    have e : (((0 : Nat) : Int) + (i : Int)).toNat = i := by omega
    rw [e, List.getD_eq_getElem?_getD, List.getElem?_eq_getElem (by rw [scat_len]; exact h2)]
    rfl
  have h3 := List.Perm.map (fun x => (scat p f z n n).getD x.toNat z) hp
  rw [h1, h2] at h3
  exact h3.symm
end

def mvE (p : List Int) (x : Ed) : Ed := ⟨x.ty, p.getD x.fr.toNat 0, p.getD x.tq.toNat 0⟩
def reoN (g : Gr) (m : Mo) (k : Nat) : List Int := scat m.ns (fun i => g.ns.getD i 0) 0 g.ns.length k
def reoE (g : Gr) (m : Mo) (k : Nat) : List Ed := scat m.es (fun j => mvE m.ns (g.es.getD j default)) default g.es.length k
def reoG (g : Gr) (m : Mo) : Gr := ⟨reoN g m g.ns.length, reoE g m g.es.length⟩
def bkL (p : List Int) (n k : Nat) : List Int := scat p (fun i => (i : Int)) 0 n k
theorem bk_perm {p : List Int} {n : Nat} (hp : PermN p n) : PermN (bkL p n n) n := by
  have h := scat_perm hp (fun i : Nat => (i : Int)) 0
  have e : (List.range n).map (fun i : Nat => (i : Int)) = numS (0 : Nat) n := by
    apply List.ext_getElem (by simp [num_length])
    intro i h1 h2
    rw [num_length] at h2
    rw [List.getElem_map, List.getElem_range, ← getD_eq (by rw [num_length]; exact h2), num_get h2]
    omega
  rw [e] at h
  exact h
theorem range_getD {β : Type} (l : List β) (d : β) : (List.range l.length).map (fun i => l.getD i d) = l := by
  apply List.ext_getElem (by simp)
  intro i h1 h2
  rw [List.getElem_map, List.getElem_range, List.getD_eq_getElem?_getD, List.getElem?_eq_getElem h2]; rfl
theorem reo_lens (g : Gr) (m : Mo) : (reoG g m).ns.length = g.ns.length ∧ (reoG g m).es.length = g.es.length := ⟨scat_len _ _ _ _ _, scat_len _ _ _ _ _⟩
theorem reo_ns {g : Gr} {m : Mo} (h1 : PermN m.ns g.ns.length) : (reoG g m).ns.Perm g.ns := by
  have := scat_perm h1 (fun i => g.ns.getD i 0) 0
  rw [range_getD] at this
  exact this
theorem reo_es {g : Gr} {m : Mo} (h2 : PermN m.es g.es.length) : (reoG g m).es.Perm (g.es.map (mvE m.ns)) := by
  have := scat_perm h2 (fun j => mvE m.ns (g.es.getD j default)) default
  have e : (List.range g.es.length).map (fun j => mvE m.ns (g.es.getD j default)) = g.es.map (mvE m.ns) := by
    have := congrArg (List.map (mvE m.ns)) (range_getD g.es default)
    rw [List.map_map] at this
    exact this
  rw [e] at this
  exact this
theorem reo_valid {g : Gr} {m : Mo} (hv : validE g = 0) (h1 : PermN m.ns g.ns.length) (h2 : PermN m.es g.es.length) : validE (reoG g m) = 0 := by
  obtain ⟨l1, l2⟩ := reo_lens g m
  obtain ⟨v1, v2, v3, v4⟩ := valid_zero hv
  apply valid_ok (by omega) (by omega)
  · intro i hi
    exact idxB_iff.2 (v3 _ ((reo_ns h1).mem_iff.1 (getD_mem hi)))
  · intro i hi
    have hm := (reo_es h2).mem_iff.1 (getD_mem (d := default) hi)
    obtain ⟨x, hx, e⟩ := List.mem_map.1 hm
    rw [← e, l1]
    have hx2 := edB_iff.1 (v4 x hx)
    have a1 := h1.at (i := x.fr.toNat) (by omega)
    have a2 := h1.at (i := x.tq.toNat) (by omega)
    apply edB_iff.2
    unfold mvE
    dsimp only
    omega
theorem ins_count (g : Gr) (v : Int) (k : Nat) (hk : k ≤ g.es.length) : (insS g v k).length = (g.es.take k).countP (fun x => decide (x.tq = v)) := by
  induction k with
  | zero => rfl
  | succ k ih =>
    have e : insS g v (k + 1) = insS g v k ++ (if (g.es.getD k default).tq = v then [(k : Int)] else []) := rfl
    rw [e, List.length_append, ih (by omega), List.take_add_one, List.getElem?_eq_getElem (by omega), List.countP_append]
    congr 1
    rw [List.getD_eq_getElem?_getD, List.getElem?_eq_getElem (by omega)]
    simp only [Option.getD_some, Option.toList, List.countP_cons, List.countP_nil]
    by_cases h : (g.es[k]).tq = v
    · simp [h]
    · simp [h]
theorem outs_count (g : Gr) (v : Int) (k : Nat) (hk : k ≤ g.es.length) : (outsS g v k).length = (g.es.take k).countP (fun x => decide (x.fr = v)) := by
  induction k with
  | zero => rfl
  | succ k ih =>
    have e : outsS g v (k + 1) = outsS g v k ++ (if (g.es.getD k default).fr = v then [(k : Int)] else []) := rfl
    rw [e, List.length_append, ih (by omega), List.take_add_one, List.getElem?_eq_getElem (by omega), List.countP_append]
    congr 1
    rw [List.getD_eq_getElem?_getD, List.getElem?_eq_getElem (by omega)]
    simp only [Option.getD_some, Option.toList, List.countP_cons, List.countP_nil]
    by_cases h : (g.es[k]).fr = v
    · simp [h]
    · simp [h]
/-- the edges of a node keep their number -/
theorem reo_inc {g : Gr} {m : Mo} (hv : validE g = 0) (h1 : PermN m.ns g.ns.length) (h2 : PermN m.es g.es.length) {i : Nat} (hi : i < g.ns.length) :
    incE g i = 0 ∧ incE (reoG g m) (m.ns.getD i 0) = 0 ∧ (incI g i).length = (incI (reoG g m) (m.ns.getD i 0)).length ∧ (incO g i).length = (incO (reoG g m) (m.ns.getD i 0)).length := by
  obtain ⟨l1, l2⟩ := reo_lens g m
  have hp := h1.at hi
  have e1 : incE g i = 0 := by
    unfold incE
    rw [hv, if_neg (by simp), if_neg]
    rw [idxB_iff.2 (by omega)]; simp
  have e2 : incE (reoG g m) (m.ns.getD i 0) = 0 := by
    unfold incE
    rw [reo_valid hv h1 h2, if_neg (by simp), if_neg]
    rw [idxB_iff.2 (by rw [l1]; exact hp)]; simp
  have key : ∀ (q : Ed → Int), (∀ x ∈ g.es, 0 ≤ q x ∧ q x < g.ns.length) → (∀ x, q (mvE m.ns x) = m.ns.getD (q x).toNat 0) → g.es.countP (fun x => decide (q x = (i : Int))) = (reoG g m).es.countP (fun x => decide (q x = m.ns.getD i 0)) := fun q hq hq2 => by
    rw [(reo_es h2).countP_eq, List.countP_map]
    apply List.countP_congr
    intro x hx
    have hr := hq x hx
    simp only [Function.comp, hq2, decide_eq_true_eq]
    constructor
    · intro e; rw [e, Int.toNat_natCast]
    · intro e
      have := h1.inj (i := (q x).toNat) (j := i) (by omega) hi e
      omega
  have hed : ∀ x ∈ g.es, (0 ≤ x.fr ∧ x.fr < g.ns.length) ∧ (0 ≤ x.tq ∧ x.tq < g.ns.length) := fun x hx => (edB_iff.1 ((valid_zero hv).2.2.2 x hx)).2
  refine ⟨e1, e2, ?_, ?_⟩
  · unfold incI
    rw [if_pos e1, if_pos e2, ins_count _ _ _ (Nat.le_refl _), ins_count _ _ _ (Nat.le_refl _), List.take_length, List.take_length]
    exact key (·.tq) (fun x hx => (hed x hx).2) (fun x => rfl)
  · unfold incO
    rw [if_pos e1, if_pos e2, outs_count _ _ _ (Nat.le_refl _), outs_count _ _ _ (Nat.le_refl _), List.take_length, List.take_length]
    exact key (·.fr) (fun x hx => (hed x hx).1) (fun x => rfl)
/-- there and back -/
theorem reo_back {g : Gr} {m : Mo} (hv : validE g = 0) (h1 : PermN m.ns g.ns.length) (h2 : PermN m.es g.es.length) :
    reoG (reoG g m) ⟨bkL m.ns g.ns.length g.ns.length, bkL m.es g.es.length g.es.length⟩ = g := by
  obtain ⟨l1, l2⟩ := reo_lens g m
  have b1 := bk_perm h1
  have b2 := bk_perm h2
  have g1 : ∀ i, i < g.ns.length → (bkL m.ns g.ns.length g.ns.length).getD (m.ns.getD i 0).toNat 0 = (i : Int) := fun i hi => scat_getD h1 (fun i => (i : Int)) 0 0 hi
  have g2 : ∀ i, i < g.es.length → (bkL m.es g.es.length g.es.length).getD (m.es.getD i 0).toNat 0 = (i : Int) := fun i hi => scat_getD h2 (fun i => (i : Int)) 0 0 hi
  have en : reoN (reoG g m) ⟨bkL m.ns g.ns.length g.ns.length, bkL m.es g.es.length g.es.length⟩ (reoG g m).ns.length = g.ns := by
    unfold reoN
    rw [l1]
    apply List.ext_getElem?
    intro i
    by_cases hi : i < g.ns.length
    · have hp := h1.at hi
      have := scat_at b1 (fun i => (reoG g m).ns.getD i 0) 0 (Nat.le_refl _) (i := (m.ns.getD i 0).toNat) (by omega)
      rw [g1 i hi, Int.toNat_natCast] at this
      rw [this]
      have e : (reoG g m).ns.getD (m.ns.getD i 0).toNat 0 = g.ns.getD i 0 := scat_getD h1 (fun i => g.ns.getD i 0) 0 0 hi
      rw [e, List.getD_eq_getElem?_getD, List.getElem?_eq_getElem hi]; rfl
    · rw [List.getElem?_eq_none (by rw [scat_len]; omega), List.getElem?_eq_none (by omega)]
  have ee : reoE (reoG g m) ⟨bkL m.ns g.ns.length g.ns.length, bkL m.es g.es.length g.es.length⟩ (reoG g m).es.length = g.es := by
    unfold reoE
    rw [l2]
    apply List.ext_getElem?
    intro i
    by_cases hi : i < g.es.length
    · have hp := h2.at hi
      have := scat_at b2 (fun j => mvE (bkL m.ns g.ns.length g.ns.length) ((reoG g m).es.getD j default)) default (Nat.le_refl _) (i := (m.es.getD i 0).toNat) (by omega)
      rw [g2 i hi, Int.toNat_natCast] at this
      rw [this]
      have e : (reoG g m).es.getD (m.es.getD i 0).toNat default = mvE m.ns (g.es.getD i default) := scat_getD h2 (fun j => mvE m.ns (g.es.getD j default)) default default hi
      rw [e]
      obtain ⟨⟨f1, f2⟩, f3, f4⟩ := valid_at hv hi
      have hge : g.es[i]? = some (g.es.getD i default) := by rw [List.getD_eq_getElem?_getD, List.getElem?_eq_getElem hi]; rfl
      rw [hge]
      generalize g.es.getD i default = x at *
      obtain ⟨ty, fr, tt⟩ := x
      simp only [mvE] at *
      have k1 := g1 fr.toNat (by omega)
      have k2 := g1 tt.toNat (by omega)
      rw [k1, k2]
      congr 1
      simp only [Ed.mk.injEq, true_and]
      omega
    · rw [List.getElem?_eq_none (by rw [scat_len]; omega), List.getElem?_eq_none (by omega)]
  unfold reoG at *
  simp only at *
  rw [en, ee]

/-! a step of the shuffle -/
theorem swp_perm {l : List Int} {i k : Nat} (hi : i < l.length) (hk : k < l.length) : ((l.set i (l.getD k 0)).set k (l.getD i 0)).Perm l := by
  rw [List.perm_iff_count]
  intro x
  rw [getD_eq hi, getD_eq hk]
  rw [List.count_set (by simpa using hk), List.count_set hi]
  by_cases e : i = k
  · subst e
    rw [List.getElem_set_self]
    have hc : (if (l[i] == x) = true then 1 else 0) ≤ l.count x := by
      split
      · rename_i h
        rw [beq_iff_eq] at h
        exact List.count_pos_iff.2 (h ▸ List.getElem_mem hi)
      · omega
    omega
  · rw [List.getElem_set_ne e]
    have hc1 : (if (l[i] == x) = true then 1 else 0) ≤ l.count x := by
      split
      · rename_i h
        rw [beq_iff_eq] at h
        exact List.count_pos_iff.2 (h ▸ List.getElem_mem hi)
      · omega
    omega
theorem perm_swp {l : List Int} {n i k : Nat} (h : PermN l n) (hi : i < n) (hk : k < n) : PermN ((l.set i (l.getD k 0)).set k (l.getD i 0)) n := (swp_perm (by rw [h.len]; exact hi) (by rw [h.len]; exact hk)).trans h

end Go.Proofs.YtaeelanbkdkppaaDoor

/-
  Morphisms of graphs as plain data: their error, composition, what is injective and surjective, inverses. (Work ahead for stage 6; imports only plain texts of stage 5.)
-/
namespace Go.Proofs.YtaeelanbkdkppaaDoor

def mnAt (a b : Gr) (m : Mo) (i : Nat) : Nat := if idxB (m.ns.getD i 0) b.ns.length = false then 6 else if b.ns.getD (m.ns.getD i 0).toNat 0 ≠ a.ns.getD i 0 then 13 else 0
def meAt (a b : Gr) (m : Mo) (i : Nat) : Nat :=
  if idxB (m.es.getD i 0) b.es.length = false then 6
  else if (a.es.getD i default).ty ≠ (b.es.getD (m.es.getD i 0).toNat default).ty then 13
  else if m.ns.getD (a.es.getD i default).fr.toNat 0 ≠ (b.es.getD (m.es.getD i 0).toNat default).fr ∨ m.ns.getD (a.es.getD i default).tq.toNat 0 ≠ (b.es.getD (m.es.getD i 0).toNat default).tq then 11 else 0
def morE (a b : Gr) (m : Mo) : Nat :=
  if validE a ≠ 0 then validE a else if validE b ≠ 0 then validE b
  else if m.ns.length ≠ a.ns.length ∨ m.es.length ≠ a.es.length then 20
  else if fstN (mnAt a b m) 0 a.ns.length ≠ 0 then fstN (mnAt a b m) 0 a.ns.length
  else fstN (meAt a b m) 0 a.es.length
structure MorOk (a b : Gr) (m : Mo) : Prop where
  va : validE a = 0
  vb : validE b = 0
  ln : m.ns.length = a.ns.length
  le : m.es.length = a.es.length
  nd : ∀ i, i < a.ns.length → (0 ≤ m.ns.getD i 0 ∧ m.ns.getD i 0 < b.ns.length) ∧ b.ns.getD (m.ns.getD i 0).toNat 0 = a.ns.getD i 0
  ed : ∀ i, i < a.es.length → (0 ≤ m.es.getD i 0 ∧ m.es.getD i 0 < b.es.length) ∧ (a.es.getD i default).ty = (b.es.getD (m.es.getD i 0).toNat default).ty ∧
    m.ns.getD (a.es.getD i default).fr.toNat 0 = (b.es.getD (m.es.getD i 0).toNat default).fr ∧ m.ns.getD (a.es.getD i default).tq.toNat 0 = (b.es.getD (m.es.getD i 0).toNat default).tq
theorem mnAt_zero {a b : Gr} {m : Mo} {i : Nat} : mnAt a b m i = 0 ↔ (0 ≤ m.ns.getD i 0 ∧ m.ns.getD i 0 < b.ns.length) ∧ b.ns.getD (m.ns.getD i 0).toNat 0 = a.ns.getD i 0 := by
  unfold mnAt
  cases h : idxB (m.ns.getD i 0) b.ns.length with
  | false =>
    rw [if_pos rfl]
    have := idxB_not.1 h
    constructor
    · intro h; omega
    · rintro ⟨h, _⟩; omega
  | true =>
    rw [if_neg (by simp)]
    have := idxB_iff.1 h
    by_cases e : b.ns.getD (m.ns.getD i 0).toNat 0 = a.ns.getD i 0
    · rw [if_neg (fun h => h e)]; exact ⟨fun _ => ⟨this, e⟩, fun _ => rfl⟩
    · rw [if_pos e]; exact ⟨fun h => by omega, fun h => absurd h.2 e⟩
theorem meAt_zero {a b : Gr} {m : Mo} {i : Nat} : meAt a b m i = 0 ↔ (0 ≤ m.es.getD i 0 ∧ m.es.getD i 0 < b.es.length) ∧ (a.es.getD i default).ty = (b.es.getD (m.es.getD i 0).toNat default).ty ∧
    m.ns.getD (a.es.getD i default).fr.toNat 0 = (b.es.getD (m.es.getD i 0).toNat default).fr ∧ m.ns.getD (a.es.getD i default).tq.toNat 0 = (b.es.getD (m.es.getD i 0).toNat default).tq := by
  unfold meAt
  cases h : idxB (m.es.getD i 0) b.es.length with
  | false =>
    rw [if_pos rfl]
    have := idxB_not.1 h
    constructor
    · intro h; omega
    · rintro ⟨h, _⟩; omega
  | true =>
    rw [if_neg (by simp)]
    have := idxB_iff.1 h
    by_cases e : (a.es.getD i default).ty = (b.es.getD (m.es.getD i 0).toNat default).ty
    · rw [if_neg (fun h => h e)]
      by_cases e2 : m.ns.getD (a.es.getD i default).fr.toNat 0 ≠ (b.es.getD (m.es.getD i 0).toNat default).fr ∨ m.ns.getD (a.es.getD i default).tq.toNat 0 ≠ (b.es.getD (m.es.getD i 0).toNat default).tq
      · rw [if_pos e2]
        exact ⟨fun h => by omega, fun h => by rcases e2 with e2 | e2 <;> exact absurd (by first | exact h.2.2.1 | exact h.2.2.2) e2⟩
      · rw [if_neg e2]
        exact ⟨fun _ => ⟨this, e, Classical.byContradiction fun h => e2 (.inl h), Classical.byContradiction fun h => e2 (.inr h)⟩, fun _ => rfl⟩
    · rw [if_pos e]; exact ⟨fun h => by omega, fun h => absurd h.2.1 e⟩
theorem mor_zero {a b : Gr} {m : Mo} : morE a b m = 0 ↔ MorOk a b m := by
  unfold morE
  constructor
  · intro h
    split at h
    · omega
    · split at h
      · omega
      · split at h
        · omega
        · split at h
          · omega
          · rename_i h1 h2 h3 h4
            refine ⟨by omega, by omega, by omega, by omega, fun i hi => ?_, fun i hi => ?_⟩
            · exact mnAt_zero.1 (fstN_zero (Decidable.not_not.1 h4) i (Nat.zero_le _) (by omega))
            · exact meAt_zero.1 (fstN_zero h i (Nat.zero_le _) (by omega))
  · intro h
    have e1 : fstN (mnAt a b m) 0 a.ns.length = 0 := fstN_all fun i _ hi => mnAt_zero.2 (h.nd i (by omega))
    have e2 : fstN (meAt a b m) 0 a.es.length = 0 := fstN_all fun i _ hi => meAt_zero.2 (h.ed i (by omega))
    rw [h.va, h.vb, e1, e2]
    simp [h.ln, h.le]

/-! composition -/
def thr (l by_ : List Int) : List Int := l.map fun x => by_.getD x.toNat 0
theorem thr_len (l k : List Int) : (thr l k).length = l.length := by simp [thr]
theorem thr_get {l k : List Int} {i : Nat} (h : i < l.length) : (thr l k).getD i 0 = k.getD (l.getD i 0).toNat 0 := by
  unfold thr
  rw [List.getD_eq_getElem?_getD, List.getElem?_map, List.getElem?_eq_getElem h, getD_eq h]; rfl
def compM (m n : Mo) : Mo := ⟨thr m.ns n.ns, thr m.es n.es⟩
theorem comp_ok {a b c : Gr} {m n : Mo} (h : MorOk a b m) (k : MorOk b c n) : MorOk a c (compM m n) := by
  refine ⟨h.va, k.vb, by rw [show (compM m n).ns.length = m.ns.length from thr_len _ _]; exact h.ln, by rw [show (compM m n).es.length = m.es.length from thr_len _ _]; exact h.le, fun i hi => ?_, fun i hi => ?_⟩
  · obtain ⟨⟨h1, h2⟩, h3⟩ := h.nd i hi
    obtain ⟨k1, k3⟩ := k.nd (m.ns.getD i 0).toNat (by omega)
    have e : (compM m n).ns.getD i 0 = n.ns.getD (m.ns.getD i 0).toNat 0 := thr_get (by rw [h.ln]; exact hi)
    rw [e]
    exact ⟨k1, k3.trans h3⟩
  · obtain ⟨⟨h1, h2⟩, h3, h4, h5⟩ := h.ed i hi
    obtain ⟨k1, k3, k4, k5⟩ := k.ed (m.es.getD i 0).toNat (by omega)
    obtain ⟨⟨f1, f2⟩, f3, f4⟩ := valid_at h.va hi
    have e : (compM m n).es.getD i 0 = n.es.getD (m.es.getD i 0).toNat 0 := thr_get (by rw [h.le]; exact hi)
    have e1 : (compM m n).ns.getD (a.es.getD i default).fr.toNat 0 = n.ns.getD (m.ns.getD (a.es.getD i default).fr.toNat 0).toNat 0 := thr_get (by rw [h.ln]; omega)
    have e2 : (compM m n).ns.getD (a.es.getD i default).tq.toNat 0 = n.ns.getD (m.ns.getD (a.es.getD i default).tq.toNat 0).toNat 0 := thr_get (by rw [h.ln]; omega)
    rw [e, e1, e2, h4, h5]
    exact ⟨k1, h3.trans k3, k4, k5⟩
theorem thr_assoc {l k j : List Int} (h : ∀ x ∈ l, 0 ≤ x ∧ x < k.length) : thr (thr l k) j = thr l (thr k j) := by
  unfold thr
  rw [List.map_map]
  apply List.map_congr_left
  intro x hx
  have hr := h x hx
  show j.getD (k.getD x.toNat 0).toNat 0 = (thr k j).getD x.toNat 0
  rw [thr_get (by omega)]
theorem MorOk.rn {a b : Gr} {m : Mo} (h : MorOk a b m) : ∀ x ∈ m.ns, 0 ≤ x ∧ x < b.ns.length := fun x hx => by
  obtain ⟨i, hi, rfl⟩ := List.mem_iff_getElem.1 hx
  have := (h.nd i (by rw [← h.ln]; exact hi)).1
  rwa [getD_eq hi] at this
theorem MorOk.re {a b : Gr} {m : Mo} (h : MorOk a b m) : ∀ x ∈ m.es, 0 ≤ x ∧ x < b.es.length := fun x hx => by
  obtain ⟨i, hi, rfl⟩ := List.mem_iff_getElem.1 hx
  have := (h.ed i (by rw [← h.le]; exact hi)).1
  rwa [getD_eq hi] at this
theorem comp_assoc {a b c d : Gr} {m n o : Mo} (h : MorOk a b m) (k : MorOk b c n) (_ : MorOk c d o) : compM (compM m n) o = compM m (compM n o) := by
  unfold compM
  congr 1
  · exact thr_assoc fun x hx => by have := h.rn x hx; rw [k.ln]; exact this
  · exact thr_assoc fun x hx => by have := h.re x hx; rw [k.le]; exact this
def idM (g : Gr) : Mo := ⟨numS (0 : Nat) g.ns.length, numS (0 : Nat) g.es.length⟩
theorem thr_num {l : List Int} : thr (numS (0 : Nat) l.length) l = l := by
  apply List.ext_getElem (by rw [thr_len, num_length])
  intro i h1 h2
  rw [← getD_eq h1, thr_get (by rw [num_length]; exact h2), num_get h2, ← getD_eq h2]
  congr 1
  omega
theorem num_thr {l : List Int} {n : Nat} (h : ∀ x ∈ l, 0 ≤ x ∧ x < n) : thr l (numS (0 : Nat) n) = l := by
  unfold thr
  refine (List.map_congr_left fun x hx => ?_).trans (List.map_id l)
  have := h x hx
  rw [num_get (by omega)]
  show ((0 : Nat) : Int) + (x.toNat : Int) = x
  omega
theorem id_ok {g : Gr} (h : validE g = 0) : MorOk g g (idM g) := by
  have gn : ∀ i, i < g.ns.length → (idM g).ns.getD i 0 = (i : Int) := fun i hi => by
    show (numS (0 : Nat) g.ns.length).getD i 0 = i
    rw [num_get hi]; omega
  have ge : ∀ i, i < g.es.length → (idM g).es.getD i 0 = (i : Int) := fun i hi => by
    show (numS (0 : Nat) g.es.length).getD i 0 = i
    rw [num_get hi]; omega
  refine ⟨h, h, num_length _ _, num_length _ _, fun i hi => ?_, fun i hi => ?_⟩
  · rw [gn i hi, Int.toNat_natCast]
    exact ⟨by omega, rfl⟩
  · obtain ⟨⟨f1, f2⟩, f3, f4⟩ := valid_at h hi
    rw [ge i hi, Int.toNat_natCast, gn _ (by omega), gn _ (by omega)]
    exact ⟨by omega, rfl, by omega, by omega⟩
theorem id_left {a b : Gr} {m : Mo} (h : MorOk a b m) : compM (idM a) m = m := by
  unfold compM idM
  rw [← h.ln, ← h.le]
  rw [thr_num, thr_num]
theorem id_right {a b : Gr} {m : Mo} (h : MorOk a b m) : compM m (idM b) = m := by
  unfold compM idM
  rw [num_thr h.rn, num_thr h.re]

/-! injective, surjective -/
def Cov (l : List Int) (n : Nat) : Prop := ∀ k : Nat, k < n → (k : Int) ∈ l
theorem nodup_iff {l : List Int} : l.Nodup ↔ ∀ i k, i < l.length → k < i → l.getD i 0 ≠ l.getD k 0 := by
  constructor
  · intro h i k hi hk e
    rw [getD_eq hi, getD_eq (by omega)] at e
    exact List.pairwise_iff_getElem.1 h k i (by omega) hi hk e.symm
  · intro h
    apply List.pairwise_iff_getElem.2
    intro i j hi hj hij e
    exact h j i hj hij (by rw [getD_eq hj, getD_eq hi]; exact e.symm)
theorem thr_inj {l k : List Int} (h : ∀ x ∈ l, 0 ≤ x ∧ x < k.length) (h1 : l.Nodup) (h2 : k.Nodup) : (thr l k).Nodup := by
  rw [nodup_iff] at *
  intro i j hi hj e
  rw [thr_len] at hi
  rw [thr_get hi, thr_get (by omega)] at e
  have a1 := h _ (getD_mem (d := (0 : Int)) hi)
  have a2 := h _ (getD_mem (d := (0 : Int)) (show j < l.length by omega))
  have hne := h1 i j hi hj
  rcases Nat.lt_trichotomy (l.getD i 0).toNat (l.getD j 0).toNat with h3 | h3 | h3
  · exact h2 _ _ (by omega) h3 e.symm
  · exact hne (by omega)
  · exact h2 _ _ (by omega) h3 e
theorem thr_inj_first {l k : List Int} (h : (thr l k).Nodup) : l.Nodup := by
  rw [nodup_iff] at *
  intro i j hi hj e
  exact h i j (by rw [thr_len]; exact hi) hj (by rw [thr_get hi, thr_get (by omega), e])
theorem thr_cov {l k : List Int} {n : Nat} (h1 : Cov l k.length) (h2 : Cov k n) : Cov (thr l k) n := by
  intro q hq
  obtain ⟨i, hi, e⟩ := List.mem_iff_getElem.1 (h2 q hq)
  have hm := h1 i hi
  unfold thr
  exact List.mem_map.2 ⟨i, hm, by rw [Int.toNat_natCast, getD_eq hi]; exact e⟩
theorem thr_cov_second {l k : List Int} {n : Nat} (h : ∀ x ∈ l, 0 ≤ x ∧ x < k.length) (h1 : Cov (thr l k) n) : Cov k n := by
  intro q hq
  obtain ⟨x, hx, e⟩ := List.mem_map.1 (h1 q hq)
  have := h x hx
  rw [← e]
  exact getD_mem (by omega)

/-! inverses -/
def lastAt (l : List Int) (k : Int) : Nat → Int
  | 0 => -1
  | j + 1 => if l.getD j 0 = k then (j : Int) else lastAt l k j
theorem lastAt_of {l : List Int} (h : l.Nodup) {i j : Nat} (hi : i < j) (hj : j ≤ l.length) : lastAt l (l.getD i 0) j = i := by
  induction j with
  | zero => omega
  | succ j ih =>
    simp only [lastAt]
    by_cases e : i = j
    · subst e; rw [if_pos rfl]
    · rw [if_neg (fun e2 => nodup_iff.1 h j i (by omega) (by omega) e2)]
      exact ih (by omega) (by omega)
def backL (l : List Int) (n : Nat) : List Int := coll (fun k => [lastAt l (k : Int) l.length]) n
theorem backL_len (l : List Int) (n : Nat) : (backL l n).length = n := coll_len _ _
theorem backL_get (l : List Int) {n k : Nat} (h : k < n) : (backL l n).getD k 0 = lastAt l (k : Int) l.length := coll_getD _ h _
/-- where k is, in a list that has it once -/
theorem backL_at {l : List Int} {n : Nat} (h : l.Nodup) (hr : ∀ x ∈ l, 0 ≤ x ∧ x < n) {i : Nat} (hi : i < l.length) : (backL l n).getD (l.getD i 0).toNat 0 = i := by
  have := hr _ (getD_mem (d := (0 : Int)) hi)
  rw [backL_get l (by omega), show (((l.getD i 0).toNat : Nat) : Int) = l.getD i 0 by omega]
  exact lastAt_of h hi (Nat.le_refl _)
theorem cov_at {l : List Int} {n k : Nat} (h : Cov l n) (hk : k < n) : ∃ i, i < l.length ∧ l.getD i 0 = k := by
  obtain ⟨i, hi, e⟩ := List.mem_iff_getElem.1 (h k hk)
  exact ⟨i, hi, by rw [getD_eq hi]; exact e⟩
theorem thr_back {l : List Int} {n : Nat} (h : l.Nodup) (hr : ∀ x ∈ l, 0 ≤ x ∧ x < n) : thr l (backL l n) = numS (0 : Nat) l.length := by
  apply List.ext_getElem (by rw [thr_len, num_length])
  intro i h1 h2
  rw [thr_len] at h1
  rw [← getD_eq (by rw [thr_len]; exact h1), thr_get h1, backL_at h hr h1, ← getD_eq h2, num_get h1]
  omega
theorem back_thr {l : List Int} {n : Nat} (h : l.Nodup) (hr : ∀ x ∈ l, 0 ≤ x ∧ x < n) (hc : Cov l n) : thr (backL l n) l = numS (0 : Nat) n := by
  apply List.ext_getElem (by rw [thr_len, backL_len, num_length])
  intro k h1 h2
  rw [thr_len, backL_len] at h1
  obtain ⟨i, hi, e⟩ := cov_at hc h1
  rw [← getD_eq (by rw [thr_len, backL_len]; exact h1), thr_get (by rw [backL_len]; exact h1), ← getD_eq h2, num_get h1]
  have hb := backL_at h hr hi
  rw [e, Int.toNat_natCast] at hb
  rw [hb, Int.toNat_natCast, e]
  omega
def invM (b : Gr) (m : Mo) : Mo := ⟨backL m.ns b.ns.length, backL m.es b.es.length⟩
structure IsoOk (a b : Gr) (m : Mo) : Prop where
  ok : MorOk a b m
  n1 : m.ns.Nodup
  n2 : m.es.Nodup
  c1 : Cov m.ns b.ns.length
  c2 : Cov m.es b.es.length
theorem inv_ok {a b : Gr} {m : Mo} (h : IsoOk a b m) : MorOk b a (invM b m) := by
  have rn := h.ok.rn
  have re := h.ok.re
  have bn : ∀ i, i < a.ns.length → (invM b m).ns.getD (m.ns.getD i 0).toNat 0 = i := fun i hi => backL_at h.n1 rn (by rw [h.ok.ln]; exact hi)
  have be : ∀ i, i < a.es.length → (invM b m).es.getD (m.es.getD i 0).toNat 0 = i := fun i hi => backL_at h.n2 re (by rw [h.ok.le]; exact hi)
  refine ⟨h.ok.vb, h.ok.va, backL_len _ _, backL_len _ _, fun k hk => ?_, fun k hk => ?_⟩
  · obtain ⟨i, hi, e⟩ := cov_at h.c1 hk
    rw [h.ok.ln] at hi
    obtain ⟨_, h3⟩ := h.ok.nd i hi
    have hb := bn i hi
    rw [e, Int.toNat_natCast] at hb h3
    rw [hb, Int.toNat_natCast]
    exact ⟨by omega, h3.symm⟩
  · obtain ⟨i, hi, e⟩ := cov_at h.c2 hk
    rw [h.ok.le] at hi
    obtain ⟨_, h3, h4, h5⟩ := h.ok.ed i hi
    obtain ⟨⟨f1, f2⟩, f3, f4⟩ := valid_at h.ok.va hi
    have hb := be i hi
    rw [e, Int.toNat_natCast] at hb h3 h4 h5
    rw [hb, Int.toNat_natCast, ← h4, ← h5, bn _ (by omega), bn _ (by omega)]
    exact ⟨by omega, h3.symm, by omega, by omega⟩
theorem inv_first {a b : Gr} {m : Mo} (h : IsoOk a b m) : compM m (invM b m) = idM a := by
  unfold compM invM idM
  rw [thr_back h.n1 h.ok.rn, thr_back h.n2 h.ok.re, h.ok.ln, h.ok.le]
theorem inv_second {a b : Gr} {m : Mo} (h : IsoOk a b m) : compM (invM b m) m = idM b := by
  unfold compM invM idM
  rw [back_thr h.n1 h.ok.rn h.c1, back_thr h.n2 h.ok.re h.c2]

/-! what the laws about kinds ask of compositions -/
def InjM (m : Mo) : Prop := m.ns.Nodup ∧ m.es.Nodup
def SurM (b : Gr) (m : Mo) : Prop := Cov m.ns b.ns.length ∧ Cov m.es b.es.length
theorem inj_comp {a b c : Gr} {m n : Mo} (h : MorOk a b m) (k : MorOk b c n) (h1 : InjM m) (h2 : InjM n) : InjM (compM m n) :=
  ⟨thr_inj (fun x hx => by rw [k.ln]; exact h.rn x hx) h1.1 h2.1, thr_inj (fun x hx => by rw [k.le]; exact h.re x hx) h1.2 h2.2⟩
theorem inj_first {m n : Mo} (h : InjM (compM m n)) : InjM m := ⟨thr_inj_first h.1, thr_inj_first h.2⟩
theorem sur_comp {a b c : Gr} {m n : Mo} (_ : MorOk a b m) (k : MorOk b c n) (h1 : SurM b m) (h2 : SurM c n) : SurM c (compM m n) :=
  ⟨thr_cov (by rw [k.ln]; exact h1.1) h2.1, thr_cov (by rw [k.le]; exact h1.2) h2.2⟩
theorem sur_second {a b c : Gr} {m n : Mo} (h : MorOk a b m) (k : MorOk b c n) (h1 : SurM c (compM m n)) : SurM c n :=
  ⟨thr_cov_second (fun x hx => by rw [k.ln]; exact h.rn x hx) h1.1, thr_cov_second (fun x hx => by rw [k.le]; exact h.re x hx) h1.2⟩

end Go.Proofs.YtaeelanbkdkppaaDoor

/-
  All morphisms between two graphs, ascending, as plain data. (Work ahead for stage 6.)
-/
namespace Go.Proofs.YtaeelanbkdkppaaDoor

def want (a : Gr) (l : List Int) (j : Nat) : Ed := ⟨(a.es.getD j default).ty, l.getD (a.es.getD j default).fr.toNat 0, l.getD (a.es.getD j default).tq.toNat 0⟩
/-- the edges' images from the place es.length on -/
def edR (a b : Gr) (l : List Int) : Nat → List Int → List Mo
  | 0, es => [⟨l, es⟩]
  | d + 1, es => (List.range b.es.length).flatMap fun k => if b.es.getD k default = want a l es.length then edR a b l d (es ++ [(k : Int)]) else []
/-- each edge whose later end is the last node has an image -/
def fitsP (a b : Gr) (l : List Int) : Prop := ∀ j, j < a.es.length → max (a.es.getD j default).fr (a.es.getD j default).tq = (l.length : Int) - 1 → ∃ k, k < b.es.length ∧ b.es.getD k default = want a l j
noncomputable instance (a b : Gr) (l : List Int) : Decidable (fitsP a b l) := Classical.propDecidable _
noncomputable def ndR (a b : Gr) : Nat → List Int → List Mo
  | 0, l => edR a b l a.es.length []
  | d + 1, l => (List.range b.ns.length).flatMap fun k => if b.ns.getD k 0 = a.ns.getD l.length 0 ∧ fitsP a b (l ++ [(k : Int)]) then ndR a b d (l ++ [(k : Int)]) else []
noncomputable def allR (a b : Gr) : List Mo := ndR a b a.ns.length []

def EdAt (a b : Gr) (l es : List Int) (j : Nat) : Prop := (0 ≤ es.getD j 0 ∧ es.getD j 0 < b.es.length) ∧ b.es.getD (es.getD j 0).toNat default = want a l j
def NdAt (a b : Gr) (l : List Int) (j : Nat) : Prop := (0 ≤ l.getD j 0 ∧ l.getD j 0 < b.ns.length) ∧ b.ns.getD (l.getD j 0).toNat 0 = a.ns.getD j 0
theorem getD_app {l : List Int} {x : Int} : (l ++ [x]).getD l.length 0 = x := by
  rw [List.getD_eq_getElem?_getD, List.getElem?_append_right (Nat.le_refl _), Nat.sub_self]; rfl
theorem getD_pre {l t : List Int} {i : Nat} (h : i < l.length) : (l ++ t).getD i 0 = l.getD i 0 := by
  rw [List.getD_eq_getElem?_getD, List.getElem?_append_left h, ← List.getD_eq_getElem?_getD]
theorem pre_next {l m : List Int} (h : l <+: m) (hl : l.length < m.length) : l ++ [m.getD l.length 0] <+: m := by
  obtain ⟨t, rfl⟩ := h
  cases t with
  | nil => simp at hl
  | cons x t =>
    have e : (l ++ x :: t).getD l.length 0 = x := by
      rw [List.getD_eq_getElem?_getD, List.getElem?_append_right (Nat.le_refl _), Nat.sub_self]; rfl
    rw [e]
    exact ⟨t, by simp⟩
theorem mem_edR {a b : Gr} {l : List Int} {d : Nat} {es : List Int} {m : Mo} (hd : es.length + d = a.es.length) :
    m ∈ edR a b l d es ↔ m.ns = l ∧ es <+: m.es ∧ m.es.length = a.es.length ∧ ∀ j, es.length ≤ j → j < a.es.length → EdAt a b l m.es j := by
  induction d generalizing es with
  | zero =>
    simp only [edR, List.mem_singleton]
    constructor
    · rintro rfl
      exact ⟨rfl, List.prefix_refl _, by simpa using hd, fun j h1 h2 => by omega⟩
    · rintro ⟨h1, h2, h3, _⟩
      have := List.IsPrefix.eq_of_length h2 (by omega)
      obtain ⟨x, y⟩ := m
      simp only at h1 this
      rw [h1, this]
  | succ d ih =>
    simp only [edR, List.mem_flatMap, List.mem_range]
    constructor
    · rintro ⟨k, hk, hm⟩
      split at hm
      · rename_i hw
        obtain ⟨h1, h2, h3, h4⟩ := (ih (by simp; omega)).1 hm
        refine ⟨h1, (List.prefix_append es [(k : Int)]).trans h2, h3, fun j hj hj2 => ?_⟩
        by_cases e : j = es.length
        · subst e
          obtain ⟨t, ht⟩ := h2
          have he : m.es.getD es.length 0 = (k : Int) := by rw [← ht, getD_pre (by simp), getD_app]
          unfold EdAt
          rw [he, Int.toNat_natCast]
          exact ⟨by omega, hw⟩
        · exact h4 j (by simp; omega) hj2
      · cases hm
    · rintro ⟨h1, h2, h3, h4⟩
      obtain ⟨⟨g1, g2⟩, g3⟩ := h4 es.length (Nat.le_refl _) (by omega)
      refine ⟨(m.es.getD es.length 0).toNat, by omega, ?_⟩
      rw [if_pos g3]
      have hc : (((m.es.getD es.length 0).toNat : Nat) : Int) = m.es.getD es.length 0 := by omega
      rw [hc]
      exact (ih (by simp; omega)).2 ⟨h1, pre_next h2 (by omega), h3, fun j hj hj2 => h4 j (by simp at hj; omega) hj2⟩
theorem mem_ndR {a b : Gr} {d : Nat} {l : List Int} {m : Mo} (hd : l.length + d = a.ns.length) :
    m ∈ ndR a b d l ↔ l <+: m.ns ∧ m.ns.length = a.ns.length ∧ m.es.length = a.es.length ∧ (∀ j, l.length ≤ j → j < a.ns.length → NdAt a b m.ns j ∧ fitsP a b (m.ns.take (j + 1))) ∧ ∀ j, j < a.es.length → EdAt a b m.ns m.es j := by
  induction d generalizing l with
  | zero =>
    simp only [ndR]
    rw [mem_edR (by simp)]
    constructor
    · rintro ⟨h1, h2, h3, h4⟩
      exact ⟨by rw [h1]; exact List.prefix_refl _, by rw [h1]; simpa using hd, h3, fun j h5 h6 => by omega, fun j hj => by rw [h1]; exact h4 j (Nat.zero_le _) hj⟩
    · rintro ⟨h1, h2, h3, _, h4⟩
      have := List.IsPrefix.eq_of_length h1 (by omega)
      exact ⟨this.symm, List.nil_prefix, h3, fun j _ hj => by rw [this]; exact h4 j hj⟩
  | succ d ih =>
    simp only [ndR, List.mem_flatMap, List.mem_range]
    constructor
    · rintro ⟨k, hk, hm⟩
      split at hm
      · rename_i hw
        obtain ⟨h1, h2, h3, h4, h5⟩ := (ih (by simp; omega)).1 hm
        refine ⟨(List.prefix_append l [(k : Int)]).trans h1, h2, h3, fun j hj hj2 => ?_, h5⟩
        by_cases e : j = l.length
        · subst e
          obtain ⟨t, ht⟩ := h1
          have he : m.ns.getD l.length 0 = (k : Int) := by rw [← ht, getD_pre (by simp), getD_app]
          have htk : m.ns.take (l.length + 1) = l ++ [(k : Int)] := by
            rw [← ht, List.take_append_of_le_length (by simp), List.take_of_length_le (by simp)]
          refine ⟨?_, by rw [htk]; exact hw.2⟩
          unfold NdAt
          rw [he, Int.toNat_natCast]
          exact ⟨by omega, hw.1⟩
        · exact h4 j (by simp; omega) hj2
      · cases hm
    · rintro ⟨h1, h2, h3, h4, h5⟩
      obtain ⟨⟨⟨g1, g2⟩, g3⟩, g4⟩ := h4 l.length (Nat.le_refl _) (by omega)
      have hp := pre_next h1 (by omega)
      have htk : m.ns.take (l.length + 1) = l ++ [m.ns.getD l.length 0] := by
        obtain ⟨t, ht⟩ := hp
        have := congrArg (List.take (l.length + 1)) ht
        rw [List.take_append_of_le_length (by simp), List.take_of_length_le (by simp)] at this
        exact this.symm
      refine ⟨(m.ns.getD l.length 0).toNat, by omega, ?_⟩
      have hc : (((m.ns.getD l.length 0).toNat : Nat) : Int) = m.ns.getD l.length 0 := by omega
      rw [hc, if_pos ⟨g3, by rw [← htk]; exact g4⟩]
      exact (ih (by simp; omega)).2 ⟨hp, h2, h3, fun j hj hj2 => h4 j (by simp at hj; omega) hj2, h5⟩
theorem edAt_iff {a b : Gr} {m : Mo} {j : Nat} : EdAt a b m.ns m.es j ↔ (0 ≤ m.es.getD j 0 ∧ m.es.getD j 0 < b.es.length) ∧ (a.es.getD j default).ty = (b.es.getD (m.es.getD j 0).toNat default).ty ∧
    m.ns.getD (a.es.getD j default).fr.toNat 0 = (b.es.getD (m.es.getD j 0).toNat default).fr ∧ m.ns.getD (a.es.getD j default).tq.toNat 0 = (b.es.getD (m.es.getD j 0).toNat default).tq := by
  unfold EdAt want
  generalize b.es.getD (m.es.getD j 0).toNat default = y
  obtain ⟨t, f, o⟩ := y
  simp only [Ed.mk.injEq]
  constructor
  · rintro ⟨h, h1, h2, h3⟩; exact ⟨h, h1.symm, h2.symm, h3.symm⟩
  · rintro ⟨h, h1, h2, h3⟩; exact ⟨h, h1.symm, h2.symm, h3.symm⟩
/-- the list has the morphisms, all of them and no others -/
theorem mem_allR {a b : Gr} (ha : validE a = 0) (hb : validE b = 0) {m : Mo} : m ∈ allR a b ↔ MorOk a b m := by
  unfold allR
  rw [mem_ndR (by simp)]
  constructor
  · rintro ⟨_, h2, h3, h4, h5⟩
    exact ⟨ha, hb, h2, h3, fun i hi => (h4 i (Nat.zero_le _) hi).1, fun i hi => edAt_iff.1 (h5 i hi)⟩
  · intro h
    refine ⟨List.nil_prefix, h.ln, h.le, fun j _ hj => ⟨h.nd j hj, fun q hq hmax => ?_⟩, fun j hj => edAt_iff.2 (h.ed j hj)⟩
    obtain ⟨⟨e1, e2⟩, e3⟩ := edAt_iff.2 (h.ed q hq)
    obtain ⟨⟨f1, f2⟩, f3, f4⟩ := valid_at ha hq
    have hlen : (m.ns.take (j + 1)).length = j + 1 := by rw [List.length_take, h.ln]; omega
    rw [hlen] at hmax
    refine ⟨(m.es.getD q 0).toNat, by omega, ?_⟩
    rw [e3]
    unfold want
    have tk : ∀ i : Nat, i < j + 1 → (m.ns.take (j + 1)).getD i 0 = m.ns.getD i 0 := fun i hi => by
      rw [List.getD_eq_getElem?_getD, List.getElem?_take_of_lt hi, ← List.getD_eq_getElem?_getD]
    rw [tk _ (by omega), tk _ (by omega)]

/-! ascending -/
def ltL (l k : List Int) : Prop := ∃ j, (∀ i, i < j → l.getD i 0 = k.getD i 0) ∧ l.getD j 0 < k.getD j 0
def ltM (m n : Mo) : Prop := ltL m.ns n.ns ∨ (m.ns = n.ns ∧ ltL m.es n.es)
theorem ltL_asymm {l k : List Int} (h : ltL l k) (h2 : ltL k l) : False := by
  obtain ⟨j, h1, h3⟩ := h
  obtain ⟨i, h4, h5⟩ := h2
  rcases Nat.lt_trichotomy i j with e | e | e
  · have := h1 i e; omega
  · subst e; omega
  · have := h4 j e; omega
theorem ltL_irrefl {l : List Int} (h : ltL l l) : False := by
  obtain ⟨j, _, h3⟩ := h
  omega
theorem ltM_asymm {m n : Mo} (h : ltM m n) (h2 : ltM n m) : False := by
  rcases h with h | ⟨e, h⟩
  · rcases h2 with h2 | ⟨e2, _⟩
    · exact ltL_asymm h h2
    · rw [e2] at h; exact ltL_irrefl h
  · rcases h2 with h2 | ⟨_, h2⟩
    · rw [e] at h2; exact ltL_irrefl h2
    · exact ltL_asymm h h2
theorem ltL_of {p l k : List Int} {x y : Int} (h1 : p ++ [x] <+: l) (h2 : p ++ [y] <+: k) (hxy : x < y) : ltL l k := by
  obtain ⟨t, rfl⟩ := h1
  obtain ⟨s, rfl⟩ := h2
  refine ⟨p.length, fun i hi => ?_, ?_⟩
  · rw [List.append_assoc, List.append_assoc, getD_pre hi, getD_pre hi]
  · have e : ∀ (z : Int) (q : List Int), (p ++ [z] ++ q).getD p.length 0 = z := fun z q => by
      rw [getD_pre (l := p ++ [z]) (t := q) (by rw [List.length_append]; exact Nat.lt_succ_self _), getD_app]
    rw [e, e]; exact hxy
theorem edR_asc {a b : Gr} {l : List Int} {d : Nat} {es : List Int} (hd : es.length + d = a.es.length) : (edR a b l d es).Pairwise ltM := by
  induction d generalizing es with
  | zero => simp [edR]
  | succ d ih =>
    simp only [edR]
    rw [List.pairwise_flatMap]
    refine ⟨fun k _ => ?_, ?_⟩
    · split
      · exact ih (by simp; omega)
      · exact List.Pairwise.nil
    · refine List.pairwise_lt_range.imp fun {k k2} hk m hm n hn => ?_
      split at hm
      · split at hn
        · obtain ⟨g1, g2, _⟩ := (mem_edR (by simp; omega)).1 hm
          obtain ⟨h1, h2, _⟩ := (mem_edR (by simp; omega)).1 hn
          exact .inr ⟨g1.trans h1.symm, ltL_of g2 h2 (by omega)⟩
        · cases hn
      · cases hm
theorem ndR_asc {a b : Gr} {d : Nat} {l : List Int} (hd : l.length + d = a.ns.length) : (ndR a b d l).Pairwise ltM := by
  induction d generalizing l with
  | zero => exact edR_asc (by simp)
  | succ d ih =>
    simp only [ndR]
    rw [List.pairwise_flatMap]
    refine ⟨fun k _ => ?_, ?_⟩
    · split
      · exact ih (by simp; omega)
      · exact List.Pairwise.nil
    · refine List.pairwise_lt_range.imp fun {k k2} hk m hm n hn => ?_
      split at hm
      · split at hn
        · obtain ⟨g1, _⟩ := (mem_ndR (by simp; omega)).1 hm
          obtain ⟨h1, _⟩ := (mem_ndR (by simp; omega)).1 hn
          exact .inl (ltL_of g1 h1 (by omega))
        · cases hn
      · cases hm
theorem allR_asc (a b : Gr) : (allR a b).Pairwise ltM := ndR_asc (by simp)
/-- an ascending list of all morphisms is this one -/
theorem allR_of {a b : Gr} (ha : validE a = 0) (hb : validE b = 0) {l : List Mo} (h1 : ∀ m, m ∈ l ↔ MorOk a b m) (h2 : l.Pairwise ltM) : l = allR a b := by
  have nd : ∀ {q : List Mo}, q.Pairwise ltM → q.Nodup := fun {q} h => h.imp fun {x y} hxy e => by subst e; exact ltM_asymm hxy hxy
  have hp : l.Perm (allR a b) := (List.perm_ext_iff_of_nodup (nd h2) (nd (allR_asc a b))).2 fun m => by rw [h1, mem_allR ha hb]
  exact hp.eq_of_pairwise (fun x y _ _ hx hy => (ltM_asymm hx hy).elim) h2 (allR_asc a b)

end Go.Proofs.YtaeelanbkdkppaaDoor

/-
  The search for the images of nodes, as plain data: choices, links, what a link leaves of them, all solutions ascending.
-/
namespace Go.Proofs.YtaeelanbkdkppaaDoor

/-- what an edge demands of the images of its ends -/
structure Lk where
  fr : Nat
  tq : Nat
  reach : Nat → Nat
abbrev Choices := Nat → Nat
def sh (v : Nat) : Nat := 2 ^ v
theorem sh_lt {v : Nat} (h : v < 40) : sh v < 1099511627776 := by
  have := Nat.pow_lt_pow_right (a := 2) (by decide) h
  simpa [sh] using this
theorem sh_bit (v i : Nat) : (sh v).testBit i = decide (v = i) := testBit_one v i
theorem bitsOf_sh {v : Nat} (h : v < 40) : bitsOf (sh v) = [v] := bitsOf_one (by omega)
def upd (c : Choices) (i x : Nat) : Choices := fun k => if k = i then x else c k
theorem upd_same (c : Choices) (i x : Nat) : upd c i x i = x := if_pos rfl
theorem upd_other (c : Choices) {i k : Nat} (x : Nat) (h : k ≠ i) : upd c i x k = c k := if_neg h

theorem or_lt {a b : Nat} (ha : a < 1099511627776) (hb : b < 1099511627776) : a ||| b < 1099511627776 := Nat.or_lt_two_pow (n := 40) ha hb
theorem and_lt {a : Nat} (b : Nat) (ha : a < 1099511627776) : a &&& b < 1099511627776 := Nat.lt_of_le_of_lt Nat.and_le_left ha
theorem bit_lt {a i : Nat} (ha : a < 1099511627776) (h : a.testBit i = true) : i < 40 := by
  rcases Nat.lt_or_ge i 40 with h1 | h1
  · exact h1
  · rw [Nat.testBit_lt_two_pow (Nat.lt_of_lt_of_le ha (Nat.pow_le_pow_right (by decide : 0 < 2) h1 : 2 ^ 40 ≤ 2 ^ i))] at h
    cases h
theorem bits40 {a v : Nat} (ha : a < 1099511627776) (h : v ∈ bitsOf a) : v < 40 := bit_lt ha (mem_bitsOf.1 h).2
theorem mem_bits40 {a v : Nat} (ha : a < 1099511627776) : v ∈ bitsOf a ↔ a.testBit v = true := by
  rw [mem_bitsOf]
  exact ⟨fun h => h.2, fun h => ⟨by have := bit_lt ha h; omega, h⟩⟩
theorem ne_zero_bit {a : Nat} (ha : a < 1099511627776) (h : a ≠ 0) : ∃ v, v < 40 ∧ a.testBit v = true := by
  have hn : bitsOf a ≠ [] := fun e => h ((bitsOf_eq_nil (by omega)).1 e)
  obtain ⟨v, hv⟩ := List.exists_mem_of_ne_nil _ hn
  exact ⟨v, bits40 ha hv, (mem_bitsOf.1 hv).2⟩
theorem bit_ne_zero {a v : Nat} (h : a.testBit v = true) : a ≠ 0 := by
  rintro rfl
  simp at h

/-! what a link leaves -/
def srcF (L : Lk) (tq : Nat) (pre : List Nat) : Nat := pre.foldl (fun s v => if L.reach v &&& tq ≠ 0 then s ||| sh v else s) 0
def tgtF (L : Lk) (tq : Nat) (pre : List Nat) : Nat := pre.foldl (fun s v => if L.reach v &&& tq ≠ 0 then s ||| (L.reach v &&& tq) else s) 0
theorem srcF_snoc (L : Lk) (tq : Nat) (pre : List Nat) (v : Nat) : srcF L tq (pre ++ [v]) = if L.reach v &&& tq ≠ 0 then srcF L tq pre ||| sh v else srcF L tq pre := by
  unfold srcF
  rw [List.foldl_append]
  rfl
theorem tgtF_snoc (L : Lk) (tq : Nat) (pre : List Nat) (v : Nat) : tgtF L tq (pre ++ [v]) = if L.reach v &&& tq ≠ 0 then tgtF L tq pre ||| (L.reach v &&& tq) else tgtF L tq pre := by
  unfold tgtF
  rw [List.foldl_append]
  rfl
theorem snocInd {α : Type} {p : List α → Prop} (h0 : p []) (h1 : ∀ l x, p l → p (l ++ [x])) (l : List α) : p l := by
  have : ∀ k : List α, p k.reverse := by
    intro k
    induction k with
    | nil => exact h0
    | cons x k ih => rw [List.reverse_cons]; exact h1 _ _ ih
  have h := this l.reverse
  rwa [List.reverse_reverse] at h
theorem srcF_bit (L : Lk) (tq : Nat) (pre : List Nat) (i : Nat) : (srcF L tq pre).testBit i = decide (i ∈ pre ∧ L.reach i &&& tq ≠ 0) := by
  induction pre using snocInd with
  | h0 => simp [srcF]
  | h1 l x ih =>
    rw [srcF_snoc]
    by_cases h : L.reach x &&& tq ≠ 0
    · rw [if_pos h, Nat.testBit_or, ih, sh_bit]
      by_cases e : x = i
      · subst e; simp [h]
      · simp [e, Ne.symm e]
    · rw [if_neg h, ih]
      by_cases e : i = x
      · subst e; simp [h]
      · simp [e]
theorem tgtF_bit (L : Lk) (tq : Nat) (pre : List Nat) (i : Nat) : (tgtF L tq pre).testBit i = decide (tq.testBit i = true ∧ ∃ v ∈ pre, (L.reach v).testBit i = true) := by
  induction pre using snocInd with
  | h0 => simp [tgtF]
  | h1 l x ih =>
    rw [tgtF_snoc]
    by_cases h : L.reach x &&& tq ≠ 0
    · rw [if_pos h, Nat.testBit_or, ih, Nat.testBit_and]
      by_cases e : tq.testBit i = true
      · rw [e]
        simp only [true_and, Bool.and_true]
        by_cases e2 : (L.reach x).testBit i = true
        · rw [e2]
          rw [Bool.or_true]
          exact (decide_eq_true ⟨x, List.mem_append_right _ (List.mem_singleton.2 rfl), e2⟩).symm
        · rw [Bool.eq_false_iff.2 e2, Bool.or_false]
          apply decide_eq_decide.2
          constructor
          · rintro ⟨v, hv, hb⟩; exact ⟨v, List.mem_append_left _ hv, hb⟩
          · rintro ⟨v, hv, hb⟩
            rcases List.mem_append.1 hv with hv | hv
            · exact ⟨v, hv, hb⟩
            · rw [List.mem_singleton.1 hv] at hb; exact absurd hb e2
      · simp [e]
    · rw [if_neg h, ih]
      have h0 : L.reach x &&& tq = 0 := Classical.not_not.1 h
      apply decide_eq_decide.2
      constructor
      · rintro ⟨ht, v, hv, hb⟩; exact ⟨ht, v, List.mem_append_left _ hv, hb⟩
      · rintro ⟨ht, v, hv, hb⟩
        rcases List.mem_append.1 hv with hv | hv
        · exact ⟨ht, v, hv, hb⟩
        · rw [List.mem_singleton.1 hv] at hb
          have : (L.reach x &&& tq).testBit i = true := by rw [Nat.testBit_and, hb, ht]; rfl
          exact absurd h0 (bit_ne_zero this)
theorem srcF_lt (L : Lk) (tq : Nat) (pre : List Nat) (h : ∀ v ∈ pre, v < 40) : srcF L tq pre < 1099511627776 := by
  induction pre using snocInd with
  | h0 => exact (by decide : (0 : Nat) < 1099511627776)
  | h1 l x ih =>
    rw [srcF_snoc]
    have ih := ih fun v hv => h v (List.mem_append_left _ hv)
    split
    · exact or_lt ih (sh_lt (h x (by simp)))
    · exact ih
theorem tgtF_lt (L : Lk) (tq : Nat) (ht : tq < 1099511627776) (pre : List Nat) : tgtF L tq pre < 1099511627776 := by
  induction pre using snocInd with
  | h0 => exact (by decide : (0 : Nat) < 1099511627776)
  | h1 l x ih =>
    rw [tgtF_snoc]
    split
    · exact or_lt ih (Nat.lt_of_le_of_lt Nat.and_le_right ht)
    · exact ih
def srcS (L : Lk) (fr tq : Nat) : Nat := srcF L tq (bitsOf fr)
def tgtS (L : Lk) (fr tq : Nat) : Nat := tgtF L tq (bitsOf fr)

/-! solutions -/
def okB (ls : List Lk) (l : List Int) : Bool := ls.all fun L => (L.reach (l.getD L.fr 0).toNat).testBit (l.getD L.tq 0).toNat
/-- a list of images of n nodes out of the choices -/
def Out (n : Nat) (c : Choices) (l : List Int) : Prop := l.length = n ∧ ∀ j, j < n → 0 ≤ l.getD j 0 ∧ (c j).testBit (l.getD j 0).toNat = true
def Sol (n : Nat) (ls : List Lk) (c : Choices) (l : List Int) : Prop := Out n c l ∧ okB ls l = true
def Small (c : Choices) : Prop := ∀ i, c i < 1099511627776
def prodC (c : Choices) : Nat → Nat → List (List Int)
  | 0, _ => [[]]
  | d + 1, i => (bitsOf (c i)).flatMap fun (v : Nat) => (prodC c d (i + 1)).map fun l => (v : Int) :: l
def solL (n : Nat) (ls : List Lk) (c : Choices) : List (List Int) := (prodC c n 0).filter (okB ls)
theorem mem_prodC {c : Choices} (hc : Small c) {d i : Nat} {l : List Int} : l ∈ prodC c d i ↔ l.length = d ∧ ∀ j, j < d → 0 ≤ l.getD j 0 ∧ (c (i + j)).testBit (l.getD j 0).toNat = true := by
  induction d generalizing i l with
  | zero =>
    simp only [prodC, List.mem_singleton]
    constructor
    · rintro rfl; exact ⟨rfl, fun j h => by omega⟩
    · rintro ⟨h, _⟩; exact List.length_eq_zero_iff.1 h
  | succ d ih =>
    simp only [prodC, List.mem_flatMap, List.mem_map]
    constructor
    · rintro ⟨v, hv, k, hk, rfl⟩
      obtain ⟨h1, h2⟩ := ih.1 hk
      refine ⟨by simp [h1], fun j hj => ?_⟩
      cases j with
      | zero =>
        rw [List.getD_cons_zero, Int.toNat_natCast]
        exact ⟨by omega, (mem_bits40 (hc i)).1 hv⟩
      | succ j =>
        rw [List.getD_cons_succ, show i + (j + 1) = i + 1 + j by omega]
        exact h2 j (by omega)
    · rintro ⟨h1, h2⟩
      cases l with
      | nil => simp at h1
      | cons x k =>
        obtain ⟨h3, h4⟩ := h2 0 (by omega)
        rw [List.getD_cons_zero] at h3 h4
        refine ⟨x.toNat, (mem_bits40 (hc i)).2 h4, k, ih.2 ⟨by simpa using h1, fun j hj => ?_⟩, by rw [show ((x.toNat : Nat) : Int) = x by omega]⟩
        have := h2 (j + 1) (by omega)
        rw [List.getD_cons_succ, show i + (j + 1) = i + 1 + j by omega] at this
        exact this
theorem mem_solL {n : Nat} {ls : List Lk} {c : Choices} (hc : Small c) {l : List Int} : l ∈ solL n ls c ↔ Sol n ls c l := by
  unfold solL Sol Out
  rw [List.mem_filter, mem_prodC hc]
  simp only [Nat.zero_add]
theorem ltL_cons {x : Int} {l k : List Int} (h : ltL l k) : ltL (x :: l) (x :: k) := by
  obtain ⟨j, h1, h2⟩ := h
  refine ⟨j + 1, fun i hi => ?_, by rw [List.getD_cons_succ, List.getD_cons_succ]; exact h2⟩
  cases i with
  | zero => rfl
  | succ i => rw [List.getD_cons_succ, List.getD_cons_succ]; exact h1 i (by omega)
theorem ltL_head {x y : Int} {l k : List Int} (h : x < y) : ltL (x :: l) (y :: k) := ⟨0, fun i hi => by omega, h⟩
theorem prodC_asc (c : Choices) (d i : Nat) : (prodC c d i).Pairwise ltL := by
  induction d generalizing i with
  | zero => simp [prodC]
  | succ d ih =>
    simp only [prodC]
    rw [List.pairwise_flatMap]
    refine ⟨fun v _ => ?_, ?_⟩
    · rw [List.pairwise_map]
      exact (ih (i + 1)).imp fun h => ltL_cons h
    · refine (bitsOf_asc (c i)).imp fun {v u} hvu l hl k hk => ?_
      simp only [List.mem_map] at hl hk
      obtain ⟨l, _, rfl⟩ := hl
      obtain ⟨k, _, rfl⟩ := hk
      exact ltL_head (by omega)
theorem solL_asc (n : Nat) (ls : List Lk) (c : Choices) : (solL n ls c).Pairwise ltL := (prodC_asc c n 0).filter _
theorem ltL_nodup {q : List (List Int)} (h : q.Pairwise ltL) : q.Nodup := h.imp fun {x y} hxy e => by subst e; exact ltL_irrefl hxy
theorem asc_ext {l k : List (List Int)} (hl : l.Pairwise ltL) (hk : k.Pairwise ltL) (h : ∀ x, x ∈ l ↔ x ∈ k) : l = k :=
  ((List.perm_ext_iff_of_nodup (ltL_nodup hl) (ltL_nodup hk)).2 h).eq_of_pairwise (fun _ _ _ _ hx hy => (ltL_asymm hx hy).elim) hl hk
theorem solL_ext {n : Nat} {ls : List Lk} {c d : Choices} (hc : Small c) (hd : Small d) (h : ∀ l, Sol n ls c l ↔ Sol n ls d l) : solL n ls c = solL n ls d :=
  asc_ext (solL_asc _ _ _) (solL_asc _ _ _) fun l => by rw [mem_solL hc, mem_solL hd, h]
theorem solL_nil {n : Nat} {ls : List Lk} {c : Choices} (hc : Small c) (h : ∀ l, ¬ Sol n ls c l) : solL n ls c = [] :=
  List.eq_nil_iff_forall_not_mem.2 fun l hl => h l ((mem_solL hc).1 hl)
theorem small_upd {c : Choices} (hc : Small c) {x : Nat} (hx : x < 1099511627776) (i : Nat) : Small (upd c i x) := fun k => by
  unfold upd
  split
  · exact hx
  · exact hc k
theorem solL_settle {n : Nat} {ls : List Lk} {c : Choices} (hc : Small c) {node : Nat} (hn : node < n) (h1 : ∀ i, i < node → ∃ v, bitsOf (c i) = [v]) :
    solL n ls c = (bitsOf (c node)).flatMap fun v => solL n ls (upd c node (sh v)) := by
  have hs : ∀ v ∈ bitsOf (c node), Small (upd c node (sh v)) := fun v hv => small_upd hc (sh_lt (bits40 (hc node) hv)) node
  have hsol : ∀ v ∈ bitsOf (c node), ∀ l, Sol n ls (upd c node (sh v)) l ↔ Sol n ls c l ∧ l.getD node 0 = (v : Int) := by
    intro v hv l
    constructor
    · rintro ⟨⟨a1, a2⟩, a3⟩
      have hv2 := a2 node hn
      rw [upd_same, sh_bit] at hv2
      have e : v = (l.getD node 0).toNat := by simpa using hv2.2
      refine ⟨⟨⟨a1, fun j hj => ?_⟩, a3⟩, by have := hv2.1; omega⟩
      by_cases ej : j = node
      · subst ej
        refine ⟨hv2.1, ?_⟩
        rw [← e]
        exact (mem_bits40 (hc j)).1 hv
      · have := a2 j hj
        rwa [upd_other _ _ ej] at this
    · rintro ⟨⟨⟨a1, a2⟩, a3⟩, e⟩
      refine ⟨⟨a1, fun j hj => ?_⟩, a3⟩
      by_cases ej : j = node
      · subst ej
        rw [upd_same, e, Int.toNat_natCast, sh_bit]
        exact ⟨by omega, by simp⟩
      · rw [upd_other _ _ ej]
        exact a2 j hj
  refine asc_ext (solL_asc _ _ _) ?_ fun l => ?_
  · rw [List.pairwise_flatMap]
    refine ⟨fun v _ => solL_asc _ _ _, ?_⟩
    refine List.Pairwise.imp_of_mem (R := (· < ·)) (fun {v u} hv hu hvu l hl k hk => ?_) (bitsOf_asc (c node))
    obtain ⟨⟨⟨l1, l2⟩, _⟩, l3⟩ := (hsol v hv l).1 ((mem_solL (hs v hv)).1 hl)
    obtain ⟨⟨⟨k1, k2⟩, _⟩, k3⟩ := (hsol u hu k).1 ((mem_solL (hs u hu)).1 hk)
    refine ⟨node, fun i hi => ?_, by rw [l3, k3]; omega⟩
    obtain ⟨x, hx⟩ := h1 i hi
    have m1 := (mem_bits40 (hc i)).2 (l2 i (by omega)).2
    have m2 := (mem_bits40 (hc i)).2 (k2 i (by omega)).2
    rw [hx, List.mem_singleton] at m1 m2
    have := (l2 i (by omega)).1
    have := (k2 i (by omega)).1
    omega
  · rw [mem_solL hc, List.mem_flatMap]
    constructor
    · intro h
      have h0 := h.1.2 node hn
      have hv := (mem_bits40 (hc node)).2 h0.2
      exact ⟨_, hv, (mem_solL (hs _ hv)).2 ((hsol _ hv l).2 ⟨h, by have := h0.1; omega⟩)⟩
    · rintro ⟨v, hv, h⟩
      exact ((hsol v hv l).1 ((mem_solL (hs v hv)).1 h)).1
/-- choices that no link narrows -/
def Stable (ls : List Lk) (c : Choices) : Prop := ∀ L ∈ ls, srcS L (c L.fr) (c L.tq) = c L.fr ∧ tgtS L (c L.fr) (c L.tq) = c L.tq ∧ c L.fr ≠ 0
def imgs (n : Nat) (c : Choices) : List Int := (List.range n).map fun i => (Lib.ctz 64 (c i) : Int)
theorem imgs_get {n i : Nat} (c : Choices) (h : i < n) : (imgs n c).getD i 0 = (Lib.ctz 64 (c i) : Int) := by
  rw [List.getD_eq_getElem?_getD, imgs, List.getElem?_map, List.getElem?_range h]
  rfl
theorem solL_leaf {n : Nat} {ls : List Lk} {c : Choices} (hc : Small c) (hls : ∀ L ∈ ls, L.fr < n ∧ L.tq < n) (h1 : ∀ i, i < n → ∃ v, bitsOf (c i) = [v]) (hs : Stable ls c) : solL n ls c = [imgs n c] := by
  have hz : ∀ i, i < n → bitsOf (c i) = [Lib.ctz 64 (c i)] := fun i hi => by
    obtain ⟨v, hv⟩ := h1 i hi
    have h0 : c i ≠ 0 := fun e => by rw [e, bitsOf_zero] at hv; cases hv
    have := bitsOf_pop h0 (by have := hc i; omega)
    rw [this] at hv ⊢
    simp only [List.cons.injEq] at hv
    rw [hv.2]
  have hb : ∀ i, i < n → ∀ v, (c i).testBit v = true ↔ v = Lib.ctz 64 (c i) := fun i hi v => by
    rw [← mem_bits40 (hc i), hz i hi, List.mem_singleton]
  refine asc_ext (solL_asc _ _ _) (List.pairwise_singleton _ _) fun l => ?_
  rw [mem_solL hc, List.mem_singleton]
  constructor
  · rintro ⟨⟨a1, a2⟩, _⟩
    apply List.ext_getElem?
    intro i
    by_cases hi : i < n
    · have h2 := a2 i hi
      have h3 := (hb i hi _).1 h2.2
      have h4 := imgs_get c hi
      rw [List.getD_eq_getElem?_getD] at h2 h3 h4
      have e1 : i < l.length := by omega
      have e2 : i < (imgs n c).length := by simp [imgs, hi]
      rw [List.getElem?_eq_getElem e1] at h2 h3 ⊢
      rw [List.getElem?_eq_getElem e2] at h4 ⊢
      simp only [Option.getD_some] at h2 h3 h4
      have := h2.1
      rw [h4]
      congr 1
      omega
    · rw [List.getElem?_eq_none (by omega), List.getElem?_eq_none (by simp [imgs]; omega)]
  · rintro rfl
    refine ⟨⟨by simp [imgs], fun j hj => ?_⟩, ?_⟩
    · rw [imgs_get c hj, Int.toNat_natCast]
      exact ⟨by omega, (hb j hj _).2 rfl⟩
    · unfold okB
      rw [List.all_eq_true]
      intro L hL
      obtain ⟨l1, l2⟩ := hls L hL
      obtain ⟨s1, s2, s3⟩ := hs L hL
      rw [imgs_get c l1, imgs_get c l2, Int.toNat_natCast, Int.toNat_natCast]
      have h2 : (srcS L (c L.fr) (c L.tq)).testBit (Lib.ctz 64 (c L.fr)) = true := by rw [s1]; exact (hb _ l1 _).2 rfl
      unfold srcS at h2
      rw [srcF_bit] at h2
      have h3 := (of_decide_eq_true h2).2
      obtain ⟨u, _, hu⟩ := ne_zero_bit (Nat.lt_of_le_of_lt Nat.and_le_right (hc L.tq)) h3
      rw [Nat.testBit_and, Bool.and_eq_true] at hu
      rw [(hb _ l2 u).1 hu.2] at hu
      exact hu.1
/-- one step of a link -/
def stepL (c : Choices) (L : Lk) : Choices := upd (upd c L.fr (srcS L (c L.fr) (c L.tq))) L.tq (tgtS L (c L.fr) (c L.tq))
theorem src_lt (L : Lk) (fr tq : Nat) (h : fr < 1099511627776) : srcS L fr tq < 1099511627776 := srcF_lt L tq _ fun _ hv => bits40 h hv
theorem tgt_lt (L : Lk) (fr tq : Nat) (h : tq < 1099511627776) : tgtS L fr tq < 1099511627776 := tgtF_lt L tq h _
theorem small_step {c : Choices} (hc : Small c) (L : Lk) : Small (stepL c L) := small_upd (small_upd hc (src_lt L _ _ (hc _)) _) (tgt_lt L _ _ (hc _)) _
theorem step_sub {c : Choices} (hc : Small c) (L : Lk) (i v : Nat) (h : (stepL c L i).testBit v = true) : (c i).testBit v = true := by
  unfold stepL at h
  by_cases e : i = L.tq
  · subst e
    rw [upd_same, tgtS, tgtF_bit] at h
    exact (of_decide_eq_true h).1
  · rw [upd_other _ _ e] at h
    by_cases e2 : i = L.fr
    · subst e2
      rw [upd_same, srcS, srcF_bit] at h
      exact (mem_bits40 (hc _)).1 (of_decide_eq_true h).1
    · rwa [upd_other _ _ e2] at h
theorem step_sol {n : Nat} {ls : List Lk} {c : Choices} (hc : Small c) {L : Lk} (hL : L ∈ ls) (h1 : L.fr < n) (h2 : L.tq < n) (l : List Int) : Sol n ls c l ↔ Sol n ls (stepL c L) l := by
  constructor
  · rintro ⟨⟨a1, a2⟩, a3⟩
    refine ⟨⟨a1, fun j hj => ⟨(a2 j hj).1, ?_⟩⟩, a3⟩
    have hr : (L.reach (l.getD L.fr 0).toNat).testBit (l.getD L.tq 0).toNat = true := List.all_eq_true.1 a3 L hL
    have hf := (a2 L.fr h1).2
    have ht := (a2 L.tq h2).2
    unfold stepL
    by_cases e : j = L.tq
    · subst e
      rw [upd_same, tgtS, tgtF_bit]
      exact decide_eq_true ⟨ht, _, (mem_bits40 (hc _)).2 hf, hr⟩
    · rw [upd_other _ _ e]
      by_cases e2 : j = L.fr
      · subst e2
        rw [upd_same, srcS, srcF_bit]
        refine decide_eq_true ⟨(mem_bits40 (hc _)).2 hf, bit_ne_zero (v := (l.getD L.tq 0).toNat) ?_⟩
        rw [Nat.testBit_and, hr, ht]
        rfl
      · rw [upd_other _ _ e2]
        exact (a2 j hj).2
  · rintro ⟨⟨a1, a2⟩, a3⟩
    exact ⟨⟨a1, fun j hj => ⟨(a2 j hj).1, step_sub hc L j _ (a2 j hj).2⟩⟩, a3⟩
theorem step_zero {n : Nat} {ls : List Lk} {c : Choices} (hc : Small c) {L : Lk} (hL : L ∈ ls) (h1 : L.fr < n) (h2 : L.tq < n) (h0 : stepL c L L.fr = 0) (l : List Int) : ¬ Sol n ls c l := by
  intro h
  have := (((step_sol hc hL h1 h2 l).1 h).1.2 L.fr h1).2
  rw [h0] at this
  simp at this
/-- the nodes that have a choice have one still -/
theorem step_full {c : Choices} (hc : Small c) {L : Lk} (hne : L.fr ≠ L.tq) (h0 : stepL c L L.fr ≠ 0) (i : Nat) (hi : c i ≠ 0) : stepL c L i ≠ 0 := by
  by_cases e : i = L.tq
  · subst e
    have hf : stepL c L L.fr = srcS L (c L.fr) (c L.tq) := by unfold stepL; rw [upd_other _ _ hne, upd_same]
    rw [hf] at h0
    obtain ⟨v, _, hv⟩ := ne_zero_bit (src_lt L _ _ (hc _)) h0
    rw [srcS, srcF_bit] at hv
    obtain ⟨hv1, hv2⟩ := of_decide_eq_true hv
    obtain ⟨u, _, hu⟩ := ne_zero_bit (Nat.lt_of_le_of_lt Nat.and_le_right (hc L.tq)) hv2
    rw [Nat.testBit_and, Bool.and_eq_true] at hu
    refine bit_ne_zero (v := u) ?_
    unfold stepL
    rw [upd_same, tgtS, tgtF_bit]
    exact decide_eq_true ⟨hu.2, v, hv1, hu.1⟩
  · by_cases e2 : i = L.fr
    · rw [e2]; exact h0
    · unfold stepL
      rw [upd_other _ _ e, upd_other _ _ e2]
      exact hi
/-- the size of all choices -/
def sizeC (c : Choices) : Nat := ((List.range 40).map c).sum
def Sub (c d : Choices) : Prop := ∀ i v, (c i).testBit v = true → (d i).testBit v = true
theorem Sub.refl (c : Choices) : Sub c c := fun _ _ h => h
theorem Sub.trans {a b c : Choices} (h : Sub a b) (k : Sub b c) : Sub a c := fun i v e => k i v (h i v e)
theorem bits_le {a b : Nat} (h : ∀ v, a.testBit v = true → b.testBit v = true) : a ≤ b := by
  have e : a &&& b = a := by
    apply Nat.eq_of_testBit_eq
    intro i
    rw [Nat.testBit_and]
    cases ha : a.testBit i
    · rfl
    · rw [h i ha]; rfl
  rw [← e]
  exact Nat.and_le_right
theorem bits_eq {a b : Nat} (h : ∀ v, a.testBit v = true → b.testBit v = true) (k : ∀ v, b.testBit v = true → a.testBit v = true) : a = b := Nat.le_antisymm (bits_le h) (bits_le k)
theorem Sub.le {c d : Choices} (h : Sub c d) (i : Nat) : c i ≤ d i := bits_le (h i)
theorem Sub.antisymm {c d : Choices} (h : Sub c d) (k : Sub d c) : c = d := funext fun i => bits_eq (h i) (k i)
theorem sum_le {l : List Nat} {f g : Nat → Nat} (h : ∀ i, f i ≤ g i) : (l.map f).sum ≤ (l.map g).sum := by
  induction l with
  | nil => exact Nat.le_refl _
  | cons x l ih =>
    simp only [List.map_cons, List.sum_cons]
    have := h x
    omega
theorem sum_lt {l : List Nat} {f g : Nat → Nat} (h : ∀ i, f i ≤ g i) {j : Nat} (hj : j ∈ l) (hlt : f j < g j) : (l.map f).sum < (l.map g).sum := by
  induction l with
  | nil => cases hj
  | cons x l ih =>
    simp only [List.map_cons, List.sum_cons]
    rcases List.mem_cons.1 hj with e | e
    · subst e
      have := sum_le (l := l) h
      omega
    · have := ih e
      have := h x
      omega
theorem size_lt {c d : Choices} (h : Sub c d) {i : Nat} (hi : i < 40) (hne : c i ≠ d i) : sizeC c < sizeC d :=
  sum_lt (fun i => h.le i) (List.mem_range.2 hi) (by have := h.le i; omega)
/-- what is asked of links -/
def LsOk (n : Nat) (ls : List Lk) : Prop := ∀ L ∈ ls, L.fr < n ∧ L.tq < n ∧ L.fr ≠ L.tq ∧ ∀ v, v < 40 → L.reach v < 1099511627776
/-- some links one after another -/
def foldC (c : Choices) (ls : List Lk) (k : Nat) : Choices := (ls.take k).foldl stepL c
theorem foldC_zero (c : Choices) (ls : List Lk) : foldC c ls 0 = c := rfl
theorem foldC_succ (c : Choices) (ls : List Lk) {k : Nat} (h : k < ls.length) : foldC c ls (k + 1) = stepL (foldC c ls k) ls[k] := by
  unfold foldC
  rw [List.take_succ_eq_append_getElem h, List.foldl_append]
  rfl
theorem foldC_small {c : Choices} (hc : Small c) (ls : List Lk) : ∀ k, k ≤ ls.length → Small (foldC c ls k) := by
  intro k
  induction k with
  | zero => intro _; exact hc
  | succ k ih =>
    intro h
    rw [foldC_succ c ls (by omega)]
    exact small_step (ih (by omega)) _
theorem step_sub' {c : Choices} (hc : Small c) (L : Lk) : Sub (stepL c L) c := fun i v h => step_sub hc L i v h
theorem foldC_sub {c : Choices} (hc : Small c) (ls : List Lk) {j : Nat} : ∀ k, j ≤ k → k ≤ ls.length → Sub (foldC c ls k) (foldC c ls j) := by
  intro k hj
  induction k with
  | zero => intro _; obtain rfl : j = 0 := by omega
            exact Sub.refl _
  | succ k ih =>
    intro h
    by_cases e : j = k + 1
    · subst e; exact Sub.refl _
    · rw [foldC_succ c ls (by omega)]
      exact (step_sub' (foldC_small hc ls k (by omega)) _).trans (ih (by omega) (by omega))
theorem foldC_sol {n : Nat} {ls : List Lk} (hls : LsOk n ls) {c : Choices} (hc : Small c) (l : List Int) : ∀ k, k ≤ ls.length → (Sol n ls c l ↔ Sol n ls (foldC c ls k) l) := by
  intro k
  induction k with
  | zero => intro _; exact Iff.rfl
  | succ k ih =>
    intro h
    rw [foldC_succ c ls (by omega), ih (by omega)]
    have hm : ls[k] ∈ ls := List.getElem_mem _
    exact step_sol (foldC_small hc ls k (by omega)) hm (hls _ hm).1 (hls _ hm).2.1 l
theorem foldC_full {n : Nat} {ls : List Lk} (hls : LsOk n ls) {c : Choices} (hc : Small c) (i : Nat) (hi : c i ≠ 0) : ∀ k, k ≤ ls.length → (∀ j (h : j < ls.length), j < k → foldC c ls (j + 1) (ls[j]).fr ≠ 0) → foldC c ls k i ≠ 0 := by
  intro k
  induction k with
  | zero => intro _ _; exact hi
  | succ k ih =>
    intro h h0
    have h1 := h0 k (by omega) (by omega)
    rw [foldC_succ c ls (by omega)] at h1 ⊢
    have hm : ls[k] ∈ ls := List.getElem_mem _
    exact step_full (foldC_small hc ls k (by omega)) (hls _ hm).2.2.1 h1 i (ih (by omega) fun j hj hjk => h0 j hj (by omega))
theorem foldC_none {n : Nat} {ls : List Lk} (hls : LsOk n ls) {c : Choices} (hc : Small c) {k : Nat} (h : k < ls.length) (h0 : foldC c ls (k + 1) (ls[k]).fr = 0) (l : List Int) : ¬ Sol n ls c l := by
  rw [foldC_sol hls hc l k (by omega)]
  rw [foldC_succ c ls h] at h0
  have hm : ls[k] ∈ ls := List.getElem_mem _
  exact step_zero (foldC_small hc ls k (by omega)) hm (hls _ hm).1 (hls _ hm).2.1 h0 l
theorem foldC_high {n : Nat} {ls : List Lk} (hls : LsOk n ls) (hn : n ≤ 40) (c : Choices) (i : Nat) (hi : 40 ≤ i) : ∀ k, k ≤ ls.length → foldC c ls k i = c i := by
  intro k
  induction k with
  | zero => intro _; rfl
  | succ k ih =>
    intro h
    have hm : ls[k] ∈ ls := List.getElem_mem _
    obtain ⟨a1, a2, _⟩ := hls _ hm
    rw [foldC_succ c ls (by omega), stepL, upd_other _ _ (by omega), upd_other _ _ (by omega)]
    exact ih (by omega)
theorem foldC_stable {n : Nat} {ls : List Lk} (hls : LsOk n ls) (hn : n ≤ 40) {c : Choices} (hc : Small c) (he : ∀ i, i < 40 → foldC c ls ls.length i = c i) (h0 : ∀ j (h : j < ls.length), foldC c ls (j + 1) (ls[j]).fr ≠ 0) : Stable ls c := by
  have hall : foldC c ls ls.length = c := funext fun i => (Nat.lt_or_ge i 40).elim (he i) (fun h => foldC_high hls hn c i h _ (Nat.le_refl _))
  have hk : ∀ k, k ≤ ls.length → foldC c ls k = c := fun k h => Sub.antisymm (foldC_sub hc ls k (Nat.zero_le _) h) (by have := foldC_sub hc ls (j := k) ls.length h (Nat.le_refl _); rwa [hall] at this)
  intro L hL
  obtain ⟨k, hlt, rfl⟩ := List.getElem_of_mem hL
  have h1 := hk (k + 1) (by omega)
  rw [foldC_succ c ls hlt, hk k (by omega)] at h1
  have h2 := h0 k hlt
  rw [hk (k + 1) (by omega)] at h2
  obtain ⟨_, _, a3, _⟩ := hls _ hL
  have e1 := congrFun h1 (ls[k]).fr
  have e2 := congrFun h1 (ls[k]).tq
  unfold stepL at e1 e2
  rw [upd_other _ _ a3, upd_same] at e1
  rw [upd_same] at e2
  exact ⟨e1, e2, h2⟩

end Go.Proofs.YtaeelanbkdkppaaDoor
