/-
  Unions as plain data: without one side, and their components.
-/
import Derived.Test.YtiafmhdicgmfaaaGComp
namespace Go.Proofs.Ytiafmhdicgmfaaa
open Pt (at_)

theorem num_mem {a n : Nat} {x : Int} : x ∈ numS a n ↔ (a : Int) ≤ x ∧ x < (a : Int) + n := by
  unfold numS
  rw [coll_mem]
  constructor
  · rintro ⟨i, hi, hx⟩
    rw [List.mem_singleton] at hx
    omega
  · rintro ⟨h1, h2⟩
    exact ⟨(x - a).toNat, by omega, by rw [List.mem_singleton]; omega⟩
theorem num_get {a : Int} {n i : Nat} (h : i < n) : (numS a n).getD i 0 = a + i := coll_getD _ h _
theorem num_length (a : Int) (n : Nat) : (numS a n).length = n := coll_len _ _
theorem num_asc {a n m : Nat} (h : a + n ≤ m) : ascE (numS a n) m = 0 := by
  apply asc_mk
  · intro x hx
    have := num_mem.1 hx
    omega
  · intro i hi
    rw [num_length] at hi
    rw [num_get (by omega), num_get (by omega)]
    omega
theorem plc_low {a n i : Nat} (h : i < a) : plc (numS a n) i = i := by
  rw [plc_out (fun hm => by have := num_mem.1 hm; omega), cnt_none (fun x hx => by have := num_mem.1 hx; omega)]
  omega
theorem plc_high {n i : Nat} (h : n ≤ i) : plc (numS (0 : Nat) n) i = (i : Int) - n := by
  rw [plc_out (fun hm => by have := num_mem.1 hm; omega)]
  have e : cntL (numS (0 : Nat) n) i = n := by
    unfold cntL
    rw [List.countP_eq_length.2 (fun x hx => by have := num_mem.1 hx; rw [decide_eq_true_eq]; omega), num_length]
  rw [e]

def uni (a b : Gr) : Gr := ⟨a.ns ++ b.ns, a.es ++ b.es.map (shE a.ns.length)⟩
theorem uniG_ok {a b : Gr} (h : uniE a b = 0) : uniG a b = uni a b := if_pos h
theorem uni_ns {a b : Gr} {i : Nat} : (uni a b).ns.getD i 0 = if i < a.ns.length then a.ns.getD i 0 else b.ns.getD (i - a.ns.length) 0 := by
  unfold uni
  split
  · rename_i h; rw [List.getD_eq_getElem?_getD, List.getElem?_append_left h, ← List.getD_eq_getElem?_getD]
  · rename_i h; rw [List.getD_eq_getElem?_getD, List.getElem?_append_right (by omega), ← List.getD_eq_getElem?_getD]
theorem uni_esL {a b : Gr} {i : Nat} (h : i < a.es.length) : (uni a b).es.getD i default = a.es.getD i default := by
  unfold uni
  rw [List.getD_eq_getElem?_getD, List.getElem?_append_left h, ← List.getD_eq_getElem?_getD]
theorem uni_esR {a b : Gr} {i : Nat} (h : i < b.es.length) : (uni a b).es.getD (a.es.length + i) default = shE a.ns.length (b.es.getD i default) := by
  unfold uni
  rw [List.getD_eq_getElem?_getD, List.getElem?_append_right (by omega), Nat.add_sub_cancel_left, List.getElem?_map, List.getD_eq_getElem?_getD, List.getElem?_eq_getElem h]
  rfl
theorem uni_lens (a b : Gr) : (uni a b).ns.length = a.ns.length + b.ns.length ∧ (uni a b).es.length = a.es.length + b.es.length := by simp [uni]
theorem uni_valid {a b : Gr} (h : uniE a b = 0) : validE (uni a b) = 0 := by
  obtain ⟨h1, h2, h3, h4⟩ := uni_zero h
  obtain ⟨l1, l2⟩ := uni_lens a b
  apply valid_ok (by omega) (by omega)
  · intro i hi
    rw [uni_ns]
    split
    · rename_i h; exact idxB_iff.2 ((valid_zero h1).2.2.1 _ (getD_mem h))
    · rename_i h; exact idxB_iff.2 ((valid_zero h2).2.2.1 _ (getD_mem (by omega)))
  · intro i hi
    rw [l1]
    by_cases hl : i < a.es.length
    · rw [uni_esL hl]
      have := edB_iff.1 ((valid_zero h1).2.2.2 (a.es.getD i default) (getD_mem hl))
      apply edB_iff.2
      omega
    · obtain ⟨k, rfl⟩ : ∃ k, i = a.es.length + k := ⟨i - a.es.length, by omega⟩
      rw [uni_esR (by omega)]
      have := edB_iff.1 ((valid_zero h2).2.2.2 (b.es.getD k default) (getD_mem (by omega)))
      apply edB_iff.2
      simp only [shE]
      omega
/-- the union without the first graph -/
theorem rem_first {a b : Gr} (h : uniE a b = 0) : remE (uni a b) (numS (0 : Nat) a.ns.length) (numS (0 : Nat) a.es.length) = 0 ∧ remG (uni a b) (numS (0 : Nat) a.ns.length) (numS (0 : Nat) a.es.length) = b := by
  obtain ⟨h1, h2, h3, h4⟩ := uni_zero h
  obtain ⟨l1, l2⟩ := uni_lens a b
  have hE : remE (uni a b) (numS (0 : Nat) a.ns.length) (numS (0 : Nat) a.es.length) = 0 := by
    unfold remE
    rw [uni_valid h, num_asc (by omega), num_asc (by omega)]
    simp only [ne_eq, not_true_eq_false, if_false]
    apply fstN_all
    intro i _ hi
    unfold dangAt dangB
    by_cases hl : i < a.es.length
    · rw [decide_eq_true (num_mem.2 (by omega))]; rfl
    · obtain ⟨k, rfl⟩ : ∃ k, i = a.es.length + k := ⟨i - a.es.length, by omega⟩
      rw [uni_esR (by omega)]
      obtain ⟨⟨f1, f2⟩, f3, f4⟩ := valid_at h2 (i := k) (by omega)
      rw [decide_eq_false (p := (shE a.ns.length (b.es.getD k default)).fr ∈ _) (fun hm => by have := num_mem.1 hm; simp only [shE] at this; omega), decide_eq_false (p := (shE a.ns.length (b.es.getD k default)).to ∈ _) (fun hm => by have := num_mem.1 hm; simp only [shE] at this; omega)]
      simp
  refine ⟨hE, ?_⟩
  unfold remG
  rw [if_pos hE, l1, l2]
  have e1 : remNs (uni a b) (numS (0 : Nat) a.ns.length) (a.ns.length + b.ns.length) = b.ns := by
    unfold remNs
    rw [coll_add, coll_nil _ (fun i hi => if_pos (num_mem.2 (by omega))), List.nil_append]
    refine Eq.trans (coll_ext (fun i hi => ?_)) (coll_self b.ns 0)
    show (if ((a.ns.length + i : Nat) : Int) ∈ numS (0 : Nat) a.ns.length then [] else [(uni a b).ns.getD (a.ns.length + i) 0]) = [b.ns.getD i 0]
    rw [if_neg (fun hm => by have := num_mem.1 hm; omega), uni_ns, if_neg (by omega), Nat.add_sub_cancel_left]
  have e2 : remEs (uni a b) (numS (0 : Nat) a.ns.length) (numS (0 : Nat) a.es.length) (a.es.length + b.es.length) = b.es := by
    unfold remEs
    rw [coll_add, coll_nil _ (fun i hi => if_pos (num_mem.2 (by omega))), List.nil_append]
    refine Eq.trans (coll_ext (fun i hi => ?_)) (coll_self b.es default)
    show (if ((a.es.length + i : Nat) : Int) ∈ numS (0 : Nat) a.es.length then [] else [mvd (uni a b) (numS (0 : Nat) a.ns.length) (a.es.length + i)]) = [b.es.getD i default]
    rw [if_neg (fun hm => by have := num_mem.1 hm; omega)]
    unfold mvd frN toN
    rw [uni_esR hi]
    obtain ⟨⟨f1, f2⟩, f3, f4⟩ := valid_at h2 hi
    generalize b.es.getD i default = x at *
    obtain ⟨ty, fr, tt⟩ := x
    simp only [shE] at *
    rw [plc_high (by omega), plc_high (by omega)]
    congr 1
    simp only [Ed.mk.injEq, true_and]
    omega
  rw [e1, e2]
/-- the union without the second graph -/
theorem rem_second {a b : Gr} (h : uniE a b = 0) : remE (uni a b) (numS a.ns.length b.ns.length) (numS a.es.length b.es.length) = 0 ∧ remG (uni a b) (numS a.ns.length b.ns.length) (numS a.es.length b.es.length) = a := by
  obtain ⟨h1, h2, h3, h4⟩ := uni_zero h
  obtain ⟨l1, l2⟩ := uni_lens a b
  have hE : remE (uni a b) (numS a.ns.length b.ns.length) (numS a.es.length b.es.length) = 0 := by
    unfold remE
    rw [uni_valid h, num_asc (by omega), num_asc (by omega)]
    simp only [ne_eq, not_true_eq_false, if_false]
    apply fstN_all
    intro i _ hi
    unfold dangAt dangB
    by_cases hl : i < a.es.length
    · rw [uni_esL hl]
      obtain ⟨⟨f1, f2⟩, f3, f4⟩ := valid_at h1 hl
      rw [decide_eq_false (p := (a.es.getD i default).fr ∈ _) (fun hm => by have := num_mem.1 hm; omega), decide_eq_false (p := (a.es.getD i default).to ∈ _) (fun hm => by have := num_mem.1 hm; omega)]
      simp
    · rw [decide_eq_true (num_mem.2 (by omega))]; rfl
  refine ⟨hE, ?_⟩
  unfold remG
  rw [if_pos hE, l1, l2]
  have e1 : remNs (uni a b) (numS a.ns.length b.ns.length) (a.ns.length + b.ns.length) = a.ns := by
    unfold remNs
    rw [coll_add]
    rw [coll_nil (fun i => if ((a.ns.length + i : Nat) : Int) ∈ numS a.ns.length b.ns.length then [] else [(uni a b).ns.getD (a.ns.length + i) 0]) (fun i hi => if_pos (num_mem.2 (by omega))), List.append_nil]
    refine Eq.trans (coll_ext (fun i hi => ?_)) (coll_self a.ns 0)
    rw [if_neg (fun hm => by have := num_mem.1 hm; omega), uni_ns, if_pos hi]
  have e2 : remEs (uni a b) (numS a.ns.length b.ns.length) (numS a.es.length b.es.length) (a.es.length + b.es.length) = a.es := by
    unfold remEs
    rw [coll_add]
    rw [coll_nil (fun i => if ((a.es.length + i : Nat) : Int) ∈ numS a.es.length b.es.length then [] else [mvd (uni a b) (numS a.ns.length b.ns.length) (a.es.length + i)]) (fun i hi => if_pos (num_mem.2 (by omega))), List.append_nil]
    refine Eq.trans (coll_ext (fun i hi => ?_)) (coll_self a.es default)
    rw [if_neg (fun hm => by have := num_mem.1 hm; omega)]
    unfold mvd frN toN
    rw [uni_esL hi]
    obtain ⟨⟨f1, f2⟩, f3, f4⟩ := valid_at h1 hi
    generalize a.es.getD i default = x at *
    obtain ⟨ty, fr, tt⟩ := x
    simp only at *
    rw [plc_low (by omega), plc_low (by omega)]
    congr 1
    simp only [Ed.mk.injEq, true_and]
    omega
  rw [e1, e2]

/-! its components -/
def lstU (a b : Gr) : List Nat := lstS a ++ (lstS b).map (· + a.ns.length)
theorem lstU_len (a b : Gr) : (lstU a b).length = a.ns.length + b.ns.length := by simp [lstU, lstS_len]
theorem lstU_low {a b : Gr} {i : Nat} (h : i < a.ns.length) : at_ (lstU a b) i = at_ (lstS a) i := by
  unfold at_ lstU
  rw [List.getD_eq_getElem?_getD, List.getElem?_append_left (by rw [lstS_len]; exact h), ← List.getD_eq_getElem?_getD]
theorem lstU_high {a b : Gr} {i : Nat} (h : i < b.ns.length) : at_ (lstU a b) (a.ns.length + i) = at_ (lstS b) i + a.ns.length := by
  have h2 : i < (lstS b).length := by rw [lstS_len]; exact h
  unfold at_ lstU
  rw [List.getD_eq_getElem?_getD, List.getElem?_append_right (by rw [lstS_len]; omega), lstS_len, Nat.add_sub_cancel_left, List.getElem?_map, List.getD_eq_getElem?_getD, List.getElem?_eq_getElem h2]
  rfl
theorem at_drop (q : List Nat) (n i : Nat) : at_ (q.drop n) i = at_ q (n + i) := by
  unfold at_
  rw [List.getD_eq_getElem?_getD, List.getD_eq_getElem?_getD, List.getElem?_drop]
theorem lst_uni {a b : Gr} (h : uniE a b = 0) : lstS (uni a b) = lstU a b := by
  obtain ⟨h1, h2, h3, h4⟩ := uni_zero h
  obtain ⟨l1, l2⟩ := uni_lens a b
  have hv := uni_valid h
  have ea : ∀ i, i < a.es.length → frN (uni a b) i = frN a i ∧ toN (uni a b) i = toN a i := fun i hi => by unfold frN toN; rw [uni_esL hi]; exact ⟨rfl, rfl⟩
  have eb : ∀ i, i < b.es.length → frN (uni a b) (a.es.length + i) = a.ns.length + frN b i ∧ toN (uni a b) (a.es.length + i) = a.ns.length + toN b i := fun i hi => by
    obtain ⟨⟨f1, f2⟩, f3, f4⟩ := valid_at h2 hi
    unfold frN toN
    rw [uni_esR hi]
    simp only [shE]
    omega
  have low : ∀ {i}, i < a.ns.length → at_ (lstS a) i < a.ns.length := fun {i} hi => by have := (lstS_V h1).lt (i := i) (by rw [lstS_len]; exact hi); rwa [lstS_len] at this
  have high : ∀ {i}, i < b.ns.length → at_ (lstS b) i < b.ns.length := fun {i} hi => by have := (lstS_V h2).lt (i := i) (by rw [lstS_len]; exact hi); rwa [lstS_len] at this
  have hV : Pt.V (lstU a b) := by
    intro i hi
    rw [lstU_len] at hi
    by_cases hl : i < a.ns.length
    · rw [lstU_low hl, lstU_low (low hl)]
      exact ⟨(lstS_V h1).le (by rw [lstS_len]; exact hl), (lstS_V h1).idem (by rw [lstS_len]; exact hl)⟩
    · obtain ⟨k, rfl⟩ : ∃ k, i = a.ns.length + k := ⟨i - a.ns.length, by omega⟩
      have hk : k < b.ns.length := by omega
      have := (lstS_V h2).le (i := k) (by rw [lstS_len]; exact hk)
      have e := (lstS_V h2).idem (i := k) (by rw [lstS_len]; exact hk)
      rw [lstU_high hk, Nat.add_comm (at_ (lstS b) k), lstU_high (high hk), e]
      omega
  have hR : Pt.Resp (lstU a b) (endsL (uni a b)) := by
    intro x hx
    obtain ⟨i, hi, rfl⟩ := List.mem_iff_getElem.1 hx
    rw [endsL_len] at hi
    have e := endsL_get hi
    rw [List.getElem?_eq_getElem (by rw [endsL_len]; exact hi)] at e
    injection e with e
    rw [e]
    show at_ (lstU a b) (frN (uni a b) i) = at_ (lstU a b) (toN (uni a b) i)
    by_cases hl : i < a.es.length
    · obtain ⟨k1, k2⟩ := ends_lt h1 hl
      rw [(ea i hl).1, (ea i hl).2, lstU_low k1, lstU_low k2]
      exact lst_edge h1 hl
    · obtain ⟨k, rfl⟩ : ∃ k, i = a.es.length + k := ⟨i - a.es.length, by omega⟩
      have hk : k < b.es.length := by omega
      obtain ⟨k1, k2⟩ := ends_lt h2 hk
      rw [(eb k hk).1, (eb k hk).2, lstU_high k1, lstU_high k2, lst_edge h2 hk]
  have hL : ∀ q, Pt.Resp q (endsL (uni a b)) → Pt.F (lstU a b) q := by
    intro q hq i hi
    rw [lstU_len] at hi
    have hqe : ∀ j, j < (uni a b).es.length → at_ q (frN (uni a b) j) = at_ q (toN (uni a b) j) := fun j hj => hq _ (List.mem_of_getElem? (endsL_get hj))
    by_cases hl : i < a.ns.length
    · rw [lstU_low hl]
      refine Pt.gen_least (ends_inR h1) (q := q) ?_ i (by rw [Pt.genS_length]; exact hl)
      intro x hx
      obtain ⟨j, hj, rfl⟩ := List.mem_iff_getElem.1 hx
      rw [endsL_len] at hj
      have e := endsL_get hj
      rw [List.getElem?_eq_getElem (by rw [endsL_len]; exact hj)] at e
      injection e with e
      rw [e]
      have := hqe j (by omega)
      rwa [(ea j hj).1, (ea j hj).2] at this
    · obtain ⟨k, rfl⟩ : ∃ k, i = a.ns.length + k := ⟨i - a.ns.length, by omega⟩
      have hk : k < b.ns.length := by omega
      rw [lstU_high hk, Nat.add_comm (at_ (lstS b) k), ← at_drop, ← at_drop]
      refine Pt.gen_least (ends_inR h2) (q := q.drop a.ns.length) ?_ k (by rw [Pt.genS_length]; exact hk)
      intro x hx
      obtain ⟨j, hj, rfl⟩ := List.mem_iff_getElem.1 hx
      rw [endsL_len] at hj
      have e := endsL_get hj
      rw [List.getElem?_eq_getElem (by rw [endsL_len]; exact hj)] at e
      injection e with e
      rw [e]
      have := hqe (a.es.length + j) (by omega)
      rw [(eb j hj).1, (eb j hj).2] at this
      rw [at_drop, at_drop]
      exact this
  exact Pt.F.antisymm (lstS_V hv) hV (by rw [lstS_len, lstU_len]; exact l1) (Pt.gen_least (ends_inR hv) hR) (hL _ (Pt.gen_resp (ends_inR hv)))
theorem rank_ext {p q : List Nat} {k : Nat} (h : ∀ i, i < k → at_ p i = at_ q i) : Pt.rank p k = Pt.rank q k := by
  induction k with
  | zero => rfl
  | succ k ih =>
    have ih := ih fun i hi => h i (by omega)
    have hk := h k (by omega)
    by_cases e : at_ p k = k
    · rw [Pt.rank_yes e, Pt.rank_yes (by rw [← hk]; exact e), ih]
    · rw [Pt.rank_no e, Pt.rank_no (by rw [← hk]; exact e), ih]
theorem rank_uni (a b : Gr) {k : Nat} (h : k ≤ b.ns.length) : Pt.rank (lstU a b) (a.ns.length + k) = Pt.rank (lstS a) a.ns.length + Pt.rank (lstS b) k := by
  induction k with
  | zero => exact rank_ext fun i hi => lstU_low hi
  | succ k ih =>
    have ih := ih (by omega)
    have hk := lstU_high (a := a) (b := b) (i := k) (by omega)
    rw [show a.ns.length + (k + 1) = (a.ns.length + k) + 1 by omega]
    by_cases e : at_ (lstS b) k = k
    · rw [Pt.rank_yes (by rw [hk, e]; omega), Pt.rank_yes e, ih]; omega
    · rw [Pt.rank_no (by rw [hk]; omega), Pt.rank_no e, ih]
theorem comp_len {g : Gr} (h : validE g = 0) : (compR g).length = Pt.rank (lstS g) g.ns.length := by
  unfold compR
  rw [if_pos h, compTo_len]
theorem comp_uni {a b : Gr} (h : uniE a b = 0) : (compR (uni a b)).length = (compR a).length + (compR b).length := by
  obtain ⟨h1, h2, _⟩ := uni_zero h
  rw [comp_len (uni_valid h), comp_len h1, comp_len h2, lst_uni h, (uni_lens a b).1]
  exact rank_uni a b (Nat.le_refl _)

/-! the components contain each element once -/
theorem pick_asc (p : Nat → Bool) (k : Nat) : (coll (fun i => if p i then [(i : Int)] else []) k).Pairwise (· < ·) := by
  induction k with
  | zero => exact List.Pairwise.nil
  | succ k ih =>
    simp only [coll]
    rw [List.pairwise_append]
    refine ⟨ih, by split <;> simp, fun x hx y hy => ?_⟩
    obtain ⟨i, hi, hx⟩ := coll_mem.1 hx
    split at hx
    · split at hy
      · rw [List.mem_singleton] at hx hy
        omega
      · cases hy
    · cases hx
theorem pick_mem {p : Nat → Bool} {k : Nat} {x : Int} : x ∈ coll (fun i => if p i then [(i : Int)] else []) k ↔ ∃ i, i < k ∧ p i = true ∧ x = i := by
  rw [coll_mem]
  constructor
  · rintro ⟨i, hi, hx⟩
    split at hx
    · rename_i hp; exact ⟨i, hi, hp, List.mem_singleton.1 hx⟩
    · cases hx
  · rintro ⟨i, hi, hp, rfl⟩
    exact ⟨i, hi, by rw [if_pos hp]; exact List.mem_singleton.2 rfl⟩
/-- a list of things, parted by a class, class after class -/
def byCls (L : List Nat) (n : Nat) (key : Nat → Nat) (m : Nat) : List Int := (Pt.fixsTo L n).flatMap fun r => coll (fun i => if at_ L (key i) = r then [(i : Int)] else []) m
theorem byCls_perm {L : List Nat} (hV : Pt.V L) {key : Nat → Nat} {m : Nat} (hk : ∀ i, i < m → key i < L.length) : (byCls L L.length key m).Perm (numS (0 : Nat) m) := by
  have e : ∀ r : Nat, coll (fun i => if at_ L (key i) = r then [(i : Int)] else []) m = coll (fun i => if (at_ L (key i) == r) then [(i : Int)] else []) m := fun r => coll_ext fun i _ => by
    by_cases h : at_ L (key i) = r
    · rw [if_pos h, if_pos (by rw [h]; exact beq_self_eq_true r)]
    · rw [if_neg h, if_neg (by rw [beq_eq_false_iff_ne.2 h]; simp)]
  have en : numS (0 : Nat) m = coll (fun i => if (fun _ => true) i then [(i : Int)] else []) m := coll_ext fun i _ => by simp
  refine (List.perm_ext_iff_of_nodup ?_ ?_).2 ?_
  · unfold byCls
    show List.Pairwise (· ≠ ·) _
    rw [List.pairwise_flatMap]
    refine ⟨fun r _ => ?_, ?_⟩
    · rw [e]
      exact (pick_asc _ _).imp fun h => by omega
    · have hn : (Pt.fixsTo L L.length).Pairwise (· ≠ ·) := by
        unfold Pt.fixsTo
        exact List.Pairwise.filter _ (List.nodup_range)
      refine hn.imp fun {r s} hrs x hx y hy hxy => ?_
      rw [e] at hx hy
      obtain ⟨i, _, h1, rfl⟩ := pick_mem.1 hx
      obtain ⟨j, _, h2, rfl⟩ := pick_mem.1 hy
      have : i = j := by omega
      subst this
      exact hrs ((beq_iff_eq.1 h1).symm.trans (beq_iff_eq.1 h2))
  · rw [en]
    show List.Pairwise (· ≠ ·) _
    exact (pick_asc _ _).imp fun h => by omega
  · intro x
    unfold byCls
    rw [List.mem_flatMap, en, pick_mem]
    constructor
    · rintro ⟨r, _, hx⟩
      rw [e] at hx
      obtain ⟨i, hi, _, rfl⟩ := pick_mem.1 hx
      exact ⟨i, hi, rfl, rfl⟩
    · rintro ⟨i, hi, _, rfl⟩
      refine ⟨at_ L (key i), ?_, by rw [e]; exact pick_mem.2 ⟨i, hi, beq_self_eq_true _, rfl⟩⟩
      unfold Pt.fixsTo
      rw [List.mem_filter, List.mem_range]
      exact ⟨hV.lt (hk i hi), beq_iff_eq.2 (hV.idem (hk i hi))⟩
theorem comp_nodes {g : Gr} (h : validE g = 0) : ((compR g).flatMap (·.ns)).Perm (numS (0 : Nat) g.ns.length) := by
  have hl := lstS_len g
  have hp := byCls_perm (lstS_V h) (key := id) (m := g.ns.length) (fun i hi => by rw [hl]; exact hi)
  rw [hl] at hp
  unfold compR
  rw [if_pos h]
  unfold compTo
  rw [List.flatMap_map]
  exact hp
theorem comp_edges {g : Gr} (h : validE g = 0) : ((compR g).flatMap (·.es)).Perm (numS (0 : Nat) g.es.length) := by
  have hl := lstS_len g
  have hp := byCls_perm (lstS_V h) (key := frN g) (m := g.es.length) (fun i hi => by rw [hl]; exact (ends_lt h hi).1)
  rw [hl] at hp
  unfold compR
  rw [if_pos h]
  unfold compTo
  rw [List.flatMap_map]
  exact hp
theorem sort_num {l : List Int} {m : Nat} (h : l.Perm (numS (0 : Nat) m)) : (l.mergeSort fun x y => decide (x ≤ y)) = numS (0 : Nat) m := by
  have h1 : (l.mergeSort fun x y => decide (x ≤ y)).Pairwise (· ≤ ·) := by
    have := List.pairwise_mergeSort (le := fun x y : Int => decide (x ≤ y)) (fun a b c h1 h2 => by rw [decide_eq_true_eq] at *; omega) (fun a b => by rw [Bool.or_eq_true, decide_eq_true_eq, decide_eq_true_eq]; omega) l
    exact this.imp fun h => by rwa [decide_eq_true_eq] at h
  have h2 : (numS (0 : Nat) m).Pairwise (· ≤ ·) := by
    have en : numS (0 : Nat) m = coll (fun i => if (fun _ => true) i then [(i : Int)] else []) m := coll_ext fun i _ => by simp
    rw [en]
    exact (pick_asc _ _).imp fun h => by omega
  exact ((List.mergeSort_perm l _).trans h).eq_of_pairwise (fun a b _ _ h3 h4 => by omega) h1 h2

end Go.Proofs.Ytiafmhdicgmfaaa
