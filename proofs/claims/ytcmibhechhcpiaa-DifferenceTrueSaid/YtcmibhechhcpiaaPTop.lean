/-
  Difference, the program: the first refutation of a length, plain; arrays of sums in slices.
-/
import Derived.Test.YtcmibhechhcpiaaPWalks
import Derived.Test.YtcmibhechhcpiaaPIdx
import Derived.Test.YtcmibhechhcpiaaPLinks
import Derived.Test.YtcmibhechhcpiaaDRefute
namespace Go.Proofs.Ytcmibhechhcpiaa
open Go.RowKit

def firstP (l : List Arc) (K : Nat) (a : Arc) : Bool := pick l K a.f a.f 0 a
theorem firstP_eq (l : List Arc) (K t : Nat) (s : Int) (f g : Nat) (c : Int) : firstP l K ⟨t, s, f, g, c⟩ = (decide (sumK l K g f < far) && decide (c + sumK l K g f < 0)) := by
  unfold firstP pick
  dsimp only
  rw [decide_eq_true rfl, Bool.true_and, Int.zero_add]
theorem top_some {l : List Arc} {K : Nat} {a : Arc} (h : l.find? (firstP l K) = some a) : top l K = a :: greedy l K a.g a.f a.c := by
  show (match l.find? (firstP l K) with | none => [] | some a => a :: greedy l K a.g a.f a.c) = _
  rw [h]
theorem top_none {l : List Arc} {K : Nat} (h : l.find? (firstP l K) = none) : top l K = [] := by
  show (match l.find? (firstP l K) with | none => [] | some a => a :: greedy l K a.g a.f a.c) = _
  rw [h]
theorem top_of_no {l : List Arc} {K : Nat} (h : ∀ x ∈ l.take l.length, firstP l K x = false) : top l K = [] := by
  rw [List.take_length] at h
  exact top_none (List.find?_eq_none.2 fun x hx => by rw [h x hx]; decide)
theorem sumK_fit {l : List Arc} (hs : Small l) {k i j : Nat} (hk : k ≤ 13) (h : sumK l k i j < far) : -1000000000 ≤ sumK l k i j ∧ sumK l k i j ≤ 1000000000 := by
  rcases (sumK_spec hs k (by omega) i j).1 with e | ⟨r, h1, h2, h3⟩
  · omega
  · have := wt_small hs h1
    rw [h2, h3] at this
    omega
theorem compl_of_first {l : List Arc} (hs : Small l) {K : Nat} {a : Arc} (hK : K ≤ 13) (h : firstP l K a = true) : ∃ r, Compl l K a.g a.f a.c r := by
  unfold firstP pick at h
  simp only [Bool.and_eq_true, decide_eq_true_eq] at h
  exact (compl_iff hs (by omega)).2 ⟨h.2.1, by omega⟩
theorem top_no {n : Nat} {l : List Arc} (hn : inN n l) (hs : Small l) (ho : Sorted l) {K : Nat} (hK : K ≤ 13) (h2 : ∀ j, j ≤ K → ¬ hasNeg n l j) (h : top l K = []) : ∀ j, j ≤ K + 1 → ¬ hasNeg n l j := by
  intro j hj hneg
  rcases Nat.lt_or_ge j (K + 1) with hl | hl
  · exact h2 j (by omega) hneg
  · obtain rfl : j = K + 1 := by omega
    have a1 := of_hasNeg hs (by omega) hneg
    have a2 : ∀ r, IsNeg l r → K + 1 ≤ r.length := by
      intro r hr
      rcases Nat.lt_or_ge r.length (K + 1) with h3 | h3
      · exact absurd (hasNeg_of hn hs hr (by omega)) (h2 _ (by omega))
      · exact h3
    have := (top_spec hs ho (by omega) a1 a2).2
    rw [h] at this
    simp at this
theorem top_yes {n : Nat} {l : List Arc} (hn : inN n l) (h12 : n ≤ 12) (hs : Small l) (ho : Sorted l) {K : Nat} (hK : K ≤ 12) (h2 : ∀ j, j ≤ K → ¬ hasNeg n l j) (h : top l K ≠ []) : IsStd l (top l K) ∧ (top l K).length ≤ 13 ∧ ¬ OkB n l := by
  have hf : ∃ a, l.find? (firstP l K) = some a := by
    cases hf : l.find? (firstP l K) with
    | none => exact absurd (top_none hf) h
    | some a => exact ⟨a, rfl⟩
  obtain ⟨a, hf⟩ := hf
  obtain ⟨r, hr⟩ := compl_of_first hs (by omega) (List.find?_some hf)
  have hneg : IsNeg l (a :: r) := ⟨by simp, a.f, ⟨List.mem_of_find?_eq_some hf, rfl, hr.1⟩, by have := hr.2.2; simp only [wt]; omega⟩
  have hlen : (a :: r).length = K + 1 := by simp [hr.2.1]
  have a2 : ∀ r, IsNeg l r → K + 1 ≤ r.length := by
    intro r hr
    rcases Nat.lt_or_ge r.length (K + 1) with h3 | h3
    · exact absurd (hasNeg_of hn hs hr (by omega)) (h2 _ (by omega))
    · exact h3
  obtain ⟨b1, b2⟩ := top_spec hs ho (k := K) (by omega) ⟨_, hneg, hlen⟩ a2
  exact ⟨b1, by omega, not_ok_of_neg hn h12 hs hneg⟩
theorem ok_of_none {n : Nat} {l : List Arc} (hn : inN n l) (h12 : n ≤ 12) (hs : Small l) (h : ∀ j, j ≤ n + 1 → ¬ hasNeg n l j) : OkB n l := by
  refine Classical.byContradiction fun hno => ?_
  obtain ⟨k, hk, hk2⟩ := hasNeg_ex hn h12 hs hno
  exact h k hk hk2

def walksL (l : List Arc) (K : Nat) : List (Nat → Nat → Int) := (List.range (K + 1)).map (sumE l)
theorem walksL_length (l : List Arc) (K : Nat) : (walksL l K).length = K + 1 := by simp [walksL]
theorem walksL_get (l : List Arc) {K k : Nat} (hk : k ≤ K) : (walksL l K)[k]? = some (sumE l k) := by
  unfold walksL
  rw [List.getElem?_map, List.getElem?_range (by omega)]
  rfl
theorem walksL_succ (l : List Arc) (K : Nat) : walksL l (K + 1) = walksL l K ++ [sumE l (K + 1)] := by
  unfold walksL
  rw [List.range_succ, List.map_append]
  rfl
theorem walksL_zero (l : List Arc) : walksL l 0 = [sumE l 0] := rfl
theorem Reads.matCell {w : World} {B bw : Nat} {l : List Arc} {K : Nat} (h : Reads EMat w B (some ⟨bw, 0, none⟩) (walksL l K)) {k i j : Nat} (hk : k ≤ K) (hi : i < 13) (hj : j < 13) : w.cell? ⟨bw, k * 169 + i * 13 + j, none⟩ = some (.int .i64 (sumE l k i j)) := by
  rcases h with h | ⟨b, off, h1, _, h3⟩
  · have := congrArg List.length h
    rw [walksL_length] at this
    simp at this
  · injection h1 with h1
    injection h1 with h1 h2 _
    subst h1 h2
    have := h3 k _ (walksL_get l hk) (i * 13 + j) _ (matL_get (sumE l k) hi hj)
    rw [← this]
    congr 2
    show k * 169 + i * 13 + j = 0 + k * 169 + (i * 13 + j)
    omega
theorem Reads.matRange {w : World} {B bw : Nat} {l : List Arc} {K : Nat} (h : Reads EMat w B (some ⟨bw, 0, none⟩) (walksL l K)) {k : Nat} (hk : k ≤ K) : w.rangeAt bw (k * 169) (matL (sumE l k)) := by
  rcases h with h | ⟨b, off, h1, _, h3⟩
  · have := congrArg List.length h
    rw [walksL_length] at this
    simp at this
  · injection h1 with h1
    injection h1 with h1 h2 _
    subst h1 h2
    intro j v hv
    have := h3 k _ (walksL_get l hk) j v hv
    rw [← this]
    congr 2
    show k * 169 + j = 0 + k * 169 + j
    omega

theorem wpList_load_matAt {ops : Array Oper} {rest : List Oper} {o : Oper} {a : Act} {w : World} {Q : Exit → Act → World → Prop} (hgd : o.guard = none) (x : Operand) (ho : o.op = .load 85 x)
    (g off : Nat) (M : Nat → Nat → Int) (hx : a.eval x = .pointer (some ⟨g, off, none⟩)) (hg : w.rangeAt g off (matL M))
    (h : wpList Try.prog ops Q rest (a.put o.dst (.agg (matA M))) w) : wpList Try.prog ops Q (o :: rest) a w :=
  wpList_load_mid hgd 85 x ho g off hx (matL M) _ hg Try.underlying85 rfl (by rw [matL_length]; exact infoSum1) h
theorem wpList_append_matA {w : World} {ops : Array Oper} {rest : List Oper} {o : Oper} {a : Act} {Q : Exit → Act → World → Prop} (hgd : o.guard = none) (s x : Operand)
    (ho : o.op = .call { callee := .builtin .append, args := #[s, x], argTypes := #[87, 87] })
    (base : Nat) (v : Value) (xs : List (Nat → Nat → Int)) (hs : a.eval s = v) (hown : OwnWk w base v xs) (g c : Nat) (M : Nat → Nat → Int) (hx : a.eval x = .slice (some ⟨g, 0, none⟩) 1 c)
    (hc : w.heap[g]? = some (.cells (matA M) 85 (0, 0))) (hl : xs.length ≤ 1000) (hbase : base ≤ w.heap.size)
    (hK : ∀ v' w', OwnWk w' base v' (xs ++ [M]) → w.grownBy w' v.ownBlock → Below base w w' → wpList Try.prog ops Q rest (a.put o.dst v') w') : wpList Try.prog ops Q (o :: rest) a w := by
  obtain ⟨i0, hi, hz0, hz1, hz2⟩ := info_parts infoMats
  have hb : (xs.length + 1) * 1352 ≤ 1001 * 1352 := Nat.mul_le_mul (by omega) (Nat.le_refl _)
  refine wpList_append_own w hgd s x 87 ho base 85 i0 _ 169 1352 Try.underlying87 hi hz0 hz1 hz2 (by rw [mat_zero]; exact matA_size _) (by decide) v xs.length (cellsE EMat xs) hs hown ⟨g, 0, none⟩ 1 c (EMat.enc M) hx (by rw [EMat.len]; rfl) (news_of (E := EMat) hc (by simp [matA, EMat])) (EMat.one M) (by unfold maxLen; omega) (by omega) hbase ?_
  intro v' w' h1 h2 _
  refine hK v' w' ?_ h2 ((Below.refl base w).grown h2 hbase (fun k hk => (hown.lt k hk).1))
  unfold OwnWk OwnE
  rw [cellsE_snoc, List.length_append]
  exact h1
/-- a slice of one array, made -/
theorem own_one {w : World} {base g : Nat} {M : Nat → Nat → Int} (h : Mat w g M) (hb : base ≤ g) : OwnWk w base (.slice (some ⟨g, 0, none⟩) 1 1) [M] :=
  OwnE.lit (E := EMat) (cur := matA M) h (by simp [matA, cellsE, EMat]) hb rfl (by decide)

end Go.Proofs.Ytcmibhechhcpiaa
