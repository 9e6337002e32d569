/-
  Contracts of the reference's signs and one.
-/
import Derived.Test.YtgpcaofikmdpjaaRef
import Derived.Test.YtgpcaofikmdpjaaTokens
namespace Go.Proofs.Ytgpcaofikmdpjaa
open Go.RowKit

def signL : List (List UInt8) := [[45, 62], [60, 61], [62, 61], [61, 61], [33, 61], [123], [125], [40], [41], [91], [93], [44], [59], [58], [61], [43], [45], [42], [60], [62], [33], [38], [124], [46], [63]]
def signCells : Array Value := (signL.map fun l => Value.string ⟨l.toArray⟩).toArray

theorem signL_len : signL.length = 25 := rfl
theorem sign_small : ∀ k : Fin 25, k.val < 5 → (signL[k.val]'k.isLt).length = 2 ∧ two (signL[k.val]'k.isLt) = true := by decide
theorem sign_big : ∀ k : Fin 25, 5 ≤ k.val → (signL[k.val]'k.isLt).length = 1 ∧ signBytes.contains ((signL[k.val]'k.isLt).headD 0) = true := by decide
theorem sign_len : ∀ k : Fin 25, 1 ≤ (signL[k.val]'k.isLt).length ∧ (signL[k.val]'k.isLt).length ≤ 2 := by decide

/-- the k-th sign stands at the beginning -/
def signAt (r : List UInt8) (k : Nat) : Prop := ∃ h : k < signL.length, r.take (signL[k]).length = signL[k]

theorem two_take (r : List UInt8) : two r = two (r.take 2) := by simp [two, List.take_take]

theorem two_none {r : List UInt8} (h : ∀ j, j < 5 → ¬ signAt r j) : two r = false := by
  have h0 := h 0 (by decide)
  have h1 := h 1 (by decide)
  have h2 := h 2 (by decide)
  have h3 := h 3 (by decide)
  have h4 := h 4 (by decide)
  simp only [signAt, signL, List.getElem_cons_zero, List.getElem_cons_succ, List.length_cons, List.length_nil, exists_prop, not_and] at h0 h1 h2 h3 h4
  simp only [two, Bool.or_eq_false_iff]
  refine ⟨⟨⟨⟨?_, ?_⟩, ?_⟩, ?_⟩, ?_⟩
  · simpa using h0
  · simpa using h1
  · simpa using h2
  · simpa using h3
  · simpa using h4

theorem sign_hit {r : List UInt8} {k : Nat} (h : k < 25) (hk : r.take (signL[k]'h).length = signL[k]'h) (hno : ∀ j, j < k → ¬ signAt r j) : signS r = (4, (signL[k]'h).length, 0) := by
  by_cases h5 : k < 5
  · obtain ⟨h1, h2⟩ := sign_small ⟨k, h⟩ h5
    simp only at h1 h2
    rw [h1] at hk
    unfold signS
    rw [two_take, hk, h2, h1]
    rfl
  · obtain ⟨h1, h2⟩ := sign_big ⟨k, h⟩ (show 5 ≤ k by omega)
    simp only at h1 h2
    have ht := two_none (fun j hj => hno j (by omega))
    rw [h1] at hk
    have hh : r.headD 0 = (signL[k]'h).headD 0 := by
      rw [← hk]
      cases r <;> rfl
    unfold signS
    rw [ht, hh, h2, h1]
    rfl

theorem sign_miss {r : List UInt8} (hr : r ≠ []) (hno : ∀ j, j < 25 → ¬ signAt r j) : signS r = (0, 0, 2) := by
  have ht := two_none (fun j hj => hno j (by omega))
  have hc : signBytes.contains (r.headD 0) = false := by
    rw [Bool.eq_false_iff]
    intro hc
    cases r with
    | nil => exact hr rfl
    | cons c x =>
      simp only [List.headD_cons] at hc
      have hall : ∀ b ∈ signBytes, ∃ i : Fin 25, (signL[i.val]'i.isLt) = [b] := by decide
      obtain ⟨i, hi⟩ := hall c (List.contains_iff_mem.1 hc)
      refine hno i.val i.isLt ⟨i.isLt, ?_⟩
      rw [hi]
      rfl
  unfold signS
  rw [ht, hc]
  rfl

theorem refSigns_any (w : World) : Calls Try.prog 90 #[] w fun e w' => e = .returned (.slice (some ⟨w.heap.size, 0, none⟩) 25 25) ∧ w' = w.alloc (.cells signCells 9) := by
  go_enter Try.func90, Try.ntmps90
  go_wp2
  go_ret
  exact ⟨rfl, rfl⟩

end Go.Proofs.Ytgpcaofikmdpjaa
