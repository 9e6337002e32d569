/-
  A slice argument of structures that hold slices, opened together with its datum: for what the datum's weights say.
-/
import Derived.Test.YtgpcaofikmdpjaaDeep
namespace Go.Proofs.Ytgpcaofikmdpjaa
open Go.RowKit

section
open Go.ChangeShapes Go.WideShapes Go.Deep

/-- the elements of a slice's datum -/
def elemsOf {H : Type} : DataW H → List (DataW H)
  | .slice e _ => e
  | _ => []
theorem weights_all {H : Type} {P : Program} {e : TypeId} {d : DataW H} : ∀ {l : List (DataW H)}, d ∈ l → ∀ n ∈ d.weights P e, n ∈ DataW.weightsAll P e l
  | [], h, _, _ => by simp at h
  | d0 :: r, h, n, hn => by
    simp only [DataW.weightsAll, List.mem_append]
    rcases List.mem_cons.1 h with rfl | h
    · exact .inl hn
    · exact .inr (weights_all h n hn)
theorem weights_elem {H : Type} {P : Program} {T t : TypeId} {x d : DataW H} (hT : P.underlying T = some (.slice t)) (hd : d ∈ elemsOf x) : ∀ n ∈ d.weights P t, n ∈ x.weights P T := fun n hn => by
  cases x <;> simp only [elemsOf, List.not_mem_nil] at hd
  simp only [DataW.weights, hT, List.mem_cons, List.mem_append]
  exact .inr (.inl (weights_all hd n hn))
theorem weights_len {H : Type} {P : Program} {T t : TypeId} {x : DataW H} (hT : P.underlying T = some (.slice t)) (h : ∀ n ∈ x.weights P T, n ≤ reachBytes) : (elemsOf x).length * P.bytesOf t ≤ reachBytes := by
  cases x <;> simp only [elemsOf, List.length_nil, Nat.zero_mul, Nat.zero_le]
  rename_i elems spare
  have := h ((elems.length + spare.length) * P.bytesOf t) (by simp [DataW.weights, hT])
  exact Nat.le_trans (Nat.mul_le_mul_right _ (Nat.le_add_right _ _)) this

theorem open_D2 {α : Type} (D : DEl α) (t T : TypeId) (hT : Try.prog.underlying T = some (.slice t)) (hc : Try.prog.cellsOf t = D.size) (hp : 0 < D.size) [Inhabited α]
    {H : Type} (G : α → DataW H → Prop) {enc : TypeId × Value → H} {W : World} (hdec : ∀ (fuel : Nat) (cs : List Value) (x : DataW H × List MemPlace), DataW.trod enc Try.prog W 0 (fun _ => true) true fuel t cs = some x → ∃ y, D.rel W W.heap.size y cs ∧ G y x.1)
    {fuel : Nat} {cs : List Value} {x : DataW H × List MemPlace} (h : DataW.trod enc Try.prog W 0 (fun _ => true) true fuel T cs = some x) :
    ∃ (A : Option Addr) (xs : List α) (c : Nat), cs = [.slice A xs.length c] ∧ DReads D W W.heap.size A xs ∧ (∀ y ∈ xs, ∃ d ∈ elemsOf x.1, G y d) ∧ xs.length = (elemsOf x.1).length ∧ xs.length ≤ c ∧ c ≤ maxLen := by
  rcases open_slice hT h with ⟨rfl, rfl⟩ | ⟨a, len, cap, m, n, Ed, Pl, rfl, _, hlc, hcm, hm, rfl, hi⟩
  · exact ⟨none, [], 0, rfl, .inl rfl, fun y hy => by simp at hy, rfl, by simp, by simp⟩
  · simp only [if_true] at hm
    subst hm
    have hget : ∀ i, ∃ y : α, i < len → G y (Ed i) ∧ ∃ cs, D.rel W W.heap.size y cs ∧ ∀ j u, cs[j]? = some u → W.cell? (a.add (i * D.size + j)) = some u := by
      intro i
      by_cases hil : i < len
      · obtain ⟨cs', hcs, ht⟩ := hi i (by omega)
        rw [hc] at hcs
        obtain ⟨_, hl2, hat⟩ := World.cells?_some hcs
        obtain ⟨y, hr, hg⟩ := hdec _ _ _ ht
        refine ⟨y, fun _ => ⟨hg, cs', hr, fun j u hu => ?_⟩⟩
        have hj : j < D.size := by
          rw [← hl2]
          rcases Nat.lt_or_ge j cs'.length with h1 | h1
          · exact h1
          · rw [List.getElem?_eq_none h1] at hu; cases hu
        have := hat j hj
        rw [Addr.add_add] at this
        rw [this, hu]
      · exact ⟨default, fun h => absurd h hil⟩
    obtain ⟨f, hf⟩ := Classical.axiomOfChoice hget
    have hlf : ((List.range len).map f).length = len := by simp
    refine ⟨some a, (List.range len).map f, m, by rw [hlf], ?_, ?_, by simp [elemsOf], by omega, hcm⟩
    · by_cases h0 : len = 0
      · subst h0; exact .inl rfl
      · obtain ⟨b, off, spot⟩ := a
        obtain ⟨_, cs0, hr0, hc0⟩ := hf 0 (by omega)
        obtain ⟨u, hu⟩ : ∃ u, cs0[0]? = some u := ⟨_, List.getElem?_eq_getElem (by rw [D.len hr0]; exact hp)⟩
        have hc0 := hc0 0 u hu
        have hspot : spot = none := by simpa [Addr.add] using World.cell?_spot hc0
        subst hspot
        have hb : b < W.heap.size := by
          have := World.block_lt_of_cell? W _ hc0
          simpa [Addr.add] using this
        refine .inr ⟨b, off, rfl, hb, fun i y hy => ?_⟩
        rw [List.getElem?_map, Option.map_eq_some_iff] at hy
        obtain ⟨i', hi', rfl⟩ := hy
        rw [List.getElem?_eq_some_iff] at hi'
        obtain ⟨h1, h2⟩ := hi'
        rw [List.getElem_range] at h2
        rw [List.length_range] at h1
        subst h2
        obtain ⟨_, cs1, hr1, hc1⟩ := hf i h1
        refine ⟨cs1, hr1, fun j u hu => ?_⟩
        have := hc1 j u hu
        rw [addr_plain] at this
        rw [show off + i * D.size + j = off + (i * D.size + j) by omega]
        exact this
    · intro y hy
      rw [List.mem_map] at hy
      obtain ⟨i, hi1, rfl⟩ := hy
      exact ⟨Ed i, by simp only [elemsOf, List.mem_map]; exact ⟨i, hi1, rfl⟩, (hf i (by simpa using hi1)).1⟩
end

end Go.Proofs.Ytgpcaofikmdpjaa
