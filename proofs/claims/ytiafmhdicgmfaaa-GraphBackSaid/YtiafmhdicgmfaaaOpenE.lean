/-
  Arguments: a slice of plain elements, opened.
-/
import Derived.Test.YtiafmhdicgmfaaaBase
import Derived.ProofKit
import Derived.OpenShut
import Derived.Deep.Slices
import Derived.Deep.Strs
import Derived.SizedLaws
namespace Go.Proofs.Ytiafmhdicgmfaaa
open Go.RowKit

theorem laidOut : laidOutB Try.prog = true := by kernel_rfl
theorem ownNone : ownKnob Try.prog.godebug = none := by kernel_rfl
section
open Go.ChangeShapes Go.WideShapes Go.Deep

theorem open_E {α : Type} (E : El α) (G : α → Prop) (t T : TypeId) (hT : Try.prog.underlying T = some (.slice t)) (hc : Try.prog.cellsOf t = E.size) (hp : 0 < E.size) [Inhabited α]
    {H : Type} {enc : TypeId × Value → H} {W : World} (hdec : ∀ (fuel : Nat) (cs : List Value) (x : DataW H × List MemPlace), DataW.trod enc Try.prog W 0 (fun _ => true) true fuel t cs = some x → ∃ y, cs = E.enc y ∧ G y)
    {fuel : Nat} {cs : List Value} {x : DataW H × List MemPlace} (h : DataW.trod enc Try.prog W 0 (fun _ => true) true fuel T cs = some x) :
    ∃ (A : Option Addr) (xs : List α) (c : Nat), cs = [.slice A xs.length c] ∧ Reads E W W.heap.size A xs ∧ (∀ y ∈ xs, G y) ∧ xs.length ≤ c ∧ c ≤ maxLen := by
  rcases open_slice hT h with ⟨rfl, rfl⟩ | ⟨a, len, cap, m, n, D, Pl, rfl, _, hlc, hcm, hm, rfl, hi⟩
  · exact ⟨none, [], 0, rfl, .inl rfl, fun y hy => by simp at hy, by simp, by simp⟩
  · simp only [if_true] at hm
    subst hm
    have hget : ∀ i, ∃ y : α, i < len → G y ∧ ∀ j u, (E.enc y)[j]? = some u → W.cell? (a.add (i * E.size + j)) = some u := by
      intro i
      by_cases hil : i < len
      · obtain ⟨cs', hcs, ht⟩ := hi i (by omega)
        rw [hc] at hcs
        obtain ⟨_, hl2, hat⟩ := World.cells?_some hcs
        obtain ⟨y, rfl, hg⟩ := hdec _ _ _ ht
        refine ⟨y, fun _ => ⟨hg, fun j u hu => ?_⟩⟩
        have hj : j < E.size := by
          rw [← E.len y]
          rcases Nat.lt_or_ge j (E.enc y).length with h1 | h1
          · exact h1
          · rw [List.getElem?_eq_none h1] at hu; cases hu
        have := hat j hj
        rw [Addr.add_add] at this
        rw [this, hu]
      · exact ⟨default, fun h => absurd h hil⟩
    obtain ⟨f, hf⟩ := Classical.axiomOfChoice hget
    have hlf : ((List.range len).map f).length = len := by simp
    refine ⟨some a, (List.range len).map f, m, by rw [hlf], ?_, ?_, by omega, hcm⟩
    · by_cases h0 : len = 0
      · subst h0; exact .inl rfl
      · obtain ⟨b, off, spot⟩ := a
        obtain ⟨u, hu⟩ : ∃ u, (E.enc (f 0))[0]? = some u := ⟨_, List.getElem?_eq_getElem (by rw [E.len]; exact hp)⟩
        have hc0 := (hf 0 (by omega)).2 0 u hu
        have hspot : spot = none := by simpa [Addr.add] using World.cell?_spot hc0
        subst hspot
        have hb : b < W.heap.size := by
          have := World.block_lt_of_cell? W _ hc0
          simpa [Addr.add] using this
        refine .inr ⟨b, off, rfl, hb, fun i y hy j u hu => ?_⟩
        rw [List.getElem?_map, Option.map_eq_some_iff] at hy
        obtain ⟨i', hi', rfl⟩ := hy
        rw [List.getElem?_eq_some_iff] at hi'
        obtain ⟨h1, h2⟩ := hi'
        rw [List.getElem_range] at h2
        rw [List.length_range] at h1
        subst h2
        have := (hf i h1).2 j u hu
        rw [addr_plain] at this
        rw [show off + i * E.size + j = off + (i * E.size + j) by omega]
        exact this
    · intro y hy
      rw [List.mem_map] at hy
      obtain ⟨i, hi1, rfl⟩ := hy
      exact (hf i (by simpa using hi1)).1

end

end Go.Proofs.Ytiafmhdicgmfaaa
