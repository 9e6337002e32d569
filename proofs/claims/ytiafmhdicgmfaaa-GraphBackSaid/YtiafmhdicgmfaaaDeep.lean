/-
  Slices of structures that hold slices: what they read as, by an element's relation to its cells.
-/
import Derived.Test.YtiafmhdicgmfaaaBase
import Derived.Test.YtiafmhdicgmfaaaOpenE
namespace Go.Proofs.Ytiafmhdicgmfaaa
open Go.RowKit

/-- how an element lies in cells, where some of the cells lead on into memory below B -/
structure DEl (α : Type) where
  size : Nat
  rel : World → Nat → α → List Value → Prop
  len : ∀ {w B x cs}, rel w B x cs → cs.length = size
  below : ∀ {w w' B x cs}, rel w B x cs → Below B w w' → rel w' B x cs
  mono : ∀ {w B B' x cs}, rel w B x cs → B ≤ B' → rel w B' x cs

section
variable {α : Type} {D : DEl α}
/-- the slice at A reads as xs, in blocks below B -/
def DReads (D : DEl α) (w : World) (B : Nat) (A : Option Addr) (xs : List α) : Prop :=
  xs = [] ∨ ∃ b off, A = some ⟨b, off, none⟩ ∧ b < B ∧ ∀ i x, xs[i]? = some x → ∃ cs, D.rel w B x cs ∧ ∀ j u, cs[j]? = some u → w.cell? ⟨b, off + i * D.size + j, none⟩ = some u
/-- a slice value that reads as xs -/
def DSl (D : DEl α) (w : World) (B : Nat) (v : Value) (xs : List α) : Prop := ∃ A c, v = .slice A xs.length c ∧ DReads D w B A xs

theorem DReads.below {w w' : World} {B : Nat} {A : Option Addr} {xs : List α} (h : DReads D w B A xs) (hb : Below B w w') : DReads D w' B A xs := by
  rcases h with h | ⟨b, off, h1, h2, h3⟩
  · exact .inl h
  · refine .inr ⟨b, off, h1, h2, fun i x hx => ?_⟩
    obtain ⟨cs, k1, k2⟩ := h3 i x hx
    exact ⟨cs, D.below k1 hb, fun j u hu => (hb.cell (p := ⟨b, off + i * D.size + j, none⟩) h2).trans (k2 j u hu)⟩
theorem DReads.mono {w : World} {B B' : Nat} {A : Option Addr} {xs : List α} (h : DReads D w B A xs) (hb : B ≤ B') : DReads D w B' A xs := by
  rcases h with h | ⟨b, off, h1, h2, h3⟩
  · exact .inl h
  · refine .inr ⟨b, off, h1, by omega, fun i x hx => ?_⟩
    obtain ⟨cs, k1, k2⟩ := h3 i x hx
    exact ⟨cs, D.mono k1 hb, k2⟩
theorem DReads.up {w w' : World} {A : Option Addr} {xs : List α} (h : DReads D w w.heap.size A xs) (hb : Below w.heap.size w w') : DReads D w' w'.heap.size A xs := (h.below hb).mono hb.size
theorem DReads.at {w : World} {B : Nat} {A : Option Addr} {xs : List α} (h : DReads D w B A xs) {k : Nat} (hk : k < xs.length) :
    ∃ b off cs, A = some ⟨b, off, none⟩ ∧ b < B ∧ D.rel w B xs[k] cs ∧ ∀ j u, cs[j]? = some u → w.cell? ⟨b, off + k * D.size + j, none⟩ = some u := by
  rcases h with h | ⟨b, off, h1, h2, h3⟩
  · subst h; simp at hk
  · obtain ⟨cs, k1, k2⟩ := h3 k xs[k] (List.getElem?_eq_getElem hk)
    exact ⟨b, off, cs, h1, h2, k1, k2⟩
theorem DReads.take {w : World} {B : Nat} {A : Option Addr} {xs : List α} (h : DReads D w B A xs) (k : Nat) : DReads D w B A (xs.take k) := by
  rcases h with h | ⟨b, off, h1, h2, h3⟩
  · exact .inl (by rw [h]; simp)
  · refine .inr ⟨b, off, h1, h2, fun i x hx => h3 i x ?_⟩
    rw [List.getElem?_take] at hx
    split at hx
    · exact hx
    · cases hx
theorem DSl.below {w w' : World} {B : Nat} {v : Value} {xs : List α} (h : DSl D w B v xs) (hb : Below B w w') : DSl D w' B v xs := by
  obtain ⟨A, c, e, h⟩ := h
  exact ⟨A, c, e, h.below hb⟩
theorem DSl.mono {w : World} {B B' : Nat} {v : Value} {xs : List α} (h : DSl D w B v xs) (hb : B ≤ B') : DSl D w B' v xs := by
  obtain ⟨A, c, e, h⟩ := h
  exact ⟨A, c, e, h.mono hb⟩
theorem DSl.up {w w' : World} {v : Value} {xs : List α} (h : DSl D w w.heap.size v xs) (hb : Below w.heap.size w w') : DSl D w' w'.heap.size v xs := (h.below hb).mono hb.size
theorem DSl.nil (D : DEl α) (w : World) (B : Nat) : DSl D w B (.slice none 0 0) [] := ⟨none, 0, rfl, .inl rfl⟩

/-- a plain element -/
def El.deep (E : El α) : DEl α := ⟨E.size, fun _ _ x cs => cs = E.enc x, fun h => by rw [h]; exact E.len _, fun h _ => h, fun h _ => h⟩
theorem Reads.deep {E : El α} {w : World} {B : Nat} {A : Option Addr} {xs : List α} (h : Reads E w B A xs) : DReads E.deep w B A xs := by
  rcases h with h | ⟨b, off, h1, h2, h3⟩
  · exact .inl h
  · exact .inr ⟨b, off, h1, h2, fun i x hx => ⟨E.enc x, rfl, h3 i x hx⟩⟩
theorem DReads.plain {E : El α} {w : World} {B : Nat} {A : Option Addr} {xs : List α} (h : DReads E.deep w B A xs) : Reads E w B A xs := by
  rcases h with h | ⟨b, off, h1, h2, h3⟩
  · exact .inl h
  · refine .inr ⟨b, off, h1, h2, fun i x hx j u hu => ?_⟩
    obtain ⟨cs, k1, k2⟩ := h3 i x hx
    have k1 : cs = E.enc x := k1
    subst k1
    exact k2 j u hu

/-- raw elements that read as elements -/
theorem Reads.lift {β : Type} {E : El β} {w : World} {B : Nat} {A : Option Addr} {ys : List β} {xs : List α} (h : Reads E w B A ys) (hs : E.size = D.size) (hl : xs.length = ys.length) (hr : ∀ (i : Nat) (x : α) (y : β), xs[i]? = some x → ys[i]? = some y → D.rel w B x (E.enc y)) : DReads D w B A xs := by
  rcases h with h | ⟨b, off, h1, h2, h3⟩
  · subst h
    exact .inl (List.eq_nil_of_length_eq_zero hl)
  · refine .inr ⟨b, off, h1, h2, fun i x hx => ?_⟩
    have hi : i < ys.length := by
      obtain ⟨h4, _⟩ := List.getElem?_eq_some_iff.1 hx
      omega
    have hy : ys[i]? = some ys[i] := List.getElem?_eq_getElem hi
    exact ⟨E.enc ys[i], hr i x _ hx hy, fun j u hu => by rw [← hs]; exact h3 i _ hy j u hu⟩
end

section
open Go.ChangeShapes Go.WideShapes Go.Deep

theorem open_D {α : Type} (D : DEl α) (G : α → Prop) (t T : TypeId) (hT : Try.prog.underlying T = some (.slice t)) (hc : Try.prog.cellsOf t = D.size) (hp : 0 < D.size) [Inhabited α]
    {H : Type} {enc : TypeId × Value → H} {W : World} (hdec : ∀ (fuel : Nat) (cs : List Value) (x : DataW H × List MemPlace), DataW.trod enc Try.prog W 0 (fun _ => true) true fuel t cs = some x → ∃ y, D.rel W W.heap.size y cs ∧ G y)
    {fuel : Nat} {cs : List Value} {x : DataW H × List MemPlace} (h : DataW.trod enc Try.prog W 0 (fun _ => true) true fuel T cs = some x) :
    ∃ (A : Option Addr) (xs : List α) (c : Nat), cs = [.slice A xs.length c] ∧ DReads D W W.heap.size A xs ∧ (∀ y ∈ xs, G y) ∧ xs.length ≤ c ∧ c ≤ maxLen := by
  rcases open_slice hT h with ⟨rfl, rfl⟩ | ⟨a, len, cap, m, n, E, Pl, rfl, _, hlc, hcm, hm, rfl, hi⟩
  · exact ⟨none, [], 0, rfl, .inl rfl, fun y hy => by simp at hy, by simp, by simp⟩
  · simp only [if_true] at hm
    subst hm
    have hget : ∀ i, ∃ y : α, i < len → G y ∧ ∃ cs, D.rel W W.heap.size y cs ∧ ∀ j u, cs[j]? = some u → W.cell? (a.add (i * D.size + j)) = some u := by
      intro i
      by_cases hil : i < len
      · obtain ⟨cs', hcs, ht⟩ := hi i (by omega)
        rw [hc] at hcs
        obtain ⟨_, hl2, hat⟩ := World.cells?_some hcs
        obtain ⟨y, hr, hg⟩ := hdec _ _ _ ht
        refine ⟨y, fun _ => ⟨hg, cs', hr, fun j u hu => ?_⟩⟩
        have hj : j < D.size := by
          rw [← hl2]
          rcases Nat.lt_or_ge j cs'.length with h1 | h1
          · exact h1
          · rw [List.getElem?_eq_none h1] at hu; cases hu
        have := hat j hj
        rw [Addr.add_add] at this
        rw [this, hu]
      · exact ⟨default, fun h => absurd h hil⟩
    obtain ⟨f, hf⟩ := Classical.axiomOfChoice hget
    have hlf : ((List.range len).map f).length = len := by simp
    refine ⟨some a, (List.range len).map f, m, by rw [hlf], ?_, ?_, by omega, hcm⟩
    · by_cases h0 : len = 0
      · subst h0; exact .inl rfl
      · obtain ⟨b, off, spot⟩ := a
        obtain ⟨_, cs0, hr0, hc0⟩ := hf 0 (by omega)
        obtain ⟨u, hu⟩ : ∃ u, cs0[0]? = some u := ⟨_, List.getElem?_eq_getElem (by rw [D.len hr0]; exact hp)⟩
        have hc0 := hc0 0 u hu
        have hspot : spot = none := by simpa [Addr.add] using World.cell?_spot hc0
        subst hspot
        have hb : b < W.heap.size := by
          have := World.block_lt_of_cell? W _ hc0
          simpa [Addr.add] using this
        refine .inr ⟨b, off, rfl, hb, fun i y hy => ?_⟩
        rw [List.getElem?_map, Option.map_eq_some_iff] at hy
        obtain ⟨i', hi', rfl⟩ := hy
        rw [List.getElem?_eq_some_iff] at hi'
        obtain ⟨h1, h2⟩ := hi'
        rw [List.getElem_range] at h2
        rw [List.length_range] at h1
        subst h2
        obtain ⟨_, cs1, hr1, hc1⟩ := hf i h1
        refine ⟨cs1, hr1, fun j u hu => ?_⟩
        have := hc1 j u hu
        rw [addr_plain] at this
        rw [show off + i * D.size + j = off + (i * D.size + j) by omega]
        exact this
    · intro y hy
      rw [List.mem_map] at hy
      obtain ⟨i, hi1, rfl⟩ := hy
      exact (hf i (by simpa using hi1)).1
end

end Go.Proofs.Ytiafmhdicgmfaaa
