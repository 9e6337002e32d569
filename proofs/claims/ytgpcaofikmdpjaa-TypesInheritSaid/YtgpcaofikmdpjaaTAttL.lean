/-
  Types: attributes in memory, raw; the attributes of a type, plain.
-/
import Derived.Test.YtgpcaofikmdpjaaTBel
import Derived.Test.YtgpcaofikmdpjaaAppm
namespace Go.Proofs.Ytgpcaofikmdpjaa
open Go.RowKit

/-- an attribute whose names are a slice's header -/
structure RAtt where
  nm : ByteArray
  lo : Int
  hi : Int
  A : Option Addr
  n : Nat
  c : Nat
instance : Inhabited RAtt := ⟨⟨⟨#[]⟩, 0, 0, none, 0, 0⟩⟩
def ERaw : El RAtt := ⟨fun x => [.string x.nm, .int .i64 x.lo, .int .i64 x.hi, .slice x.A x.n x.c], 4, fun _ => rfl, fun x u hu => by simp at hu; rcases hu with rfl | rfl | rfl | rfl <;> rfl⟩
theorem infoAtt : (Try.prog.info? 58).map (fun i => (i.zero, i.size, i.bytes)) = some (some (.agg #[.string ⟨#[]⟩, .int .i64 0, .int .i64 0, .slice none 0 0]), 4, 56) := by kernel_rfl
abbrev OwnR (w : World) (base : Nat) (v : Value) (ys : List RAtt) : Prop := OwnE ERaw 58 w base v ys
/-- raw attributes that read as attributes -/
def RawRel (w : World) (B : Nat) (ys : List RAtt) (xs : List Att) : Prop := ys.length = xs.length ∧ ∀ (i : Nat) (y : RAtt) (x : Att), ys[i]? = some y → xs[i]? = some x → DAtt.rel w B x (ERaw.enc y)
theorem RawRel.nil (w : World) (B : Nat) : RawRel w B [] [] := ⟨rfl, fun i y x h => by simp at h⟩
theorem RawRel.below {w w' : World} {B : Nat} {ys : List RAtt} {xs : List Att} (h : RawRel w B ys xs) (hb : Below B w w') : RawRel w' B ys xs := ⟨h.1, fun i y x h1 h2 => DAtt.below (h.2 i y x h1 h2) hb⟩
theorem RawRel.mono {w : World} {B B' : Nat} {ys : List RAtt} {xs : List Att} (h : RawRel w B ys xs) (hb : B ≤ B') : RawRel w B' ys xs := ⟨h.1, fun i y x h1 h2 => DAtt.mono (h.2 i y x h1 h2) hb⟩
theorem RawRel.append {w : World} {B : Nat} {ys ys' : List RAtt} {xs xs' : List Att} (h : RawRel w B ys xs) (h' : RawRel w B ys' xs') : RawRel w B (ys ++ ys') (xs ++ xs') := by
  refine ⟨by rw [List.length_append, List.length_append, h.1, h'.1], fun i y x h1 h2 => ?_⟩
  rw [List.getElem?_append] at h1 h2
  by_cases hi : i < ys.length
  · rw [if_pos hi] at h1
    rw [if_pos (by rw [← h.1]; exact hi)] at h2
    exact h.2 i y x h1 h2
  · rw [if_neg hi] at h1
    rw [if_neg (by rw [← h.1]; exact hi), ← h.1] at h2
    exact h'.2 _ y x h1 h2
theorem Atts.raw {w : World} {B : Nat} {A : Option Addr} {xs : List Att} (h : Atts w B A xs) : ∃ ys, Reads ERaw w B A ys ∧ RawRel w B ys xs := by
  rcases h with h | ⟨b, off, h1, h2, h3⟩
  · subst h
    exact ⟨[], .inl rfl, RawRel.nil _ _⟩
  · have hget : ∀ i, ∃ y : RAtt, ∀ x, xs[i]? = some x → DAtt.rel w B x (ERaw.enc y) ∧ ∀ j u, (ERaw.enc y)[j]? = some u → w.cell? ⟨b, off + i * 4 + j, none⟩ = some u := by
      intro i
      cases hx : xs[i]? with
      | none => exact ⟨default, fun x h => by cases h⟩
      | some x =>
        obtain ⟨cs, ⟨A', c', rfl, hr⟩, hc⟩ := h3 i x hx
        refine ⟨⟨x.nm, x.lo, x.hi, A', x.ns.length, c'⟩, fun x' hx' => ?_⟩
        cases hx'
        exact ⟨⟨A', c', rfl, hr⟩, hc⟩
    obtain ⟨f, hf⟩ := Classical.axiomOfChoice hget
    refine ⟨(List.range xs.length).map f, .inr ⟨b, off, h1, h2, fun i y hy j u hu => ?_⟩, by simp, fun i y x hy hx => ?_⟩
    · rw [List.getElem?_map, Option.map_eq_some_iff] at hy
      obtain ⟨i', hi', rfl⟩ := hy
      obtain ⟨hi1, hi2⟩ := List.getElem?_eq_some_iff.1 hi'
      rw [List.getElem_range] at hi2
      rw [List.length_range] at hi1
      subst hi2
      exact (hf i _ (List.getElem?_eq_getElem hi1)).2 j u hu
    · rw [List.getElem?_map, Option.map_eq_some_iff] at hy
      obtain ⟨i', hi', rfl⟩ := hy
      obtain ⟨hi1, hi2⟩ := List.getElem?_eq_some_iff.1 hi'
      rw [List.getElem_range] at hi2
      subst hi2
      exact (hf i x hx).1
theorem Reads.atts {w : World} {B B' : Nat} {A : Option Addr} {ys : List RAtt} {xs : List Att} (h : Reads ERaw w B A ys) (hr : RawRel w B' ys xs) (hb : B' ≤ B) : Atts w B A xs :=
  Reads.lift h rfl hr.1.symm fun i x y h1 h2 => DAtt.mono (hr.2 i y x h2 h1) hb

/-- each of the first n parents is an earlier type, or -1 -/
def GoodU (t : Typ) (n : Nat) : Prop := ∀ i, i < n → -1 ≤ parT t i ∧ parT t i < i
def attU (t : Typ) : Nat → Int → List Att
  | 0, _ => []
  | f + 1, a => if a < 0 then [] else attU t f (parT t a.toNat) ++ (t.nodes.getD a.toNat default).att
/-- the attributes of a type, those of its supertypes first -/
def attL (t : Typ) (a : Int) : List Att := attU t (a + 1).toNat a
theorem attU_fuel {t : Typ} {n : Nat} (hg : GoodU t n) : ∀ (f g : Nat) (a : Int), -1 ≤ a → a < n → (a + 1).toNat ≤ f → (a + 1).toNat ≤ g → attU t f a = attU t g a := by
  intro f
  induction f with
  | zero =>
    intro g a h1 _ h3 _
    have : a = -1 := by omega
    subst this
    cases g with
    | zero => rfl
    | succ g => simp only [attU]; rw [if_pos (by omega)]
  | succ f ih =>
    intro g a h1 h2 h3 h4
    cases g with
    | zero =>
      have : a = -1 := by omega
      subst this
      simp only [attU]
      rw [if_pos (by omega)]
    | succ g =>
      simp only [attU]
      by_cases h0 : a < 0
      · rw [if_pos h0, if_pos h0]
      · obtain ⟨k, rfl⟩ : ∃ k : Nat, a = k := ⟨a.toNat, by omega⟩
        have hp := hg k (by omega)
        rw [Int.toNat_natCast]
        rw [ih g (parT t k) hp.1 (by omega) (by omega) (by omega)]
theorem attL_none (t : Typ) : attL t (-1) = [] := rfl
theorem attL_step {t : Typ} {n : Nat} (hg : GoodU t n) {k : Nat} (hk : k < n) : attL t k = attL t (parT t k) ++ (t.nodes.getD k default).att := by
  unfold attL
  have hp := hg k hk
  rw [show ((k : Int) + 1).toNat = k + 1 by omega]
  simp only [attU]
  rw [if_neg (by omega), Int.toNat_natCast]
  rw [attU_fuel hg k (parT t k + 1).toNat (parT t k) hp.1 (by omega) (by omega) (Nat.le_refl _)]
theorem attU_len {t : Typ} (h : ∀ x ∈ t.nodes, x.att.length ≤ 30) : ∀ (f : Nat) (a : Int), (attU t f a).length ≤ 30 * f := by
  intro f
  induction f with
  | zero => intro a; exact Nat.le_refl _
  | succ f ih =>
    intro a
    simp only [attU]
    split
    · simp
    · rw [List.length_append]
      have h1 := ih (parT t a.toNat)
      have h2 : (t.nodes.getD a.toNat default).att.length ≤ 30 := by
        rw [List.getD_eq_getElem?_getD]
        cases hx : t.nodes[a.toNat]? with
        | none => exact Nat.zero_le _
        | some x => exact h x (List.mem_of_getElem? hx)
      omega
theorem attL_len {t : Typ} (h : ∀ x ∈ t.nodes, x.att.length ≤ 30) {a : Int} (ha : a ≤ 20) : (attL t a).length ≤ 630 := by
  have := attU_len h (a + 1).toNat a
  unfold attL
  omega

end Go.Proofs.Ytgpcaofikmdpjaa
