/-
  Types: the error of a node type, plain; attrs as a slice of attributes.
-/
import Derived.Test.YtgpcaofikmdpjaaTAttR
namespace Go.Proofs.Ytgpcaofikmdpjaa
open Go.RowKit

def AttSm (a : Att) : Prop := a.nm.size ≤ 40 ∧ a.ns.length ≤ 25 ∧ ∀ s ∈ a.ns, s.size ≤ 40
/-- a small type graph -/
structure FewT (t : Typ) : Prop where
  nodes : t.nodes.length ≤ 20
  edges : t.edges.length ≤ 30
  node : ∀ x ∈ t.nodes, x.nm.size ≤ 40 ∧ x.att.length ≤ 30 ∧ ∀ a ∈ x.att, AttSm a
  edge : ∀ x ∈ t.edges, x.nm.size ≤ 40
theorem attU_mem {t : Typ} : ∀ (f : Nat) (a : Int), ∀ y ∈ attU t f a, ∃ x ∈ t.nodes, y ∈ x.att := by
  intro f
  induction f with
  | zero => intro a y hy; simp [attU] at hy
  | succ f ih =>
    intro a y hy
    simp only [attU] at hy
    split at hy
    · simp at hy
    · rw [List.mem_append] at hy
      rcases hy with hy | hy
      · exact ih _ y hy
      · rw [List.getD_eq_getElem?_getD] at hy
        cases hx : t.nodes[a.toNat]? with
        | none => rw [hx] at hy; simp [default] at hy
        | some x => rw [hx] at hy; exact ⟨x, List.mem_of_getElem? hx, hy⟩
theorem attL_small {t : Typ} (hf : FewT t) (a : Int) : ∀ y ∈ attL t a, AttSm y := fun y hy => by
  obtain ⟨x, hx, h⟩ := attU_mem _ _ y hy
  exact (hf.node x hx).2.2 y h

def ownAt (l : List Att) (k : Nat) : Nat := if isNm (l.getD k default).nm = false then 2 else if (l.take k).any (fun x => decide (x.nm = (l.getD k default).nm)) then 5 else attE (l.getD k default)
def nodeR (x : Nod) (L : List Att) (before : List Nod) (k : Nat) : Nat :=
  if isNm x.nm = false then 2 else if before.any (fun y => decide (y.nm = x.nm)) then 5 else if inB x.par (-1) ((k : Int) - 1) = false then 6 else if 4 < x.att.length ∨ 8 < L.length then 3 else nzD (ownAt L) (L.length - x.att.length) x.att.length
/-- the error of the node type number k -/
def nodeE (t : Typ) (k : Nat) : Nat := nodeR (t.nodes.getD k default) (attL t k) (t.nodes.take k) k
theorem own_step {l : List Att} {k : Nat} (hk : k < l.length) : nzD (ownAt l) k (l.length - k) = if isNm l[k].nm = false then 2 else if (l.take k).any (fun x => decide (x.nm = l[k].nm)) then 5 else if attE l[k] ≠ 0 then attE l[k] else nzD (ownAt l) (k + 1) (l.length - (k + 1)) := by
  rw [nzD_step hk]
  have e : ownAt l k = if isNm l[k].nm = false then 2 else if (l.take k).any (fun x => decide (x.nm = l[k].nm)) then 5 else attE l[k] := by unfold ownAt; rw [getD_at hk]
  rw [e]
  generalize isNm l[k].nm = a
  generalize (l.take k).any (fun x => decide (x.nm = l[k].nm)) = b
  cases a <;> cases b <;> simp
theorem any_take {α : Type} {l : List α} {p : α → Bool} {j k : Nat} (hj : j < k) (hl : j < l.length) (h : p l[j] = true) : (l.take k).any p = true :=
  List.any_eq_true.2 ⟨l[j], List.mem_take_iff_getElem.2 ⟨j, by omega, rfl⟩, h⟩
theorem none_take {α : Type} {l : List α} {p : α → Bool} {j : Nat} (hl : j < l.length) (h : ∀ x ∈ l.take j, p x = false) (hp : p l[j] = false) : ∀ x ∈ l.take (j + 1), p x = false := fun x hx => by
  rw [List.take_succ_eq_append_getElem hl, List.mem_append] at hx
  rcases hx with hx | hx
  · exact h x hx
  · simp at hx; rw [hx]; exact hp
theorem any_none {α : Type} {l : List α} {p : α → Bool} (h : ∀ x ∈ l, p x = false) : l.any p = false := by
  cases hb : l.any p with
  | false => rfl
  | true =>
    obtain ⟨x, hx, h2⟩ := List.any_eq_true.1 hb
    rw [h x hx] at h2; cases h2

theorem attrs_call (t : Typ) (An : Option Addr) (cn : Nat) (Ae : Option Addr) (ce n : Nat) (hg : GoodU t n) (hnl : n ≤ t.nodes.length) (hf : FewT t) (a : Int) (w : World) (h1 : -1 ≤ a) (h2 : a < n) (hT : Nods w w.heap.size An t.nodes) :
    Calls Try.prog 44 #[tyval An t.nodes.length cn Ae t.edges.length ce, .int .i64 a] w fun e w' => (∃ A1 c1, e = .returned (.slice A1 (attL t a).length c1) ∧ Atts w' w'.heap.size A1 (attL t a)) ∧ Below w.heap.size w w' := by
  refine (attrs_any t An cn Ae ce n hg hnl (Nat.le_trans hnl hf.nodes) (fun x hx => (hf.node x hx).2.1) _ a w.heap.size w (Nat.le_refl _) h1 h2 (Nat.le_refl _) hT).mono ?_
  rintro e w' ⟨⟨v, ys, rfl, ho, hr⟩, hb⟩
  obtain ⟨A1, c1, rfl, hrd⟩ := OwnE.reads ho
  rw [hr.1]
  exact ⟨⟨A1, c1, rfl, hrd.atts hr hb.size⟩, hb⟩

end Go.Proofs.Ytgpcaofikmdpjaa
