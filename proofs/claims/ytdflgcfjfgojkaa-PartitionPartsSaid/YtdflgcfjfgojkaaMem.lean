/-
  Slices of ints in memory: reading one, owning one.
-/
import Derived.Test.YtdflgcfjfgojkaaPlain
import Derived.Test.YtdflgcfjfgojkaaRows
import Derived.WalkKit
import Derived.WalkSpells
import Derived.WalkLawsBesides
import Derived.Lib.Hide
import Derived.BigQuiet
import Derived.Deep.QuietTactic
import Derived.StillTailTactics
import Derived.IntWalk
namespace Go.Proofs.Ytdflgcfjfgojkaa
open Go.RowKit

theorem ret_bool {a b : Bool} (h : a = b) : Ending.returned (.bool a) = .returned (.bool b) := by rw [h]
theorem ret_int {k : IntKind} {a b : Int} (h : a = b) : Ending.returned (.int k a) = .returned (.int k b) := by rw [h]

def toI (ys : List Nat) : List Int := ys.map fun n : Nat => (n : Int)
theorem toI_length (ys : List Nat) : (toI ys).length = ys.length := by simp [toI]
theorem toI_get? (ys : List Nat) (i : Nat) : (toI ys)[i]? = ys[i]?.map fun n : Nat => (n : Int) := by simp [toI]
theorem toI_at (ys : List Nat) (i : Nat) : (toI ys).getD i 0 = (at_ ys i : Int) := by
  simp only [List.getD, toI_get?, at_]
  cases ys[i]? <;> simp
theorem toI_inj {a b : List Nat} (h : toI a = toI b) : a = b := by
  have hl : a.length = b.length := by have := congrArg List.length h; simpa [toI] using this
  apply ext_at hl
  intro i _
  have := congrArg (fun l => l.getD i (0 : Int)) h
  simp only [toI_at] at this
  omega

/-- the slice at A reads as xs, in a block below B -/
def Ints (w : World) (B : Nat) (A : Option Addr) (xs : List Int) : Prop :=
  xs = [] ∨ ∃ b off, A = some ⟨b, off, none⟩ ∧ b < B ∧ ∀ i x, xs[i]? = some x → w.cell? ⟨b, off + i, none⟩ = some (.int .i64 x)

theorem getD_get {xs : List Int} {i : Nat} (h : i < xs.length) : xs[i]? = some (xs.getD i 0) := by simp [List.getD, h]

theorem Ints.at {w : World} {B : Nat} {A : Option Addr} {xs : List Int} (h : Ints w B A xs) {k : Nat} (hk : k < xs.length) :
    ∃ b off, A = some ⟨b, off, none⟩ ∧ b < B ∧ ∀ i, i < xs.length → w.cell? ⟨b, off + i, none⟩ = some (.int .i64 (xs.getD i 0)) := by
  rcases h with h | ⟨b, off, h1, h2, h3⟩
  · subst h; simp at hk
  · exact ⟨b, off, h1, h2, fun i hi => h3 i _ (getD_get hi)⟩

theorem Ints.atN {w : World} {B : Nat} {A : Option Addr} {ys : List Nat} (h : Ints w B A (toI ys)) {k : Nat} (hk : k < ys.length) :
    ∃ b off, A = some ⟨b, off, none⟩ ∧ b < B ∧ ∀ i, i < ys.length → w.cell? ⟨b, off + i, none⟩ = some (.int .i64 (at_ ys i : Nat)) := by
  obtain ⟨b, off, h1, h2, h3⟩ := h.at (k := k) (by rw [toI_length]; exact hk)
  exact ⟨b, off, h1, h2, fun i hi => by rw [h3 i (by rw [toI_length]; exact hi), toI_at]⟩

theorem Ints.below {w w' : World} {B : Nat} {A : Option Addr} {xs : List Int} (h : Ints w B A xs) (hb : Below B w w') : Ints w' B A xs := by
  rcases h with h | ⟨b, off, h1, h2, h3⟩
  · exact .inl h
  · exact .inr ⟨b, off, h1, h2, fun i x hx => (hb.cell (p := ⟨b, off + i, none⟩) h2).trans (h3 i x hx)⟩
theorem Ints.mono {w : World} {B B' : Nat} {A : Option Addr} {xs : List Int} (h : Ints w B A xs) (hb : B ≤ B') : Ints w B' A xs := by
  rcases h with h | ⟨b, off, h1, h2, h3⟩
  · exact .inl h
  · exact .inr ⟨b, off, h1, by omega, h3⟩
theorem Ints.up {w w' : World} {A : Option Addr} {xs : List Int} (h : Ints w w.heap.size A xs) (hb : Below w.heap.size w w') : Ints w' w'.heap.size A xs :=
  (h.below hb).mono hb.size

/-- the cells of ints -/
def cellsI (xs : List Int) : List Value := xs.map (Value.int .i64)
def cellsN (ys : List Nat) : List Value := ys.map fun n : Nat => Value.int .i64 (n : Int)
theorem cellsI_toI (ys : List Nat) : cellsI (toI ys) = cellsN ys := by simp [cellsI, toI, cellsN]
theorem cellsN_length (ys : List Nat) : (cellsN ys).length = ys.length := by simp [cellsN]
theorem cellsN_snoc (ys : List Nat) (n : Nat) : cellsN (ys ++ [n]) = cellsN ys ++ [.int .i64 (n : Int)] := by simp [cellsN]
theorem cellsN_set (ys : List Nat) (j n : Nat) : (cellsN ys).set j (.int .i64 (n : Int)) = cellsN (ys.set j n) := by simp [cellsN, List.map_set]
theorem cellsN_get {ys : List Nat} {i : Nat} (h : i < ys.length) : (cellsN ys)[i]? = some (.int .i64 (at_ ys i : Nat)) := by simp [cellsN, at_, h]
theorem cellsN_replicate (n : Nat) : cellsN (List.replicate n 0) = List.replicate n (.int .i64 0) := by simp [cellsN]
theorem cellsI_one (xs : List Int) : ∀ u ∈ cellsI xs, u.oneCell' = true := by
  intro u hu
  simp only [cellsI, List.mem_map] at hu
  obtain ⟨x, _, rfl⟩ := hu
  rfl

theorem addr_plain (b off j : Nat) : (⟨b, off, none⟩ : Addr).add j = ⟨b, off + j, none⟩ := Addr.add_lit _ _ _

theorem slice_of {w : World} {base : Nat} {e : TypeId} {size : Nat} {v : Value} {n : Nat} {xs : List Value} (h : w.ownsRow base e size v n xs) : ∃ ao cap, v = .slice ao n cap := by
  rcases h.2 with ⟨hv, h0⟩ | ⟨g, cap, cur, hv, _⟩
  · exact ⟨none, 0, by rw [hv, h0]⟩
  · exact ⟨_, _, hv⟩

/-- a slice that a call made -/
abbrev Own (w : World) (base : Nat) (v : Value) (ys : List Nat) : Prop := w.ownsRow base 3 1 v ys.length (cellsN ys)

theorem Own.ints {w : World} {base : Nat} {v : Value} {ys : List Nat} (h : Own w base v ys) : ∃ A c, v = .slice A ys.length c ∧ Ints w w.heap.size A (toI ys) := by
  have h0 := h
  rcases h.2 with ⟨hv, hn⟩ | ⟨g, cap, cur, hv, hb, hg, _⟩
  · exact ⟨none, 0, by rw [hv, hn], .inl (by rw [List.eq_nil_of_length_eq_zero hn]; rfl)⟩
  · refine ⟨_, _, hv, .inr ⟨g, 0, rfl, (h0.lt g (by rw [hv]; rfl)).2, fun i x hx => ?_⟩⟩
    have hc := h0.cells (g := g) (by rw [hv]; rfl)
    rw [toI_get?] at hx
    have hi : i < ys.length := by
      rcases Nat.lt_or_ge i ys.length with h1 | h1
      · exact h1
      · rw [List.getElem?_eq_none h1] at hx; cases hx
    rw [at_get? hi] at hx
    simp at hx
    have := hc i _ (cellsN_get hi)
    rw [addr_plain] at this
    rw [this, hx]

theorem Own.below {w w' : World} {base B : Nat} {v : Value} {ys : List Nat} (h : Own w base v ys) (hb : Below B w w') (hB : w.heap.size ≤ B) : Own w' base v ys := by
  refine ⟨h.1, ?_⟩
  rcases h.2 with hn | ⟨g, cap, cur, hv, hbg, hg, rest⟩
  · exact .inl hn
  · exact .inr ⟨g, cap, cur, hv, hbg, by rw [hb.block g (Nat.lt_of_lt_of_le (h.lt g (by rw [hv]; rfl)).2 hB)]; exact hg, rest⟩

theorem below_draws {B : Nat} {a w : World} (h : Below B a w) (n : Nat) : Below B a (w.drewN n) := ⟨h.os, h.tape, h.output, h.size, h.block⟩

theorem infoInt : (Try.prog.info? 3).map (fun i => (i.zero, i.size, i.bytes)) = some (some (.int .i64 0), 1, 8) := by kernel_rfl

end Go.Proofs.Ytdflgcfjfgojkaa
