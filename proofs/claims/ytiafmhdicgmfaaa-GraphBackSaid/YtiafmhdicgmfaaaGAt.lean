/-
  Rows that grow beside one another: append of many, and where the new row lies; slices.Sort of a row.
-/
import Derived.Test.YtiafmhdicgmfaaaGInc
import Derived.Test.YtiafmhdicgmfaaaChain
import Derived.Maps.AppendAt
import Derived.Sort.OwnSortedInts
namespace Go.Proofs.Ytiafmhdicgmfaaa
open Go.RowKit

theorem run_append_ints_at (w : World) (ty : TypeId) (base : Nat) (v : Value) (xs : List Int) (hown : OwnI w base v xs) (A : Option Addr) (c B : Nat) (ys : List Int) (hR : Ints w B A ys) (hl : xs.length ≤ 100000) (hl2 : ys.length ≤ 100000) (hbase : base ≤ w.heap.size) :
    ∃ v' w', (Builtin.append_ #[22, 22] ty #[v, .slice A ys.length c]).run Try.prog w = .ok v' w' ∧ OwnI w' base v' (xs ++ ys) ∧ w.grownBy w' v.ownBlock ∧ (v'.ownBlock = v.ownBlock ∨ ∃ h, v'.ownBlock = some h ∧ w.heap.size ≤ h) := by
  obtain ⟨i0, hi, hz0, hz1, hz2⟩ := info_parts infoInt
  cases A with
  | none =>
    have e : ys = [] := by
      rcases hR with h | ⟨b, off, h, _⟩
      · exact h
      · cases h
    subst e
    have hr := run_append_empty (P := Try.prog) (w := w) base 22 ty 3 i0 1 c Try.underlying22 hi v xs.length (cellsE EInt xs) hown
    exact ⟨v, w, hr, by rw [List.append_nil]; exact hown, grown_refl w _, .inl rfl⟩
  | some ad =>
    have hb : (xs.length + ys.length) * 8 ≤ 200000 * 8 := Nat.mul_le_mul (by omega) (Nat.le_refl _)
    obtain ⟨v', w', hr, h2, h3, _, h5⟩ := run_append_own_at (P := Try.prog) w base 22 ty 3 i0 (.int .i64 0) 1 8 Try.underlying22 hi hz0 hz1 hz2 rfl (by decide) v xs.length (cellsE EInt xs) hown ad ys.length c (cellsE EInt ys) (by rw [cellsE_length]; rfl) (by
      intro j u hu
      rcases hR with h | ⟨g, off, h, _, h3⟩
      · subst h; simp [cellsE] at hu
      · cases h
        rw [addr_plain]
        exact reads_cells (E := EInt) (by decide) h3 j u hu) (cellsE_one EInt ys) (by unfold maxLen; omega) (by omega) hbase
    refine ⟨v', w', hr, ?_, h3, h5.imp id (fun h => ⟨_, h, Nat.le_refl _⟩)⟩
    unfold OwnI OwnE
    rw [show cellsE EInt (xs ++ ys) = cellsE EInt xs ++ cellsE EInt ys by simp [cellsE], List.length_append]
    exact h2
theorem step_append_at {w : World} {ops : Array Oper} {o : Oper} {a : Act} {K : Act → World → Prop} {Q : Exit → Act → World → Prop} {X : Prop} (hgd : o.guard = none) (s x : Operand)
    (ho : o.op = .call { callee := .builtin .append, args := #[s, x], argTypes := #[22, 22] })
    (base : Nat) (v : Value) (xs : List Int) (hs : a.eval s = v) (hown : OwnI w base v xs) (A : Option Addr) (c B : Nat) (ys : List Int) (hx : a.eval x = .slice A ys.length c) (hR : Ints w B A ys) (hl : xs.length ≤ 100000) (hl2 : ys.length ≤ 100000) (hbase : base ≤ w.heap.size)
    (hK : ∀ v' w', OwnI w' base v' (xs ++ ys) → w.grownBy w' v.ownBlock → (v'.ownBlock = v.ownBlock ∨ ∃ h, v'.ownBlock = some h ∧ w.heap.size ≤ h) → K (a.put o.dst v') w') : if Region.wanted o (yielded ops a.tmps) = true then Oper.wp Try.prog o a w K Q else X := by
  have hw : Region.wanted o (yielded ops a.tmps) = true := by simp [Region.wanted, hgd]
  rw [if_pos hw]
  obtain ⟨v', w', hr, h2, h3, h4⟩ := run_append_ints_at w o.type base v xs hown A c B ys hR hl hl2 hbase
  unfold Oper.wp execOp
  simp only [ho, resolve, invoke, builtin, Sem.run_bind, Sem.run_pure, Result.andThen_ok, List.map_toArray, List.map_cons, List.map_nil, hs, hx, hr]
  exact hK v' w' h2 h3 h4

/-! slices.Sort -/
def srt (xs : List Int) : List Int := xs.mergeSort fun x y => decide (x ≤ y)
theorem srt_len (xs : List Int) : (srt xs).length = xs.length := List.length_mergeSort _
theorem sort_any (base : Nat) (v : Value) (xs : List Int) (w : World) (h : OwnI w base v xs) (hl : xs.length ≤ 1000000) :
    Calls Try.prog 34 #[v] w fun e w' => e = .returned (.tuple #[]) ∧ OwnI w' base v (srt xs) ∧ w.grownBy w' v.ownBlock := by
  have hc : cellsE EInt xs = xs.map (Value.int .i64) := cellsE_int xs
  have hc2 : cellsE EInt (srt xs) = (srt xs).map (Value.int .i64) := cellsE_int _
  have h0 := h
  rcases h0.2 with ⟨e, hn⟩ | ⟨g, cap, cur, e, hbg, hg, h1, h2, h3, h4⟩
  · have hx : xs = [] := List.eq_nil_of_length_eq_zero hn
    subst hx e
    refine (Try.slices_Sort_int_none none 0 w).mono ?_
    rintro e w' ⟨rfl, rfl⟩
    exact ⟨rfl, by rw [show srt [] = [] from List.mergeSort_nil]; exact h, grown_refl _ _⟩
  · subst e
    have hH := holds_of_blockI (ss := xs) hg (by rw [← hc, ← h4, show EInt.size = 1 from rfl, Nat.mul_one])
    refine (Try.slices_Sort_int g 0 cap xs w hH (Array.getElem?_eq_some_iff.1 hg).1 (by omega)).mono ?_
    rintro e w' ⟨rfl, n, os, rfl⟩
    refine ⟨rfl, ?_, grownBy_sortedI _⟩
    unfold OwnI OwnE
    rw [hc2, srt_len]
    exact ownsRow_sortedI (srt_len xs) hbg hg h1 h2 h3

end Go.Proofs.Ytiafmhdicgmfaaa
