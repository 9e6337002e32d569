/-
  Slices of slices that lie apart, and an append to one of them; Classes of the program.
-/
import Derived.Test.YtdflgcfjfgojkaaQuo
namespace Go.Proofs.Ytdflgcfjfgojkaa
open Go.RowKit

theorem wpList_append_int_at {w : World} {ops : Array Oper} {rest : List Oper} {o : Oper} {a : Act} {Q : Exit → Act → World → Prop} (hgd : o.guard = none) (s x : Operand)
    (ho : o.op = .call { callee := .builtin .append, args := #[s, x], argTypes := #[22, 22] })
    (base : Nat) (u : Value) (ys : List Nat) (hs : a.eval s = u) (hown : Own w base u ys) (ad : Addr) (c m : Nat) (hx : a.eval x = .slice (some ad) 1 c)
    (hc : w.cell? ad = some (.int .i64 (m : Int))) (hl : ys.length ≤ 1000000) (hbase : base ≤ w.heap.size)
    (hK : ∀ v' w', Own w' base v' (ys ++ [m]) → w.grownBy w' u.ownBlock → (v'.ownBlock = u.ownBlock ∨ ∃ h, v'.ownBlock = some h ∧ w.heap.size ≤ h) → wpList Try.prog ops Q rest (a.put o.dst v') w') : wpList Try.prog ops Q (o :: rest) a w := by
  obtain ⟨i0, hi, hz0, hz1, hz2⟩ := info_parts infoInt
  have hn1 : ∀ j u', [Value.int .i64 (m : Int)][j]? = some u' → w.cell? (ad.add j) = some u' := by
    intro j u' hj
    cases j with
    | zero =>
      simp at hj; subst hj
      obtain ⟨b, off, sp⟩ := ad
      have : (⟨b, off, sp⟩ : Addr).add 0 = ⟨b, off, sp⟩ := by simp [Addr.add]
      rw [this]; exact hc
    | succ j => simp at hj
  have hn2 : ∀ u' ∈ [Value.int .i64 (m : Int)], u'.oneCell' = true := by intro u' hu; simp at hu; subst hu; rfl
  have fin : ∀ v' w', w'.ownsRow w.heap.size 3 1 v' (ys.length + 1) (cellsN ys ++ [.int .i64 (m : Int)]) → w.grownBy w' none → wpList Try.prog ops Q rest (a.put o.dst v') w' := by
    intro v' w' h1 h2
    have h3 : Own w' w.heap.size v' (ys ++ [m]) := by
      unfold Own
      rw [cellsN_snoc, List.length_append]
      exact h1
    refine hK v' w' (h3.mono hbase) ⟨h2.os, h2.tape, h2.output, h2.size, fun k hk _ => h2.block k hk (by simp)⟩ (.inr ?_)
    obtain ⟨g, cp, rfl, hg⟩ := h3.slice_pos (by simp)
    exact ⟨g, rfl, hg⟩
  rcases hown.2 with ⟨e, hn⟩ | ⟨g, cap, cur, e, hbg, hg, hncap, hcm, hcs, htake⟩
  · have hys : ys = [] := List.eq_nil_of_length_eq_zero hn
    subst hys
    refine wpList_append_grows w hgd s x 22 ho 3 i0 (.int .i64 0) 1 8 Try.underlying22 hi hz0 hz1 hz2 rfl (by decide) none 0 0 [] (by rw [hs, e]) (fun _ => ⟨rfl, rfl⟩) rfl (fun b hb => by cases hb) ad 1 c _ hx rfl hn1 hn2 (by omega) (by unfold maxLen; omega) (by omega) ?_
    intro v' w' h1 h2
    exact fin v' w' h1 h2
  · by_cases hr : ys.length + 1 ≤ cap
    · subst e
      refine wpList_append_fits w hgd s x 22 ho base 3 i0 1 Try.underlying22 hi hz1 g ys.length cap (cellsN ys) hs hown ad 1 c _ hx rfl hn1 hn2 hr ?_
      intro w' h1 h2
      refine hK _ w' ?_ h2 (.inl rfl)
      unfold Own
      rw [cellsN_snoc, List.length_append]
      exact h1
    · have hcells : ∀ b, some (⟨g, 0, none⟩ : Addr) = some b → ∀ j u', (cellsN ys)[j]? = some u' → w.cell? (b.add j) = some u' := by
        intro b hb j u' hu
        injection hb with hb
        subst hb
        exact World.ownsRow.cells hown (by rw [e]; rfl) j u' hu
      refine wpList_append_grows w hgd s x 22 ho 3 i0 (.int .i64 0) 1 8 Try.underlying22 hi hz0 hz1 hz2 rfl (by decide) (some ⟨g, 0, none⟩) ys.length cap (cellsN ys) (by rw [hs, e]) (fun h => by cases h) (by rw [cellsN_length]; omega) hcells ad 1 c _ hx rfl hn1 hn2 (by omega) (by unfold maxLen; omega) (by omega) ?_
      intro v' w' h1 h2
      exact fin v' w' h1 h2

/-- slices of ints in a slice, all made by the call, no two of them in one block -/
def OwnD (w : World) (base : Nat) (v : Value) (xss : List (List Nat)) : Prop :=
  ∃ vs : List Value, w.ownsRow base 22 1 v xss.length vs ∧ (∀ (i : Nat) (xs : List Nat), xss[i]? = some xs → ∃ u : Value, vs[i]? = some u ∧ Own w base u xs) ∧
    ∀ (i j : Nat) (ui uj : Value), vs[i]? = some ui → vs[j]? = some uj → i ≠ j → ui.ownBlock = none ∨ ui.ownBlock ≠ uj.ownBlock
theorem OwnD.ownL {w : World} {base : Nat} {v : Value} {xss : List (List Nat)} (h : OwnD w base v xss) : OwnL w base v xss := by
  obtain ⟨vs, h1, h2, _⟩ := h
  exact ⟨vs, h1, h2⟩
theorem OwnD.cast {w : World} {base : Nat} {v : Value} {xss yss : List (List Nat)} (e : xss = yss) (h : OwnD w base v xss) : OwnD w base v yss := e ▸ h

theorem OwnD.store {w w1 : World} {o : Obj} {base g n cap c : Nat} {xss : List (List Nat)} {u' : Value} {ys : List Nat} (h : OwnD w base (.slice (some ⟨g, 0, none⟩) n cap) xss) (hn : n = xss.length) {u : Value} (hcell : w.cell? ⟨g, c, none⟩ = some u) (hc : c < n)
    (hgr : (w.alloc o).grownBy w1 u.ownBlock) (hu' : Own w1 base u' ys) (hb : u'.ownBlock = u.ownBlock ∨ ∃ h, u'.ownBlock = some h ∧ w.heap.size ≤ h) :
    w1.cell? ⟨g, c, none⟩ = some u ∧ w1.frozen? ⟨g, c, none⟩ = false ∧ OwnD (w1.setCell ⟨g, c, none⟩ u') base (.slice (some ⟨g, 0, none⟩) n cap) (xss.set c ys) := by
  subst hn
  obtain ⟨vs, h1, h2, h3⟩ := h
  have hvc : vs[c]? = some u := by rw [World.ownsRow.cellAt h1 c (by omega)] at hcell; exact hcell
  obtain ⟨u0, e0, hu0⟩ := h2 c (xss.getD c []) (by simp [List.getD, hc])
  rw [hvc] at e0
  injection e0 with e0
  subst e0
  have hap : u.ownBlock = none ∨ u.ownBlock ≠ some g := own_apart hu0 h1
  have k1 : w1.ownsRow base 22 1 (.slice (some ⟨g, 0, none⟩) xss.length cap) xss.length vs := by
    refine World.ownsRow.kept (World.ownsRow.alloc h1 o) hgr (.inr ?_)
    rcases hap with e | e
    · rw [e]; simp [Value.ownBlock]
    · exact fun e2 => e (by rw [← e2]; rfl)
  obtain ⟨k2, k3⟩ := World.ownsRow.stored k1 c u'
  have hkeep : ∀ {v xs}, Own w1 base v xs → Own (w1.setCell ⟨g, c, none⟩ u') base v xs := fun hv => World.ownsRow.kept hv k3 (own_apart hv k1)
  refine ⟨by rw [World.ownsRow.cellAt k1 c (by omega)]; exact hvc, World.ownsRow.frozenAt k1 c, vs.set c u', ?_, ?_, ?_⟩
  · rw [List.length_set]; exact k2
  · intro i xs hx
    by_cases e : c = i
    · subst e
      rw [List.getElem?_set] at hx
      simp [hc] at hx
      subst hx
      refine ⟨u', ?_, hkeep hu'⟩
      have : c < vs.length := by have := h1.1; omega
      rw [List.getElem?_set]
      simp [this]
    · rw [List.getElem?_set, if_neg e] at hx
      obtain ⟨ui, e1, e2⟩ := h2 i xs hx
      refine ⟨ui, by rw [List.getElem?_set, if_neg e]; exact e1, hkeep ?_⟩
      exact World.ownsRow.kept (World.ownsRow.alloc e2 o) hgr (h3 i c ui u e1 hvc (fun e' => e e'.symm))
  · intro i j ui uj hi hj hne
    rw [List.getElem?_set] at hi hj
    by_cases ei : c = i
    · subst ei
      rw [if_neg hne] at hj
      rw [if_pos rfl] at hi
      split at hi
      · injection hi with hi
        subst hi
        rcases hb with hb | ⟨hh, hb, hlt⟩
        · rw [hb]; exact h3 c j u uj hvc hj hne
        · right
          rw [hb]
          intro e2
          have hjl : j < xss.length := by
            have hl := h1.1
            rcases Nat.lt_or_ge j vs.length with h | h
            · omega
            · rw [List.getElem?_eq_none h] at hj; cases hj
          obtain ⟨uj', e3, e4⟩ := h2 j (xss.getD j []) (by simp [List.getD, hjl])
          rw [hj] at e3
          injection e3 with e3
          subst e3
          have := (e4.lt hh e2.symm).2
          omega
      · cases hi
    · rw [if_neg ei] at hi
      by_cases ej : c = j
      · subst ej
        rw [if_pos rfl] at hj
        split at hj
        · injection hj with hj
          subst hj
          rcases hb with hb | ⟨hh, hb, hlt⟩
          · rw [hb]; exact h3 i c ui u hi hvc hne
          · right
            rw [hb]
            intro e2
            have hil : i < xss.length := by
              have hl := h1.1
              rcases Nat.lt_or_ge i vs.length with h | h
              · omega
              · rw [List.getElem?_eq_none h] at hi; cases hi
            obtain ⟨ui', e3, e4⟩ := h2 i (xss.getD i []) (by simp [List.getD, hil])
            rw [hi] at e3
            injection e3 with e3
            subst e3
            have := (e4.lt hh e2).2
            omega
        · cases hj
      · rw [if_neg ej] at hj
        exact h3 i j ui uj hi hj hne

theorem wpList_make_rows {w : World} {ops : Array Oper} {rest : List Oper} {o : Oper} {a : Act} {Q : Exit → Act → World → Prop} (hgd : o.guard = none) (l c : Operand)
    (ho : o.op = Op.makeSlice 24 l c) (base n : Nat) (hl : a.eval l = .int .i64 (n : Int)) (hc : a.eval c = .int .i64 (n : Int)) (hn : n ≤ 1000000) (hbase : base ≤ w.heap.size)
    (hK : ∀ w', OwnD w' base (.slice (some ⟨w.heap.size, 0, none⟩) n n) (List.replicate n []) → Below w.heap.size w w' → wpList Try.prog ops Q rest (a.put o.dst (.slice (some ⟨w.heap.size, 0, none⟩) n n)) w') : wpList Try.prog ops Q (o :: rest) a w := by
  obtain ⟨i0, hi, hz0, hz1, hz2⟩ := info_parts infoRow
  refine wpList_make_full w hgd l c 24 ho base 22 i0 (.slice none 0 0) 1 Try.underlying24 hi hz0 hz1 .i64 .i64 _ _ n hl hc rfl rfl (by rw [hz2]; omega) (by unfold maxLen; omega) hbase ?_
  intro w' h1 h2
  have e : (madeCells (Value.slice none 0 0).cells (n * 1)).toList = List.replicate n (Value.slice none 0 0) := by rw [Nat.mul_one]; exact toList_madeCells_one _ _
  rw [e] at h1
  refine hK w' ⟨_, by rw [List.length_replicate]; exact h1, ?_, ?_⟩ ((Below.refl _ w).grown h2 (Nat.le_refl _) (by intro k hk; cases hk))
  · intro i xs hx
    rw [List.getElem?_replicate] at hx
    split at hx
    · injection hx with hx
      subst hx
      exact ⟨.slice none 0 0, by rw [List.getElem?_replicate, if_pos (by assumption)], World.ownsRow_nil _ _ _ _⟩
    · cases hx
  · intro i j ui uj h1' _ _
    rw [List.getElem?_replicate] at h1'
    split at h1'
    · injection h1' with h1'
      subst h1'
      exact .inl rfl
    · cases h1'

end Go.Proofs.Ytdflgcfjfgojkaa
