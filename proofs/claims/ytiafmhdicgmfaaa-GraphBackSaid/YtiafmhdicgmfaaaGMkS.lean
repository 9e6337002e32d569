/-
  make at a step of a drawn region; an edge written into a row of edges.
-/
import Derived.Test.YtiafmhdicgmfaaaGShuf
namespace Go.Proofs.Ytiafmhdicgmfaaa
open Go.RowKit

theorem step_make_I {w : World} {ops : Array Oper} {o : Oper} {a : Act} {K : Act → World → Prop} {Q : Exit → Act → World → Prop} {X : Prop} (hgd : o.guard = none) (l c : Operand)
    (ho : o.op = Op.makeSlice 22 l c) (base n : Nat) (hl : a.eval l = .int .i64 (n : Int)) (hc : a.eval c = .int .i64 (n : Int)) (hn : n ≤ 1000000) (hbase : base ≤ w.heap.size)
    (hK : ∀ w', OwnI w' base (.slice (some ⟨w.heap.size, 0, none⟩) n n) (List.replicate n 0) → Below w.heap.size w w' → w.heap.size < w'.heap.size → K (a.put o.dst (.slice (some ⟨w.heap.size, 0, none⟩) n n)) w') : if Region.wanted o (yielded ops a.tmps) = true then Oper.wp Try.prog o a w K Q else X := by
  have hw : Region.wanted o (yielded ops a.tmps) = true := by simp [Region.wanted, hgd]
  rw [if_pos hw]
  obtain ⟨i0, hi, hz0, hz1, hz2⟩ := info_parts infoInt
  obtain ⟨w', hrun, r1, r2⟩ := run_make_full (P := Try.prog) w base 22 3 i0 (.int .i64 0) 1 Try.underlying22 hi hz0 hz1 .i64 .i64 n (by rw [hz2]; omega) (by unfold maxLen; omega) hbase
  have h3 : OwnI w' base (.slice (some ⟨w.heap.size, 0, none⟩) n n) (List.replicate n 0) := by
    unfold OwnI OwnE
    rw [cellsE_int, List.length_replicate]
    have e : (madeCells (Value.int .i64 0).cells (n * 1)).toList = (List.replicate n (0 : Int)).map (Value.int .i64) := by
      rw [Nat.mul_one]
      refine (toList_madeCells_one _ _).trans ?_
      rw [List.map_replicate]
    rw [e] at r1
    exact r1
  unfold Oper.wp
  simp [execOp, ho, hl, hc, hrun, Result.andThen]
  exact hK w' h3 ((Below.refl _ w).grown r2 (Nat.le_refl _) (by intro k hk; cases hk)) (OwnE.lt h3 _ rfl).2
theorem cells_zeroE (n : Nat) : cellsE EEd (List.replicate n default) = (madeCells (Value.agg #[.int .i64 0, .int .i64 0, .int .i64 0]).cells (n * 3)).toList := by
  have h1 : cellsE EEd (List.replicate n default) = List.replicate (n * 3) (Value.int .i64 0) := by
    induction n with
    | zero => rfl
    | succ n ih =>
      have e : cellsE EEd (List.replicate (n + 1) default) = EEd.enc default ++ cellsE EEd (List.replicate n default) := rfl
      rw [e, ih, Nat.succ_mul, Nat.add_comm (n * 3) 3, ← List.replicate_append_replicate]
      rfl
  rw [h1]
  apply List.ext_getElem?
  intro j
  by_cases hj : j < n * 3
  · rw [List.getElem?_replicate, if_pos hj]
    have hm : j % 3 = 0 ∨ j % 3 = 1 ∨ j % 3 = 2 := by omega
    rcases hm with hm | hm | hm <;> simp [madeCells, Value.cells, hj, hm]
  · rw [List.getElem?_eq_none (by simp; omega), List.getElem?_eq_none (by simp [madeCells]; omega)]
theorem step_make_E {w : World} {ops : Array Oper} {o : Oper} {a : Act} {K : Act → World → Prop} {Q : Exit → Act → World → Prop} {X : Prop} (hgd : o.guard = none) (l c : Operand)
    (ho : o.op = Op.makeSlice 23 l c) (base n : Nat) (hl : a.eval l = .int .i64 (n : Int)) (hc : a.eval c = .int .i64 (n : Int)) (hn : n ≤ 1000000) (hbase : base ≤ w.heap.size)
    (hK : ∀ w', OwnEd w' base (.slice (some ⟨w.heap.size, 0, none⟩) n n) (List.replicate n default) → Below w.heap.size w w' → w.heap.size < w'.heap.size → K (a.put o.dst (.slice (some ⟨w.heap.size, 0, none⟩) n n)) w') : if Region.wanted o (yielded ops a.tmps) = true then Oper.wp Try.prog o a w K Q else X := by
  have hw : Region.wanted o (yielded ops a.tmps) = true := by simp [Region.wanted, hgd]
  rw [if_pos hw]
  obtain ⟨i0, hi, hz0, hz1, hz2⟩ := info_parts infoEd
  obtain ⟨w', hrun, r1, r2⟩ := run_make_full (P := Try.prog) w base 23 36 i0 (.agg #[.int .i64 0, .int .i64 0, .int .i64 0]) 3 Try.underlying23 hi hz0 hz1 .i64 .i64 n (by rw [hz2]; omega) (by unfold maxLen; omega) hbase
  have h3 : OwnEd w' base (.slice (some ⟨w.heap.size, 0, none⟩) n n) (List.replicate n default) := by
    unfold OwnEd OwnE
    rw [cells_zeroE, List.length_replicate]
    exact r1
  unfold Oper.wp
  simp [execOp, ho, hl, hc, hrun, Result.andThen]
  exact hK w' h3 ((Below.refl _ w).grown r2 (Nat.le_refl _) (by intro k hk; cases hk)) (OwnE.lt h3 _ rfl).2

/-! an edge written into a row -/
theorem cells_setE (xs : List Ed) (q : Nat) (y : Ed) (hq : q < xs.length) : cellsE EEd (xs.set q y) = (((cellsE EEd xs).set (q * 3) (.int .i64 y.ty)).set (q * 3 + 1) (.int .i64 y.fr)).set (q * 3 + 2) (.int .i64 y.to) := by
  induction xs generalizing q with
  | nil => simp at hq
  | cons x r ih =>
    cases q with
    | zero => rfl
    | succ q =>
      have e : cellsE EEd ((x :: r).set (q + 1) y) = EEd.enc x ++ cellsE EEd (r.set q y) := rfl
      have e2 : cellsE EEd (x :: r) = EEd.enc x ++ cellsE EEd r := rfl
      have hl : (EEd.enc x).length = 3 := rfl
      rw [e, ih q (by simpa using hq), e2]
      rw [List.set_append_right _ _ (by rw [hl]; omega), hl, show (q + 1) * 3 - 3 = q * 3 by omega]
      rw [List.set_append_right _ _ (by rw [hl]; omega), hl, show (q + 1) * 3 + 1 - 3 = q * 3 + 1 by omega]
      rw [List.set_append_right _ _ (by rw [hl]; omega), hl, show (q + 1) * 3 + 2 - 3 = q * 3 + 2 by omega]
/-- a row of edges whose place q is written -/
theorem OwnEd.put {w : World} {base g c n : Nat} {xs : List Ed} (hn : n = xs.length) (h : OwnEd w base (.slice (some ⟨g, 0, none⟩) n c) xs) {q : Nat} (hq : q < n) (y : Ed) :
    ((∃ u0, w.cell? ⟨g, q * 3, none⟩ = some u0) ∧ (∃ u1, w.cell? ⟨g, q * 3 + 1, none⟩ = some u1) ∧ (∃ u2, w.cell? ⟨g, q * 3 + 2, none⟩ = some u2)) ∧ (w.frozen? ⟨g, q * 3, none⟩ = false ∧ w.frozen? ⟨g, q * 3 + 1, none⟩ = false ∧ w.frozen? ⟨g, q * 3 + 2, none⟩ = false) ∧
    OwnEd (((w.setCell ⟨g, q * 3, none⟩ (.int .i64 y.ty)).setCell ⟨g, q * 3 + 1, none⟩ (.int .i64 y.fr)).setCell ⟨g, q * 3 + 2, none⟩ (.int .i64 y.to)) base (.slice (some ⟨g, 0, none⟩) n c) (xs.set q y) := by
  subst hn
  have hc := fun j (hj : j < 3) => World.ownsRow.cellAt h (q * 3 + j) (by show q * 3 + j < xs.length * 3; omega)
  have hl : (cellsE EEd xs).length = xs.length * 3 := cellsE_length EEd xs
  have hg : ∀ j, j < 3 → ∃ u, w.cell? ⟨g, q * 3 + j, none⟩ = some u := fun j hj => by
    rw [hc j hj, List.getElem?_eq_getElem (by rw [hl]; omega)]
    exact ⟨_, rfl⟩
  refine ⟨⟨hg 0 (by omega), hg 1 (by omega), hg 2 (by omega)⟩, ⟨World.ownsRow.frozenAt h _, World.ownsRow.frozenAt h _, World.ownsRow.frozenAt h _⟩, ?_⟩
  have s1 := (World.ownsRow.stored h (q * 3) (.int .i64 y.ty)).1
  have s2 := (World.ownsRow.stored s1 (q * 3 + 1) (.int .i64 y.fr)).1
  have s3 := (World.ownsRow.stored s2 (q * 3 + 2) (.int .i64 y.to)).1
  unfold OwnEd OwnE
  rw [cells_setE xs q y hq, List.length_set]
  exact s3
/-- a store into a row of another type keeps a box -/
theorem BoxIs.row {α : Type} {E : El α} {t t' : TypeId} {w : World} {base g h n c : Nat} {u v x : Value} {xs : List α} (hb : BoxIs h u v t' w) (ho : OwnE E t w base (.slice (some ⟨g, 0, none⟩) n c) xs) (ht : t ≠ t') (j : Nat) : BoxIs h u v t' (w.setCell ⟨g, j, none⟩ x) := by
  refine hb.set (p := ⟨g, j, none⟩) (fun e => ?_) x
  have e : g = h := e
  subst e
  rcases ho.2 with ⟨hv, _⟩ | ⟨g2, cap, cur, hv, _, hh, _⟩
  · cases hv
  · simp only [Value.slice.injEq, Option.some.injEq, Addr.mk.injEq, and_true] at hv
    obtain ⟨rfl, _⟩ := hv
    unfold BoxIs at hb
    rw [hb] at hh
    simp only [Option.some.injEq, Obj.cells.injEq] at hh
    exact ht hh.2.1.symm
/-- a store into a row of one type keeps a row of another -/
theorem OwnE.row {α β : Type} {E : El α} {G : El β} {t t' : TypeId} {w : World} {base b2 g n c : Nat} {v x : Value} {xs : List α} {ys : List β} (hr : OwnE G t' w b2 v ys) (ho : OwnE E t w base (.slice (some ⟨g, 0, none⟩) n c) xs) (ht : t ≠ t') (j : Nat) : OwnE G t' (w.setCell ⟨g, j, none⟩ x) b2 v ys := by
  refine ⟨hr.1, ?_⟩
  rcases hr.2 with hn | ⟨g2, cap, cur, hv, hbg, hh, rest⟩
  · exact .inl hn
  · refine .inr ⟨g2, cap, cur, hv, hbg, (Below.heap_setCell w ⟨g, j, none⟩ x g2 (fun e => ?_)).trans hh, rest⟩
    have e : g2 = g := e
    subst e
    rcases ho.2 with ⟨hv2, _⟩ | ⟨g3, cap3, cur3, hv2, _, hh3, _⟩
    · cases hv2
    · simp only [Value.slice.injEq, Option.some.injEq, Addr.mk.injEq, and_true] at hv2
      obtain ⟨rfl, _⟩ := hv2
      rw [hh] at hh3
      simp only [Option.some.injEq, Obj.cells.injEq] at hh3
      exact ht hh3.2.1.symm

abbrev set3 (W : World) (g q : Nat) (y : Ed) : World := ((W.setCell ⟨g, q * 3, none⟩ (.int .i64 y.ty)).setCell ⟨g, q * 3 + 1, none⟩ (.int .i64 y.fr)).setCell ⟨g, q * 3 + 2, none⟩ (.int .i64 y.to)
theorem set3_heap {W : World} {g h q : Nat} {y : Ed} {o : Obj} (hne : h ≠ g) (hh : W.heap[h]? = some o) : (set3 W g q y).heap[h]? = some o :=
  (Below.heap_setCell _ ⟨g, q * 3 + 2, none⟩ _ h hne).trans ((Below.heap_setCell _ ⟨g, q * 3 + 1, none⟩ _ h hne).trans ((Below.heap_setCell _ ⟨g, q * 3, none⟩ _ h hne).trans hh))
/-- what such a write may change -/
theorem grow_put {w : World} {base g c n q : Nat} {xs : List Ed} (ho : OwnEd w base (.slice (some ⟨g, 0, none⟩) n c) xs) (hb : base ≤ g) (y : Ed) : Grow 36 base w (set3 w g q y) := by
  refine ⟨((((Below.refl base w).setCell (p := ⟨g, q * 3, none⟩) hb _).setCell (p := ⟨g, q * 3 + 1, none⟩) hb _).setCell (p := ⟨g, q * 3 + 2, none⟩) hb _), fun i cs t' ht hi => set3_heap (fun e => ?_) hi⟩
  subst e
  rcases ho.2 with ⟨hv, _⟩ | ⟨g2, cap, cur, hv, _, hh, _⟩
  · cases hv
  · simp only [Value.slice.injEq, Option.some.injEq, Addr.mk.injEq, and_true] at hv
    obtain ⟨rfl, _⟩ := hv
    rw [hi] at hh
    simp only [Option.some.injEq, Obj.cells.injEq] at hh
    exact ht hh.2.1

end Go.Proofs.Ytiafmhdicgmfaaa
