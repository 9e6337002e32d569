/-
  Matrices of ints (slices of slices, each row in a block of its own), as functions of two places: read, set, append of a row.
  make([]int, n): a row of zeros.
-/
import Derived.Test.YtcmibhechhcpiaaBase
namespace Go.Proofs.Ytcmibhechhcpiaa
open Go.RowKit

def rowI (n : Nat) (f : Nat → Int) : List Int := (List.range n).map f
theorem rowI_length (n : Nat) (f : Nat → Int) : (rowI n f).length = n := by simp [rowI]
theorem rowI_getD {n j : Nat} (f : Nat → Int) (h : j < n) : (rowI n f).getD j 0 = f j := by
  rw [List.getD_eq_getElem?_getD, List.getElem?_eq_getElem (by rw [rowI_length]; exact h)]
  simp [rowI]
theorem rowI_ext {n : Nat} {f g : Nat → Int} (h : ∀ j, j < n → f j = g j) : rowI n f = rowI n g := by
  unfold rowI
  apply List.map_congr_left
  intro j hj
  exact h j (by simpa using hj)
theorem rowI_succ (n : Nat) (f : Nat → Int) : rowI (n + 1) f = rowI n f ++ [f n] := by simp [rowI, List.range_succ]
theorem rowI_set (n : Nat) (f : Nat → Int) (j : Nat) (x : Int) : (rowI n f).set j x = rowI n (fun i => if i = j then x else f i) := by
  apply List.ext_getElem?
  intro i
  rw [List.getElem?_set]
  by_cases h : j = i
  · subst h
    by_cases hj : j < n
    · rw [if_pos rfl, if_pos (by rw [rowI_length]; exact hj), List.getElem?_eq_getElem (by rw [rowI_length]; exact hj)]
      simp [rowI]
    · rw [if_pos rfl, if_neg (by rw [rowI_length]; exact hj), List.getElem?_eq_none (by rw [rowI_length]; omega)]
  · rw [if_neg h]
    by_cases hi : i < n
    · rw [List.getElem?_eq_getElem (by rw [rowI_length]; exact hi), List.getElem?_eq_getElem (by rw [rowI_length]; exact hi)]
      simp only [rowI, List.getElem_map, List.getElem_range]
      rw [if_neg (by omega)]
    · rw [List.getElem?_eq_none (by rw [rowI_length]; omega), List.getElem?_eq_none (by rw [rowI_length]; omega)]

/-- the head of a row of n: its block and its room -/
def EHd (n : Nat) : El (Nat × Nat) := ⟨fun x => [.slice (some ⟨x.1, 0, none⟩) n x.2], 1, fun _ => rfl, fun x u hu => by simp at hu; subst hu; rfl⟩
theorem infoRow : (Try.prog.info? 24).map (fun i => (i.zero, i.size, i.bytes)) = some (some (.slice none 0 0), 1, 24) := by kernel_rfl

/-- a matrix of m rows of n ints, made by the call, each row in a block of its own -/
def OwnH (hs : List (Nat × Nat)) (w : World) (base : Nat) (v : Value) (m n : Nat) (f : Nat → Nat → Int) : Prop :=
  hs.length = m ∧ OwnE (EHd n) 24 w base v hs ∧ (∀ i h, hs[i]? = some h → OwnI w base (.slice (some ⟨h.1, 0, none⟩) n h.2) (rowI n (f i))) ∧
    ∀ (i j : Nat) (h k : Nat × Nat), hs[i]? = some h → hs[j]? = some k → h.1 = k.1 → i = j
def OwnM (w : World) (base : Nat) (v : Value) (m n : Nat) (f : Nat → Nat → Int) : Prop := ∃ hs : List (Nat × Nat), OwnH hs w base v m n f
def updM (f : Nat → Nat → Int) (i j : Nat) (x : Int) : Nat → Nat → Int := fun a b => if a = i ∧ b = j then x else f a b

theorem OwnM.nil (w : World) (base n : Nat) (f : Nat → Nat → Int) : OwnM w base (.slice none 0 0) 0 n f := ⟨[], rfl, OwnE.nil _ _ _, fun i h e => by simp at e, fun i j h k e => by simp at e⟩
theorem OwnM.slice {w : World} {base m n : Nat} {v : Value} {f : Nat → Nat → Int} (h : OwnM w base v m n f) : ∃ ao cap, v = .slice ao m cap := by
  obtain ⟨hs, h1, h2, _⟩ := h
  obtain ⟨ao, cap, e⟩ := OwnE.slice h2
  exact ⟨ao, cap, by rw [e, h1]⟩
theorem OwnH.ext {hs : List (Nat × Nat)} {w : World} {base m n : Nat} {v : Value} {f g : Nat → Nat → Int} (h : OwnH hs w base v m n f) (e : ∀ i, i < m → ∀ j, j < n → f i j = g i j) : OwnH hs w base v m n g := by
  obtain ⟨h1, h2, h3, h4⟩ := h
  refine ⟨h1, h2, fun i h hi => ?_, h4⟩
  have hlt : i < m := by
    rcases Nat.lt_or_ge i m with h5 | h5
    · exact h5
    · rw [List.getElem?_eq_none (by omega)] at hi; cases hi
  rw [← rowI_ext (e i hlt)]
  exact h3 i h hi
theorem OwnM.ext {w : World} {base m n : Nat} {v : Value} {f g : Nat → Nat → Int} (h : OwnM w base v m n f) (e : ∀ i, i < m → ∀ j, j < n → f i j = g i j) : OwnM w base v m n g := h.elim fun hs h => ⟨hs, h.ext e⟩
theorem OwnH.below {hs : List (Nat × Nat)} {w w' : World} {base B m n : Nat} {v : Value} {f : Nat → Nat → Int} (h : OwnH hs w base v m n f) (hb : Below B w w') (hB : w.heap.size ≤ B) : OwnH hs w' base v m n f := by
  obtain ⟨h1, h2, h3, h4⟩ := h
  exact ⟨h1, h2.below hb hB, fun i h hi => (h3 i h hi).below hb hB, h4⟩
theorem OwnH.top {hs : List (Nat × Nat)} {w : World} {base m n : Nat} {v : Value} {f : Nat → Nat → Int} (h : OwnH hs w base v m n f) {i : Nat} {x : Nat × Nat} (hi : hs[i]? = some x) : x.1 < w.heap.size := (OwnE.lt (h.2.2.1 i x hi) x.1 rfl).2
/-- what is kept by a store into an older block -/
theorem OwnM.kept {w w' : World} {base m n g : Nat} {v : Value} {f : Nat → Nat → Int} (h : OwnM w base v m n f) (hg : w.grownBy w' (some g)) (hl : g < base) : OwnM w' base v m n f := by
  obtain ⟨hs, h1, h2, h3, h4⟩ := h
  have hne : ∀ u : Value, (∀ k, u.ownBlock = some k → base ≤ k ∧ k < w.heap.size) → u.ownBlock = none ∨ u.ownBlock ≠ some g := by
    intro u hu
    right
    intro e
    have := (hu g e).1
    omega
  exact ⟨hs, h1, h2.kept hg (hne _ (OwnE.lt h2)), fun i h hi => (h3 i h hi).kept hg (hne _ (OwnE.lt (h3 i h hi))), h4⟩
theorem OwnM.mono {w : World} {base base' m n : Nat} {v : Value} {f : Nat → Nat → Int} (h : OwnM w base v m n f) (hb : base' ≤ base) : OwnM w base' v m n f := by
  obtain ⟨hs, h1, h2, h3, h4⟩ := h
  exact ⟨hs, h1, h2.mono hb, fun i h hi => (h3 i h hi).mono hb, h4⟩
theorem OwnM.below {w w' : World} {base B m n : Nat} {v : Value} {f : Nat → Nat → Int} (h : OwnM w base v m n f) (hb : Below B w w') (hB : w.heap.size ≤ B) : OwnM w' base v m n f := by
  obtain ⟨hs, h1, h2, h3, h4⟩ := h
  exact ⟨hs, h1, h2.below hb hB, fun i h hi => (h3 i h hi).below hb hB, h4⟩
theorem OwnM.alloc {w : World} {base m n : Nat} {v : Value} {f : Nat → Nat → Int} (h : OwnM w base v m n f) (o : Obj) : OwnM (w.alloc o) base v m n f :=
  h.below ((Below.refl _ w).alloc (Nat.le_refl _) o) (Nat.le_refl _)
theorem OwnM.lt {w : World} {base m n : Nat} {v : Value} {f : Nat → Nat → Int} (h : OwnM w base v m n f) : ∀ k, v.ownBlock = some k → base ≤ k ∧ k < w.heap.size := by
  obtain ⟨hs, h1, h2, h3, h4⟩ := h
  exact h2.lt

/-- the row at a place: where it lies, its cells, what a store into it makes -/
theorem OwnH.at {hs : List (Nat × Nat)} {w : World} {base m n : Nat} {v : Value} {f : Nat → Nat → Int} (h : OwnH hs w base v m n f) {k : Nat} (hk : k < m) :
    ∃ b c g cc, v = .slice (some ⟨b, 0, none⟩) m c ∧ b < w.heap.size ∧ base ≤ b ∧ w.cell? ⟨b, k, none⟩ = some (.slice (some ⟨g, 0, none⟩) n cc) ∧ base ≤ g ∧ (0 < n → ∃ cur, w.heap[g]? = some (.cells cur 3 (0, 0))) ∧
      (∀ j, j < n → w.cell? ⟨g, j, none⟩ = some (.int .i64 (f k j))) ∧ (∀ j, w.frozen? ⟨g, j, none⟩ = false) ∧
      (∀ j x, OwnH hs (w.setCell ⟨g, j, none⟩ (.int .i64 x)) base v m n (updM f k j x)) ∧ (∀ j x, w.grownBy (w.setCell ⟨g, j, none⟩ (.int .i64 x)) (some g)) ∧
      hs[k]? = some (g, cc) ∧ OwnI w base (.slice (some ⟨g, 0, none⟩) n cc) (rowI n (f k)) := by
  obtain ⟨h1, h2, h3, h4⟩ := h
  obtain ⟨b, c, e1, e2, e3⟩ := OwnE.pos h2 (by omega)
  obtain ⟨A, c', e4, hR⟩ := OwnE.reads h2
  rw [h1] at e1 e4
  rw [e1] at e4
  simp only [Value.slice.injEq] at e4
  obtain ⟨b', off, e5, _, e6⟩ := Reads.at hR (k := k) (by omega)
  have e7 := e6 k (by omega) 0 _ rfl
  have hg : hs[k]? = some hs[k] := List.getElem?_eq_getElem (by omega)
  generalize hs[k] = r at e7 hg
  have hrow := h3 k r hg
  have hlen : n = (rowI n (f k)).length := (rowI_length _ _).symm
  obtain ⟨eA, _⟩ := e4
  rw [← eA] at e5
  simp only [Option.some.injEq, Addr.mk.injEq] at e5
  obtain ⟨e5, e8, _⟩ := e5
  subst e5 e8
  have es : (EHd n).size = 1 := rfl
  rw [es, Nat.mul_one, Nat.add_zero, Nat.zero_add] at e7
  have hset : ∀ j x, OwnI (w.setCell ⟨r.1, j, none⟩ (.int .i64 x)) base (.slice (some ⟨r.1, 0, none⟩) n r.2) ((rowI n (f k)).set j x) ∧ w.grownBy (w.setCell ⟨r.1, j, none⟩ (.int .i64 x)) (some r.1) := fun j x => OwnI.set hlen hrow j x
  refine ⟨b, c, r.1, r.2, e1, e3, e2, e7, (OwnE.lt hrow r.1 rfl).1, fun hn => ?_, fun j hj => ?_, fun j => OwnI.free hlen hrow j, fun j x => ?_, fun j x => (hset j x).2, hg, hrow⟩
  · rcases hrow.2 with ⟨_, h5⟩ | ⟨g', cap', cur', h5, _, h6, _⟩
    · rw [rowI_length] at h5; omega
    · simp only [Value.slice.injEq, Option.some.injEq, Addr.mk.injEq] at h5
      exact ⟨cur', by rw [h5.1.1]; exact h6⟩
  · rw [OwnI.cell hlen hrow hj, rowI_getD _ hj]
  · obtain ⟨k1, k2⟩ := hset j x
    refine ⟨h1, h2.kept k2 (.inr ?_), fun i h hi => ?_, h4⟩
    · rcases own_apart (by decide) hrow h2 with h5 | h5
      · simp [Value.ownBlock] at h5
      · intro h6
        rw [h6] at h5
        exact h5 rfl
    · by_cases e : i = k
      · subst e
        rw [hg] at hi
        injection hi with hi
        subst hi
        rw [rowI_set] at k1
        rw [show rowI n (updM f i j x i) = rowI n (fun a => if a = j then x else f i a) from rowI_ext fun a _ => by simp [updM]]
        exact k1
      · rw [show rowI n (updM f k j x i) = rowI n (f i) from rowI_ext fun a _ => by simp [updM, e]]
        refine (h3 i h hi).kept k2 (.inr ?_)
        intro h6
        have : h.1 = r.1 := by simpa [Value.ownBlock] using h6
        exact e (h4 i k h r hi hg this)

theorem OwnM.at {w : World} {base m n : Nat} {v : Value} {f : Nat → Nat → Int} (h : OwnM w base v m n f) {k : Nat} (hk : k < m) :
    ∃ b c g cc, v = .slice (some ⟨b, 0, none⟩) m c ∧ b < w.heap.size ∧ base ≤ b ∧ w.cell? ⟨b, k, none⟩ = some (.slice (some ⟨g, 0, none⟩) n cc) ∧ base ≤ g ∧ (0 < n → ∃ cur, w.heap[g]? = some (.cells cur 3 (0, 0))) ∧
      (∀ j, j < n → w.cell? ⟨g, j, none⟩ = some (.int .i64 (f k j))) ∧ (∀ j, w.frozen? ⟨g, j, none⟩ = false) ∧
      (∀ j x, OwnM (w.setCell ⟨g, j, none⟩ (.int .i64 x)) base v m n (updM f k j x)) ∧ (∀ j x, w.grownBy (w.setCell ⟨g, j, none⟩ (.int .i64 x)) (some g)) := by
  obtain ⟨hs, h⟩ := h
  obtain ⟨b, c, g, cc, e1, e2, e3, e4, e5, e6, e7, e8, e9, e10, _⟩ := h.at hk
  exact ⟨b, c, g, cc, e1, e2, e3, e4, e5, e6, e7, e8, fun j x => ⟨hs, e9 j x⟩, e10⟩

/-- append of one row, made after the matrix's other rows -/
theorem wpList_append_rowM {w w0 : World} {ops : Array Oper} {rest : List Oper} {o : Oper} {a : Act} {Q : Exit → Act → World → Prop} (hgd : o.guard = none) (s x : Operand)
    (ho : o.op = .call { callee := .builtin .append, args := #[s, x], argTypes := #[72, 72] })
    (base : Nat) (v : Value) (m n : Nat) (f : Nat → Nat → Int) (hs : a.eval s = v) (hown : OwnM w0 base v m n f) (hbel : Below w0.heap.size w0 w) (ad c : Nat) (hx : a.eval x = .slice (some ⟨ad, 0, none⟩) 1 c)
    (g cc : Nat) (r : Nat → Int) (hc : w.cell? ⟨ad, 0, none⟩ = some (.slice (some ⟨g, 0, none⟩) n cc)) (hu : OwnI w w0.heap.size (.slice (some ⟨g, 0, none⟩) n cc) (rowI n r)) (hl : m ≤ 1000000) (hbase : base ≤ w0.heap.size)
    (hK : ∀ v' w', OwnM w' base v' (m + 1) n (fun i => if i = m then r else f i) → w.grownBy w' v.ownBlock → Below base w w' → wpList Try.prog ops Q rest (a.put o.dst v') w') : wpList Try.prog ops Q (o :: rest) a w := by
  obtain ⟨hds, h1, h2, h3, h4⟩ := hown
  have hsz := hbel.size
  have hlt : ∀ (i : Nat) (h : Nat × Nat), hds[i]? = some h → h.1 < w0.heap.size := fun i h hi => (OwnE.lt (h3 i h hi) h.1 rfl).2
  have hg : w0.heap.size ≤ g := (OwnE.lt hu g rfl).1
  have h2' := h2.below hbel (Nat.le_refl _)
  refine wpList_append_E (E := EHd n) hgd s x 72 24 ho Try.underlying72 infoRow rfl (show 0 < 1 by decide) (by decide) base v hds hs h2' ⟨ad, 0, none⟩ c (g, cc) hx ?_ (by omega) (by omega) ?_
  · intro j u hj
    cases j with
    | zero => rw [addr_plain]; simp [EHd] at hj; subst hj; exact hc
    | succ j => simp [EHd] at hj
  · intro v' w' k1 k2 k3
    refine hK v' w' ⟨hds ++ [(g, cc)], by simp [h1], k1, fun i h hi => ?_, fun i j h k hi hj e => ?_⟩ k2 k3
    · rcases Nat.lt_trichotomy i m with hi1 | hi1 | hi1
      · rw [List.getElem?_append_left (by omega)] at hi
        show OwnI w' base _ (rowI n (if i = m then r else f i))
        rw [if_neg (by omega)]
        have := (h3 i h hi).below hbel (Nat.le_refl _)
        exact this.kept k2 (own_apart (by decide) this h2')
      · rw [List.getElem?_append_right (by omega), hi1, h1, Nat.sub_self] at hi
        simp at hi
        subst hi
        show OwnI w' base _ (rowI n (if i = m then r else f i))
        rw [if_pos hi1]
        have := hu.mono hbase
        exact this.kept k2 (own_apart (by decide) this h2')
      · rw [List.getElem?_eq_none (by simp; omega)] at hi; cases hi
    · have hj1 : ∀ (i : Nat) (h : Nat × Nat), (hds ++ [(g, cc)])[i]? = some h → (i < m ∧ hds[i]? = some h) ∨ (i = m ∧ h = (g, cc)) := by
        intro i h hi
        rcases Nat.lt_trichotomy i m with hi1 | hi1 | hi1
        · rw [List.getElem?_append_left (by omega)] at hi
          exact .inl ⟨hi1, hi⟩
        · rw [List.getElem?_append_right (by omega), hi1, h1, Nat.sub_self] at hi
          simp at hi
          exact .inr ⟨hi1, hi.symm⟩
        · rw [List.getElem?_eq_none (by simp; omega)] at hi; cases hi
      rcases hj1 i h hi with ⟨a1, a2⟩ | ⟨a1, a2⟩ <;> rcases hj1 j k hj with ⟨b1, b2⟩ | ⟨b1, b2⟩
      · exact h4 i j h k a2 b2 e
      · have := hlt i h a2
        rw [b2] at e
        dsimp only at e
        omega
      · have := hlt j k b2
        rw [a2] at e
        dsimp only at e
        omega
      · omega

end Go.Proofs.Ytcmibhechhcpiaa

namespace Go.Proofs.Ytcmibhechhcpiaa
open Go.RowKit

theorem wpList_make_I {w : World} {ops : Array Oper} {rest : List Oper} {o : Oper} {a : Act} {Q : Exit → Act → World → Prop} (hgd : o.guard = none) (l c : Operand)
    (ho : o.op = Op.makeSlice 24 l c) (base n : Nat) (L : Int) (hL : L = (n : Int)) (hl : a.eval l = .int .i64 L) (hc : a.eval c = .int .i64 L) (hn : n ≤ 1000000) (hbase : base ≤ w.heap.size)
    (hK : ∀ w', OwnI w' base (.slice (some ⟨w.heap.size, 0, none⟩) n n) (rowI n fun _ => 0) → Below w.heap.size w w' → w.heap.size < w'.heap.size → wpList Try.prog ops Q rest (a.put o.dst (.slice (some ⟨w.heap.size, 0, none⟩) n n)) w') : wpList Try.prog ops Q (o :: rest) a w := by
  obtain ⟨i0, hi, hz0, hz1, hz2⟩ := info_parts infoInt
  refine wpList_make_full w hgd l c 24 ho base 3 i0 (.int .i64 0) 1 Try.underlying24 hi hz0 hz1 .i64 .i64 _ _ n hl hc hL hL (by rw [hz2]; omega) (by unfold maxLen; omega) hbase ?_
  intro w' h1 h2
  have h3 : OwnI w' base (.slice (some ⟨w.heap.size, 0, none⟩) n n) (rowI n fun _ => 0) := by
    unfold OwnI OwnE
    rw [cellsE_int, rowI_length]
    have e : (madeCells (Value.int .i64 0).cells (n * 1)).toList = (rowI n fun _ => 0).map (Value.int .i64) := by
      rw [Nat.mul_one]
      refine (toList_madeCells_one _ _).trans ?_
      unfold rowI
      rw [List.map_map]
      exact (List.map_const' ..).symm ▸ by simp
    rw [e] at h1
    exact h1
  exact hK w' h3 ((Below.refl _ w).grown h2 (Nat.le_refl _) (by intro k hk; cases hk)) (OwnE.lt h3 _ rfl).2

end Go.Proofs.Ytcmibhechhcpiaa
