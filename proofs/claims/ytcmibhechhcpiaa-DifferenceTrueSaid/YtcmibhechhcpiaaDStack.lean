/-
  A list of matrices: each read only, one appended behind the other.
-/
import Derived.Test.YtcmibhechhcpiaaDDist
namespace Go.Proofs.Ytcmibhechhcpiaa
open Go.RowKit

/-- a slice that was written out -/
theorem OwnE.lit {α : Type} {E : El α} {t : TypeId} {w : World} {base g n : Nat} {xs : List α} {cur : Array Value} (hg : w.heap[g]? = some (.cells cur t (0, 0))) (hc : cur.toList = cellsE E xs) (hb : base ≤ g) (hn : n = xs.length) (hl : n ≤ 1000000) : OwnE E t w base (.slice (some ⟨g, 0, none⟩) n n) xs := by
  subst hn
  have h1 := cellsE_length E xs
  have h2 : cur.size = xs.length * E.size := by rw [← h1, ← hc]; simp
  refine ⟨h1, .inr ⟨g, xs.length, cur, rfl, hb, hg, Nat.le_refl _, by unfold maxLen; omega, h2, ?_⟩⟩
  rw [hc, List.take_of_length_le (by omega)]

theorem infoMat : (Try.prog.info? 72).map (fun i => (i.zero, i.size, i.bytes)) = some (some (.slice none 0 0), 1, 24) := by kernel_rfl
/-- matrices of n rows of n, one behind the other -/
def OwnS (w : World) (base : Nat) (v : Value) (m n : Nat) (F : Nat → Nat → Nat → Int) : Prop :=
  ∃ hs : List (Nat × Nat), hs.length = m ∧ OwnE (EHd n) 72 w base v hs ∧ ∀ k h, hs[k]? = some h → OwnM w base (.slice (some ⟨h.1, 0, none⟩) n h.2) n n (F k)

theorem OwnM.apart {β : Type} {G : El β} {t : TypeId} {w w' : World} {base base' m n : Nat} {u v : Value} {f : Nat → Nat → Int} {ys : List β} (h : OwnM w base u m n f) (hv : OwnE G t w base' v ys) (h1 : 3 ≠ t) (h2 : 24 ≠ t) (hg : w.grownBy w' v.ownBlock) : OwnM w' base u m n f := by
  obtain ⟨hs, k1, k2, k3, k4⟩ := h
  exact ⟨hs, k1, k2.kept hg (own_apart h2 k2 hv), fun i x hi => (k3 i x hi).kept hg (own_apart h1 (k3 i x hi) hv), k4⟩

theorem OwnS.slice {w : World} {base m n : Nat} {v : Value} {F : Nat → Nat → Nat → Int} (h : OwnS w base v m n F) : ∃ ao cap, v = .slice ao m cap := by
  obtain ⟨hs, h1, h2, _⟩ := h
  obtain ⟨ao, cap, e⟩ := OwnE.slice h2
  exact ⟨ao, cap, by rw [e, h1]⟩
theorem OwnS.below {w w' : World} {base B m n : Nat} {v : Value} {F : Nat → Nat → Nat → Int} (h : OwnS w base v m n F) (hb : Below B w w') (hB : w.heap.size ≤ B) : OwnS w' base v m n F := by
  obtain ⟨hs, h1, h2, h3⟩ := h
  exact ⟨hs, h1, h2.below hb hB, fun k x hk => (h3 k x hk).below hb hB⟩
theorem OwnS.alloc {w : World} {base m n : Nat} {v : Value} {F : Nat → Nat → Nat → Int} (h : OwnS w base v m n F) (o : Obj) : OwnS (w.alloc o) base v m n F :=
  h.below ((Below.refl _ w).alloc (Nat.le_refl _) o) (Nat.le_refl _)
theorem OwnS.kept {β : Type} {G : El β} {t : TypeId} {w w' : World} {base base' m n : Nat} {u v : Value} {F : Nat → Nat → Nat → Int} {ys : List β} (h : OwnS w base u m n F) (hv : OwnE G t w base' v ys) (h1 : 3 ≠ t) (h2 : 24 ≠ t) (h3 : 72 ≠ t) (hg : w.grownBy w' v.ownBlock) : OwnS w' base u m n F := by
  obtain ⟨hs, k1, k2, k3⟩ := h
  exact ⟨hs, k1, k2.kept hg (own_apart h3 k2 hv), fun k x hk => (k3 k x hk).apart hv h1 h2 hg⟩
theorem OwnS.ext {w : World} {base m n : Nat} {v : Value} {F G : Nat → Nat → Nat → Int} (h : OwnS w base v m n F) (e : ∀ k, k < m → F k = G k) : OwnS w base v m n G := by
  obtain ⟨hs, h1, h2, h3⟩ := h
  refine ⟨hs, h1, h2, fun k x hk => ?_⟩
  have hlt : k < m := by
    rcases Nat.lt_or_ge k m with h5 | h5
    · exact h5
    · rw [List.getElem?_eq_none (by omega)] at hk; cases hk
  rw [← e k hlt]
  exact h3 k x hk
/-- the matrix at a place -/
theorem OwnS.at {w : World} {base m n : Nat} {v : Value} {F : Nat → Nat → Nat → Int} (h : OwnS w base v m n F) {k : Nat} (hk : k < m) :
    ∃ b c g cc, v = .slice (some ⟨b, 0, none⟩) m c ∧ b < w.heap.size ∧ w.cell? ⟨b, k, none⟩ = some (.slice (some ⟨g, 0, none⟩) n cc) ∧ OwnM w base (.slice (some ⟨g, 0, none⟩) n cc) n n (F k) := by
  obtain ⟨hs, h1, h2, h3⟩ := h
  obtain ⟨b, c, e1, e2, e3⟩ := OwnE.pos h2 (by omega)
  obtain ⟨A, c', e4, hR⟩ := OwnE.reads h2
  rw [h1] at e1 e4
  rw [e1] at e4
  simp only [Value.slice.injEq] at e4
  obtain ⟨b', off, e5, _, e6⟩ := Reads.at hR (k := k) (by omega)
  have e7 := e6 k (by omega) 0 _ rfl
  have hg : hs[k]? = some hs[k] := List.getElem?_eq_getElem (by omega)
  generalize hs[k] = r at e7 hg
  obtain ⟨eA, _⟩ := e4
  rw [← eA] at e5
  simp only [Option.some.injEq, Addr.mk.injEq] at e5
  obtain ⟨e5, e8, _⟩ := e5
  subst e5 e8
  have es : (EHd n).size = 1 := rfl
  rw [es, Nat.mul_one, Nat.add_zero, Nat.zero_add] at e7
  exact ⟨b, c, r.1, r.2, e1, e3, e7, h3 k r hg⟩
/-- one matrix alone -/
theorem OwnS.one {w : World} {base n : Nat} {b c : Nat} {f : Nat → Nat → Int} (hM : OwnM w base (.slice (some ⟨b, 0, none⟩) n c) n n f) (hbase : base ≤ w.heap.size) :
    OwnS (w.alloc (.cells #[.slice (some ⟨b, 0, none⟩) n c] 72 (0, 0))) base (.slice (some ⟨w.heap.size, 0, none⟩) 1 1) 1 n (fun _ => f) := by
  refine ⟨[(b, c)], rfl, OwnE.lit (heap_alloc_new _ _) rfl hbase rfl (by omega), fun k x hk => ?_⟩
  cases k with
  | zero => simp at hk; subst hk; exact hM.alloc _
  | succ k => simp at hk

/-- append of one matrix -/
theorem wpList_append_mat {w : World} {ops : Array Oper} {rest : List Oper} {o : Oper} {a : Act} {Q : Exit → Act → World → Prop} (hgd : o.guard = none) (s x : Operand)
    (ho : o.op = .call { callee := .builtin .append, args := #[s, x], argTypes := #[93, 93] })
    (base : Nat) (v : Value) (m n : Nat) (F : Nat → Nat → Nat → Int) (hs : a.eval s = v) (hown : OwnS w base v m n F) (ad c : Nat) (hx : a.eval x = .slice (some ⟨ad, 0, none⟩) 1 c)
    (g cc : Nat) (f : Nat → Nat → Int) (hc : w.cell? ⟨ad, 0, none⟩ = some (.slice (some ⟨g, 0, none⟩) n cc)) (hu : OwnM w base (.slice (some ⟨g, 0, none⟩) n cc) n n f) (hl : m ≤ 1000000) (hbase : base ≤ w.heap.size)
    (hK : ∀ v' w', OwnS w' base v' (m + 1) n (fun k => if k = m then f else F k) → (∀ u, OwnM w base (.slice (some ⟨g, 0, none⟩) n cc) n n u → OwnM w' base (.slice (some ⟨g, 0, none⟩) n cc) n n u) → w.grownBy w' v.ownBlock → Below base w w' → wpList Try.prog ops Q rest (a.put o.dst v') w') : wpList Try.prog ops Q (o :: rest) a w := by
  obtain ⟨hds, h1, h2, h3⟩ := hown
  refine wpList_append_E (E := EHd n) hgd s x 93 72 ho Try.underlying93 infoMat rfl (show 0 < 1 by decide) (by decide) base v hds hs h2 ⟨ad, 0, none⟩ c (g, cc) hx ?_ (by omega) hbase ?_
  · intro j u hj
    cases j with
    | zero => rw [addr_plain]; simp [EHd] at hj; subst hj; exact hc
    | succ j => simp [EHd] at hj
  · intro v' w' k1 k2 k3
    refine hK v' w' ⟨hds ++ [(g, cc)], by simp [h1], k1, fun i h hi => ?_⟩ (fun u hu => hu.apart h2 (by decide) (by decide) k2) k2 k3
    rcases Nat.lt_trichotomy i m with hi1 | hi1 | hi1
    · rw [List.getElem?_append_left (by omega)] at hi
      show OwnM w' base _ n n (if i = m then f else F i)
      rw [if_neg (by omega)]
      exact (h3 i h hi).apart h2 (by decide) (by decide) k2
    · rw [List.getElem?_append_right (by omega), hi1, h1, Nat.sub_self] at hi
      simp at hi
      subst hi
      show OwnM w' base _ n n (if i = m then f else F i)
      rw [if_pos hi1]
      exact hu.apart h2 (by decide) (by decide) k2
    · rw [List.getElem?_eq_none (by simp; omega)] at hi; cases hi

end Go.Proofs.Ytcmibhechhcpiaa
