/-
  Graphs: a function's box and its two result variables.
-/
import Derived.Test.YtiafmhdicgmfaaaGFr
namespace Go.Proofs.Ytiafmhdicgmfaaa
open Go.RowKit

/-- the box w.size is read, the two variables behind it are written -/
abbrev S2 (w : World) (u v : Value) (t' t t2 : TypeId) (W : World) : Prop :=
  (W.cell? ⟨w.heap.size, 0, none⟩ = some u ∧ W.cell? ⟨w.heap.size, 1, none⟩ = some v) ∧ (Sto (w.heap.size + 1) W ∧ Sto (w.heap.size + 2) W) ∧ BoxIs w.heap.size u v t' W ∧ Blk (w.heap.size + 1) t W ∧ Blk (w.heap.size + 2) t2 W ∧ Below w.heap.size w W
section
variable {w W W' : World} {u v : Value} {t' t t2 : TypeId}
theorem S2.mk (h1 : BoxIs w.heap.size u v t' W) (h2 : Blk (w.heap.size + 1) t W) (h3 : Blk (w.heap.size + 2) t2 W) (h4 : Below w.heap.size w W) : S2 w u v t' t t2 W := ⟨h1.cells, ⟨h2.sto, h3.sto⟩, h1, h2, h3, h4⟩
theorem S2.be (h : S2 w u v t' t t2 W) : Below w.heap.size w W := h.2.2.2.2.2
theorem S2.up (h : S2 w u v t' t t2 W) (hb : Below W.heap.size W W') : S2 w u v t' t t2 W' := S2.mk (h.2.2.1.up hb) (h.2.2.2.1.up hb) (h.2.2.2.2.1.up hb) (h.be.trans (hb.mono h.be.size))
theorem S2.grow {t0 : TypeId} {base : Nat} (h : S2 w u v t' t t2 W) (ht : t' ≠ t0) (ht2 : t ≠ t0) (ht3 : t2 ≠ t0) (hb : w.heap.size ≤ base) (hg : Grow t0 base W W') : S2 w u v t' t t2 W' := S2.mk (h.2.2.1.grow ht hg) (h.2.2.2.1.grow ht2 hg) (h.2.2.2.2.1.grow ht3 hg) (h.be.trans (hg.1.mono hb))
theorem S2.set (h : S2 w u v t' t t2 W) {p : Addr} (hp : w.heap.size + 3 ≤ p.block) (x : Value) : S2 w u v t' t t2 (W.setCell p x) :=
  S2.mk (h.2.2.1.set (by omega) x) (h.2.2.2.1.set (by omega) x) (h.2.2.2.2.1.set (by omega) x) (h.be.setCell (by omega) x)
theorem S2.start (w : World) (u v a b c d : Value) (t' t t2 : TypeId) : S2 w u v t' t t2 (((w.alloc (.cells #[u, v] t' (0, 0))).alloc (.cells #[a, b] t (0, 0))).alloc (.cells #[c, d] t2 (0, 0))) := by
  have h0 := heap_two w (.cells #[u, v] t' (0, 0)) (.cells #[a, b] t (0, 0))
  have h1 := heap_two' w (.cells #[u, v] t' (0, 0)) (.cells #[a, b] t (0, 0))
  have h2 := heap_alloc_new ((w.alloc (.cells #[u, v] t' (0, 0))).alloc (.cells #[a, b] t (0, 0))) (.cells #[c, d] t2 (0, 0))
  exact S2.mk (heap_up (below_a _ _) h0) ⟨a, b, heap_up (below_a _ _) h1⟩ ⟨c, d, by simpa using h2⟩ ((((Below.refl _ _).alloc (Nat.le_refl _) _).alloc (by simp) _).alloc (by simp; omega) _)
theorem S2.lt (h : S2 w u v t' t t2 W) : w.heap.size < W.heap.size ∧ w.heap.size + 1 < W.heap.size ∧ w.heap.size + 2 < W.heap.size := by
  have := heap_lt h.2.2.2.2.1.choose_spec.choose_spec
  omega
/-- both results are written, in this order or the other -/
abbrev set4 (W : World) (g h : Nat) (a b c d : Value) : World := (((W.setCell ⟨g, 0, none⟩ a).setCell ⟨g, 1, none⟩ b).setCell ⟨h, 0, none⟩ c).setCell ⟨h, 1, none⟩ d
theorem S2.store (h : S2 w u v t' t t2 W) (a b c d : Value) : Below w.heap.size w (set4 W (w.heap.size + 1) (w.heap.size + 2) a b c d) ∧ (set4 W (w.heap.size + 1) (w.heap.size + 2) a b c d).heap[w.heap.size + 1]? = some (.cells #[a, b] t (0, 0)) ∧ (set4 W (w.heap.size + 1) (w.heap.size + 2) a b c d).heap[w.heap.size + 2]? = some (.cells #[c, d] t2 (0, 0)) := by
  have h1 := store2 h.2.2.2.1 a b
  have k : Blk (w.heap.size + 2) t2 ((W.setCell ⟨w.heap.size + 1, 0, none⟩ a).setCell ⟨w.heap.size + 1, 1, none⟩ b) := (h.2.2.2.2.1.set (by simp) _).set (by simp) _
  exact ⟨(((h.be.setCell (by simp) _).setCell (by simp) _).setCell (by simp) _).setCell (by simp) _, (Below.heap_setCell _ _ _ _ (by simp)).trans ((Below.heap_setCell _ _ _ _ (by simp)).trans h1), store2 k c d⟩
theorem S2.store' (h : S2 w u v t' t t2 W) (a b c d : Value) : Below w.heap.size w (set4 W (w.heap.size + 2) (w.heap.size + 1) c d a b) ∧ (set4 W (w.heap.size + 2) (w.heap.size + 1) c d a b).heap[w.heap.size + 1]? = some (.cells #[a, b] t (0, 0)) ∧ (set4 W (w.heap.size + 2) (w.heap.size + 1) c d a b).heap[w.heap.size + 2]? = some (.cells #[c, d] t2 (0, 0)) := by
  have h1 := store2 h.2.2.2.2.1 c d
  have k : Blk (w.heap.size + 1) t ((W.setCell ⟨w.heap.size + 2, 0, none⟩ c).setCell ⟨w.heap.size + 2, 1, none⟩ d) := (h.2.2.2.1.set (by simp) _).set (by simp) _
  exact ⟨(((h.be.setCell (by simp) _).setCell (by simp) _).setCell (by simp) _).setCell (by simp) _, store2 k a b, (Below.heap_setCell _ _ _ _ (by simp)).trans ((Below.heap_setCell _ _ _ _ (by simp)).trans h1)⟩
end
theorem OwnE.setBox {α : Type} {E : El α} {t t' : TypeId} {w : World} {base g : Nat} {v a b x : Value} {xs : List α} (h : OwnE E t w base v xs) (hb : BoxIs g a b t' w) (ht : t ≠ t') (j : Nat) : OwnE E t (w.setCell ⟨g, j, none⟩ x) base v xs := by
  refine ⟨h.1, ?_⟩
  rcases h.2 with hn | ⟨g2, cap, cur, hv, hbg, hh, rest⟩
  · exact .inl hn
  · refine .inr ⟨g2, cap, cur, hv, hbg, (Below.heap_setCell w ⟨g, j, none⟩ x g2 (fun e => ?_)).trans hh, rest⟩
    have e : g2 = g := e
    subst e
    unfold BoxIs at hb
    rw [hb] at hh
    simp only [Option.some.injEq, Obj.cells.injEq] at hh
    exact ht hh.2.1.symm
/-- a row is kept by stores into blocks below its base -/
theorem OwnE.set4 {α : Type} {E : El α} {t : TypeId} {W : World} {base g h : Nat} {v : Value} {xs : List α} (ho : OwnE E t W base v xs) (hg : g < base) (hh : h < base) (a b c d : Value) : OwnE E t (Go.Proofs.Ytiafmhdicgmfaaa.set4 W g h a b c d) base v xs :=
  ownsRow_setCell_below (ownsRow_setCell_below (ownsRow_setCell_below (ownsRow_setCell_below ho (a := ⟨g, 0, none⟩) hg a) (a := ⟨g, 1, none⟩) hg b) (a := ⟨h, 0, none⟩) hh c) (a := ⟨h, 1, none⟩) hh d
theorem OwnE.store2 {α : Type} {E : El α} {t t' : TypeId} {W : World} {base g : Nat} {v : Value} {xs : List α} (h : OwnE E t W base v xs) (hb : Blk g t' W) (ht : t ≠ t') (a b : Value) : OwnE E t ((W.setCell ⟨g, 0, none⟩ a).setCell ⟨g, 1, none⟩ b) base v xs := by
  obtain ⟨x, y, hh⟩ := hb
  have hh : BoxIs g x y t' W := hh
  exact (h.setBox hh ht 0).setBox (hh.set0 a) ht 1
theorem step_append_G {α : Type} {E : El α} {w : World} {ops : Array Oper} {o : Oper} {a : Act} {K : Act → World → Prop} {Q : Exit → Act → World → Prop} {X : Prop} (hgd : o.guard = none) (s x : Operand) (T t : TypeId)
    (ho : o.op = .call { callee := .builtin .append, args := #[s, x], argTypes := #[T, T] }) {z : Value} {bytes : Nat}
    (hT : Try.prog.underlying T = some (.slice t)) (hinfo : (Try.prog.info? t).map (fun i => (i.zero, i.size, i.bytes)) = some (some z, E.size, bytes)) (hzc : z.cells.size = E.size) (hpos : 0 < E.size) (hby : bytes ≤ 1000)
    (base : Nat) (v : Value) (xs : List α) (hs : a.eval s = v) (hown : OwnE E t w base v xs) (ad : Addr) (c : Nat) (m : α) (hx : a.eval x = .slice (some ad) 1 c)
    (hc : ∀ j u, (E.enc m)[j]? = some u → w.cell? (ad.add j) = some u) (hl : xs.length ≤ 1000000) (hbase : base ≤ w.heap.size)
    (hK : ∀ v' w', OwnE E t w' base v' (xs ++ [m]) → Grow t base w w' → K (a.put o.dst v') w') : if Region.wanted o (yielded ops a.tmps) = true then Oper.wp Try.prog o a w K Q else X :=
  step_append_E hgd s x T t ho hT hinfo hzc hpos hby base v xs hs hown ad c m hx hc hl hbase fun v' w' h1 h2 h3 => hK v' w' h1 (Grow.own hown h2 h3)
theorem bcell {W w1 : World} (hb : Below W.heap.size W w1) : (∀ b o, b < W.heap.size → w1.cell? ⟨b, o, none⟩ = W.cell? ⟨b, o, none⟩) ∧ (∀ b o, b < W.heap.size → w1.frozen? ⟨b, o, none⟩ = W.frozen? ⟨b, o, none⟩) :=
  ⟨fun b o h => hb.cell (p := ⟨b, o, none⟩) h, fun b o h => hb.frozen (p := ⟨b, o, none⟩) h⟩

end Go.Proofs.Ytiafmhdicgmfaaa
