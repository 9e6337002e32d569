/-
  Graphs: a function's box and its result variable; append to a clipped slice.
-/
import Derived.Test.YtiafmhdicgmfaaaGReg
namespace Go.Proofs.Ytiafmhdicgmfaaa
open Go.RowKit

/-- block g holds an edge -/
def EdIs (g : Nat) (x : Ed) (W : World) : Prop := W.heap[g]? = some (.cells #[.int .i64 x.ty, .int .i64 x.fr, .int .i64 x.to] 36 (0, 0))
/-- block g is a box of two cells -/
def BoxIs (g : Nat) (u v : Value) (t : TypeId) (W : World) : Prop := W.heap[g]? = some (.cells #[u, v] t (0, 0))
theorem BoxIs.up {g : Nat} {u v : Value} {t : TypeId} {W W' : World} (h : BoxIs g u v t W) (hb : Below W.heap.size W W') : BoxIs g u v t W' := heap_up hb h
theorem BoxIs.cells {g : Nat} {u v : Value} {t : TypeId} {W : World} (h : BoxIs g u v t W) : W.cell? ⟨g, 0, none⟩ = some u ∧ W.cell? ⟨g, 1, none⟩ = some v := cell2 h
theorem BoxIs.set {g : Nat} {u v : Value} {t : TypeId} {W : World} (h : BoxIs g u v t W) {p : Addr} (hp : p.block ≠ g) (x : Value) : BoxIs g u v t (W.setCell p x) := (Below.heap_setCell W p x g (fun e => hp e.symm)).trans h
theorem Blk.set {g : Nat} {t : TypeId} {W : World} (h : Blk g t W) {p : Addr} (hp : p.block ≠ g) (x : Value) : Blk g t (W.setCell p x) := by
  obtain ⟨a, b, hh⟩ := h
  exact ⟨a, b, (Below.heap_setCell W p x g (fun e => hp e.symm)).trans hh⟩
theorem BoxIs.grow {g : Nat} {u v : Value} {t t0 : TypeId} {base : Nat} {W W' : World} (h : BoxIs g u v t W) (ht : t ≠ t0) (hg : Grow t0 base W W') : BoxIs g u v t W' := hg.2 g _ _ ht h
theorem Blk.grow {g : Nat} {t t0 : TypeId} {base : Nat} {W W' : World} (h : Blk g t W) (ht : t ≠ t0) (hg : Grow t0 base W W') : Blk g t W' := by
  obtain ⟨a, b, hh⟩ := h
  exact ⟨a, b, hg.2 g _ _ ht hh⟩
/-- the box w.size is read, the variable behind it is written -/
abbrev S1 (w : World) (u v : Value) (t' t : TypeId) (W : World) : Prop :=
  (W.cell? ⟨w.heap.size, 0, none⟩ = some u ∧ W.cell? ⟨w.heap.size, 1, none⟩ = some v) ∧ Sto (w.heap.size + 1) W ∧ BoxIs w.heap.size u v t' W ∧ Blk (w.heap.size + 1) t W ∧ Below w.heap.size w W
theorem S1.mk {w W : World} {u v : Value} {t' t : TypeId} (h1 : BoxIs w.heap.size u v t' W) (h2 : Blk (w.heap.size + 1) t W) (h3 : Below w.heap.size w W) : S1 w u v t' t W := ⟨h1.cells, h2.sto, h1, h2, h3⟩
theorem S1.up {w W W' : World} {u v : Value} {t' t : TypeId} (h : S1 w u v t' t W) (hb : Below W.heap.size W W') : S1 w u v t' t W' := S1.mk (h.2.2.1.up hb) (h.2.2.2.1.up hb) (h.2.2.2.2.trans (hb.mono h.2.2.2.2.size))
theorem S1.grow {w W W' : World} {u v : Value} {t' t t0 : TypeId} {base : Nat} (h : S1 w u v t' t W) (ht : t' ≠ t0) (ht2 : t ≠ t0) (hb : w.heap.size ≤ base) (hg : Grow t0 base W W') : S1 w u v t' t W' := S1.mk (h.2.2.1.grow ht hg) (h.2.2.2.1.grow ht2 hg) (h.2.2.2.2.trans (hg.1.mono hb))
theorem S1.store {w W : World} {u v : Value} {t' t : TypeId} (h : S1 w u v t' t W) (a b : Value) : S1 w u v t' t ((W.setCell ⟨w.heap.size + 1, 0, none⟩ a).setCell ⟨w.heap.size + 1, 1, none⟩ b) :=
  S1.mk ((h.2.2.1.set (by simp) _).set (by simp) _) (h.2.2.2.1.store a b) ((h.2.2.2.2.setCell (p := ⟨w.heap.size + 1, 0, none⟩) (Nat.le_succ _) a).setCell (p := ⟨w.heap.size + 1, 1, none⟩) (Nat.le_succ _) b)
theorem S1.start (w : World) (u v x y : Value) (t' t : TypeId) : S1 w u v t' t ((w.alloc (.cells #[u, v] t' (0, 0))).alloc (.cells #[x, y] t (0, 0))) :=
  S1.mk (heap_two _ _ _) ⟨x, y, heap_two' _ _ _⟩ (((Below.refl _ _).alloc (Nat.le_refl _) _).alloc (by simp) _)
theorem S1.lt {w W : World} {u v : Value} {t' t : TypeId} (h : S1 w u v t' t W) : w.heap.size < W.heap.size ∧ w.heap.size + 1 < W.heap.size := by
  have := heap_lt h.2.2.2.1.choose_spec.choose_spec
  omega
theorem S1.res {w W : World} {u v : Value} {t' t : TypeId} (h : S1 w u v t' t W) (a b : Value) : ((W.setCell ⟨w.heap.size + 1, 0, none⟩ a).setCell ⟨w.heap.size + 1, 1, none⟩ b).cell? ⟨w.heap.size + 1, 0, none⟩ = some a ∧ ((W.setCell ⟨w.heap.size + 1, 0, none⟩ a).setCell ⟨w.heap.size + 1, 1, none⟩ b).cell? ⟨w.heap.size + 1, 1, none⟩ = some b := cell2 (store2 h.2.2.2.1 a b)

theorem S1.res0 {w W : World} {u v : Value} {t' t : TypeId} (h : S1 w u v t' t W) (a : Value) : (W.setCell ⟨w.heap.size + 1, 0, none⟩ a).cell? ⟨w.heap.size + 1, 0, none⟩ = some a := by
  obtain ⟨x, y, hh⟩ := h.2.2.2.1
  exact (cell2 (heap_setCell_same W _ 0 _ _ a hh)).1

section
variable {α : Type} {E : El α}
theorem app_clip {w : World} (T t ty : TypeId) {z : Value} {bytes : Nat}
    (hT : Try.prog.underlying T = some (.slice t)) (hinfo : (Try.prog.info? t).map (fun i => (i.zero, i.size, i.bytes)) = some (some z, E.size, bytes)) (hzc : z.cells.size = E.size) (hpos : 0 < E.size) (hby : bytes ≤ 1000)
    (A : Option Addr) (n B : Nat) (xs : List α) (hn : n = xs.length) (hR : Reads E w B A xs) (ad : Addr) (c : Nat) (m : α)
    (hc : ∀ j u, (E.enc m)[j]? = some u → w.cell? (ad.add j) = some u) (hl : xs.length ≤ 100000) :
    ∃ v' w', (Builtin.append_ #[T, T] ty #[.slice A n n, .slice (some ad) 1 c]).run Try.prog w = .ok v' w' ∧ OwnE E t w' w.heap.size v' (xs ++ [m]) ∧ w.grownBy w' none := by
  obtain ⟨i0, hi, hz0, hz1, hz2⟩ := info_parts hinfo
  subst hn
  have hb : (xs.length + 1) * bytes ≤ 100001 * 1000 := Nat.mul_le_mul (by omega) hby
  cases A with
  | none =>
    have e : xs = [] := by
      rcases hR with h | ⟨b, off, h, _⟩
      · exact h
      · cases h
    subst e
    have h0 := World.ownsRow_nil w w.heap.size t E.size
    obtain ⟨v', w', hr, h2, h3, _⟩ := run_append_own (P := Try.prog) w w.heap.size T ty t i0 z E.size bytes hT hi hz0 hz1 hz2 hzc hpos _ 0 [] h0 ad 1 c (E.enc m) (by rw [E.len]; omega) hc (E.one m) (by unfold maxLen; omega) (by simp only [List.length_nil] at hb; omega) (Nat.le_refl _)
    exact ⟨v', w', hr, by simpa [OwnE, cellsE] using h2, h3⟩
  | some b =>
    obtain ⟨v', w', hr, h2, h3⟩ := run_append_arg_grows (P := Try.prog) w T ty t i0 z E.size bytes hT hi hz0 hz1 hz2 hzc hpos b xs.length xs.length (cellsE E xs) (cellsE_length E xs) (by
      intro j u hu
      rcases hR with h | ⟨g, off, h, _, h3⟩
      · subst h; simp [cellsE] at hu
      · cases h
        rw [addr_plain]
        exact reads_cells hpos h3 j u hu) ad 1 c (E.enc m) (by rw [E.len]; omega) hc (by omega) (by unfold maxLen; omega) (by omega)
    refine ⟨v', w', hr, ?_, h3⟩
    unfold OwnE
    rw [cellsE_snoc, List.length_append]
    exact h2
theorem wpList_append_clip {w : World} {ops : Array Oper} {rest : List Oper} {o : Oper} {a : Act} {Q : Exit → Act → World → Prop} (hgd : o.guard = none) (s x : Operand) (T t : TypeId)
    (ho : o.op = .call { callee := .builtin .append, args := #[s, x], argTypes := #[T, T] }) {z : Value} {bytes : Nat}
    (hT : Try.prog.underlying T = some (.slice t)) (hinfo : (Try.prog.info? t).map (fun i => (i.zero, i.size, i.bytes)) = some (some z, E.size, bytes)) (hzc : z.cells.size = E.size) (hpos : 0 < E.size) (hby : bytes ≤ 1000)
    (A : Option Addr) (n B : Nat) (xs : List α) (hs : a.eval s = .slice A n n) (hn : n = xs.length) (hR : Reads E w B A xs) (ad : Addr) (c : Nat) (m : α) (hx : a.eval x = .slice (some ad) 1 c)
    (hc : ∀ j u, (E.enc m)[j]? = some u → w.cell? (ad.add j) = some u) (hl : xs.length ≤ 100000)
    (hK : ∀ v' w', OwnE E t w' w.heap.size v' (xs ++ [m]) → w.grownBy w' none → wpList Try.prog ops Q rest (a.put o.dst v') w') : wpList Try.prog ops Q (o :: rest) a w := by
  refine wpList_plain hgd fun _ hK2 => ?_
  obtain ⟨v', w', hr, h2, h3⟩ := app_clip (w := w) T t o.type hT hinfo hzc hpos hby A n B xs hn hR ad c m hc hl
  unfold Oper.wp execOp
  simp only [ho, resolve, invoke, builtin, Sem.run_bind, Sem.run_pure, Result.andThen_ok, List.map_toArray, List.map_cons, List.map_nil, hs, hx, hr]
  exact hK2 _ _ (hK v' w' h2 h3)
theorem step_append_clip {w : World} {ops : Array Oper} {o : Oper} {a : Act} {K : Act → World → Prop} {Q : Exit → Act → World → Prop} {X : Prop} (hgd : o.guard = none) (s x : Operand) (T t : TypeId)
    (ho : o.op = .call { callee := .builtin .append, args := #[s, x], argTypes := #[T, T] }) {z : Value} {bytes : Nat}
    (hT : Try.prog.underlying T = some (.slice t)) (hinfo : (Try.prog.info? t).map (fun i => (i.zero, i.size, i.bytes)) = some (some z, E.size, bytes)) (hzc : z.cells.size = E.size) (hpos : 0 < E.size) (hby : bytes ≤ 1000)
    (A : Option Addr) (n B : Nat) (xs : List α) (hs : a.eval s = .slice A n n) (hn : n = xs.length) (hR : Reads E w B A xs) (ad : Addr) (c : Nat) (m : α) (hx : a.eval x = .slice (some ad) 1 c)
    (hc : ∀ j u, (E.enc m)[j]? = some u → w.cell? (ad.add j) = some u) (hl : xs.length ≤ 100000)
    (hK : ∀ v' w', OwnE E t w' w.heap.size v' (xs ++ [m]) → w.grownBy w' none → K (a.put o.dst v') w') : if Region.wanted o (yielded ops a.tmps) = true then Oper.wp Try.prog o a w K Q else X := by
  have hw : Region.wanted o (yielded ops a.tmps) = true := by simp [Region.wanted, hgd]
  rw [if_pos hw]
  obtain ⟨v', w', hr, h2, h3⟩ := app_clip (w := w) T t o.type hT hinfo hzc hpos hby A n B xs hn hR ad c m hc hl
  unfold Oper.wp execOp
  simp only [ho, resolve, invoke, builtin, Sem.run_bind, Sem.run_pure, Result.andThen_ok, List.map_toArray, List.map_cons, List.map_nil, hs, hx, hr]
  exact hK v' w' h2 h3
end
/-- a new block of one int, or of one edge -/
theorem new_int {w : World} {g : Nat} {m : Int} {t : TypeId} (h : w.heap[g]? = some (.cells #[.int .i64 m] t (0, 0))) : ∀ j u, (EInt.enc m)[j]? = some u → w.cell? ((⟨g, 0, none⟩ : Addr).add j) = some u := news_of (E := EInt) h rfl
theorem new_ed {w : World} {g : Nat} {m : Ed} {t : TypeId} (h : w.heap[g]? = some (.cells #[.int .i64 m.ty, .int .i64 m.fr, .int .i64 m.to] t (0, 0))) : ∀ j u, (EEd.enc m)[j]? = some u → w.cell? ((⟨g, 0, none⟩ : Addr).add j) = some u := news_of (E := EEd) h rfl

theorem reads_one {α : Type} {E : El α} {w : World} {g B : Nat} {m : α} (h : ∀ j u, (E.enc m)[j]? = some u → w.cell? ((⟨g, 0, none⟩ : Addr).add j) = some u) (hb : g < B) : Reads E w B (some ⟨g, 0, none⟩) [m] := by
  refine .inr ⟨g, 0, rfl, hb, fun i x hx j u hu => ?_⟩
  cases i with
  | zero =>
    simp only [List.getElem?_cons_zero, Option.some.injEq] at hx
    subst hx
    have := h j u hu
    rw [addr_plain] at this
    rw [Nat.zero_mul, Nat.add_zero]
    exact this
  | succ i => simp at hx
theorem BoxIs.free {g : Nat} {u v : Value} {t : TypeId} {W : World} (h : BoxIs g u v t W) (j : Nat) : W.frozen? ⟨g, j, none⟩ = false := frozen_of_row _ _ _ _ _ h
theorem BoxIs.set0 {g : Nat} {u v : Value} {t : TypeId} {W : World} (h : BoxIs g u v t W) (x : Value) : BoxIs g x v t (W.setCell ⟨g, 0, none⟩ x) := heap_setCell_same W g 0 _ _ x h
theorem BoxIs.set1 {g : Nat} {u v : Value} {t : TypeId} {W : World} (h : BoxIs g u v t W) (x : Value) : BoxIs g u x t (W.setCell ⟨g, 1, none⟩ x) := heap_setCell_same W g 1 _ _ x h
theorem S1.set {w W : World} {u v : Value} {t' t : TypeId} (h : S1 w u v t' t W) {p : Addr} (hp : w.heap.size + 2 ≤ p.block) (x : Value) : S1 w u v t' t (W.setCell p x) :=
  S1.mk (h.2.2.1.set (by omega) x) (h.2.2.2.1.set (by omega) x) (h.2.2.2.2.setCell (by omega) x)
theorem OwnZ.set {α : Type} {E : El α} {t t' : TypeId} {w : World} {base g : Nat} {v a b x : Value} {xs : List α} (h : OwnZ E t w base v xs) (hb : BoxIs g a b t' w) (ht : t ≠ t') (j : Nat) : OwnZ E t (w.setCell ⟨g, j, none⟩ x) base v xs := by
  refine h.imp (fun h => ?_) id
  refine ⟨h.1, ?_⟩
  rcases h.2 with hn | ⟨g2, cap, cur, hv, hbg, hh, rest⟩
  · exact .inl hn
  · refine .inr ⟨g2, cap, cur, hv, hbg, (Below.heap_setCell w ⟨g, j, none⟩ x g2 (fun e => ?_)).trans hh, rest⟩
    have e : g2 = g := e
    subst e
    unfold BoxIs at hb
    rw [hb] at hh
    simp only [Option.some.injEq, Obj.cells.injEq] at hh
    exact ht hh.2.1.symm
theorem isI_resZ {w W : World} {v : Value} {xs : List Int} (h : OwnZ EInt 3 W (w.heap.size + 2) v xs) (a b : Value) : IsI ((W.setCell ⟨w.heap.size + 1, 0, none⟩ a).setCell ⟨w.heap.size + 1, 1, none⟩ b) v xs :=
  ((h.stored (a := ⟨w.heap.size + 1, 0, none⟩) (Nat.lt_succ_self _) a).stored (a := ⟨w.heap.size + 1, 1, none⟩) (Nat.lt_succ_self _) b).reads_cap
theorem isE_resZ {w W : World} {v : Value} {xs : List Ed} (h : OwnZ EEd 36 W (w.heap.size + 2) v xs) (a b : Value) : IsE ((W.setCell ⟨w.heap.size + 1, 0, none⟩ a).setCell ⟨w.heap.size + 1, 1, none⟩ b) v xs :=
  ((h.stored (a := ⟨w.heap.size + 1, 0, none⟩) (Nat.lt_succ_self _) a).stored (a := ⟨w.heap.size + 1, 1, none⟩) (Nat.lt_succ_self _) b).reads_cap
theorem isI_res {w W : World} {v : Value} {xs : List Int} (h : OwnI W (w.heap.size + 2) v xs) (a b : Value) : IsI ((W.setCell ⟨w.heap.size + 1, 0, none⟩ a).setCell ⟨w.heap.size + 1, 1, none⟩ b) v xs :=
  isI_own (base := w.heap.size + 2) (ownsRow_setCell_below (ownsRow_setCell_below h (a := ⟨w.heap.size + 1, 0, none⟩) (Nat.lt_succ_self _) a) (a := ⟨w.heap.size + 1, 1, none⟩) (Nat.lt_succ_self _) b)
theorem isE_res {w W : World} {v : Value} {xs : List Ed} (h : OwnEd W (w.heap.size + 2) v xs) (a b : Value) : IsE ((W.setCell ⟨w.heap.size + 1, 0, none⟩ a).setCell ⟨w.heap.size + 1, 1, none⟩ b) v xs :=
  isE_own (base := w.heap.size + 2) (ownsRow_setCell_below (ownsRow_setCell_below h (a := ⟨w.heap.size + 1, 0, none⟩) (Nat.lt_succ_self _) a) (a := ⟨w.heap.size + 1, 1, none⟩) (Nat.lt_succ_self _) b)

end Go.Proofs.Ytiafmhdicgmfaaa
