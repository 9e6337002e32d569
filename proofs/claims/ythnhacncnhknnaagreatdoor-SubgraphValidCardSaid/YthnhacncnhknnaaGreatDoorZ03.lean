import Derived.Test.YthnhacncnhknnaaGreatDoorZ02
import Derived.Test.YthnhacncnhknnaaGreatDoorZ01
import Derived.ProofKit
import Derived.OpenShut
import Derived.Deep.Slices
import Derived.Deep.Strs
import Derived.SizedLaws
import Derived.Deep.RegionHeld3
import Derived.Maps.AppendAt
import Derived.Sort.OwnSortedInts
import Derived.Lib.OwnBridge
import Derived.Lib.SmallJoins
import Derived.Test.YthnhacncnhknnaaGreatDoorProg
import Derived.WalkKit
import Derived.WalkSpells
import Derived.Lib.Hide
import Derived.Shelf.Spec.TrailingZeros
import Derived.IntWalk
import Derived.OwnWalkIn
import Derived.Laws.StructEq
import Derived.Deep.MidRow
import Derived.Laws.Rows
import Derived.Deep.DeepCutAuto
import Derived.ArgAppend
import Derived.LoopTactic
import Derived.Great.BuildSlice
/-
  Graphs: a function's box and its two result variables.
-/
namespace Go.Proofs.YthnhacncnhknnaaGreatDoor
open Go.RowKit

/-- the box w.size is read, the two variables behind it are written -/
abbrev S2 (w : World) (u v : Value) (t' t t2 : TypeId) (W : World) : Prop :=
  (W.cell? ⟨w.heap.size, 0, none⟩ = some u ∧ W.cell? ⟨w.heap.size, 1, none⟩ = some v) ∧ (Sto (w.heap.size + 1) W ∧ Sto (w.heap.size + 2) W) ∧ BoxIs w.heap.size u v t' W ∧ Blk (w.heap.size + 1) t W ∧ Blk (w.heap.size + 2) t2 W ∧ Below w.heap.size w W
section
variable {w W W' : World} {u v : Value} {t' t t2 : TypeId}
theorem S2.mk (h1 : BoxIs w.heap.size u v t' W) (h2 : Blk (w.heap.size + 1) t W) (h3 : Blk (w.heap.size + 2) t2 W) (h4 : Below w.heap.size w W) : S2 w u v t' t t2 W := ⟨h1.cells, ⟨h2.sto, h3.sto⟩, h1, h2, h3, h4⟩
theorem S2.be (h : S2 w u v t' t t2 W) : Below w.heap.size w W := h.2.2.2.2.2
theorem S2.up (h : S2 w u v t' t t2 W) (hb : Below W.heap.size W W') : S2 w u v t' t t2 W' := S2.mk (h.2.2.1.up hb) (h.2.2.2.1.up hb) (h.2.2.2.2.1.up hb) (h.be.trans (hb.mono h.be.size))
theorem S2.grow {t0 : TypeId} {base : Nat} (h : S2 w u v t' t t2 W) (ht : t' ≠ t0) (ht2 : t ≠ t0) (ht3 : t2 ≠ t0) (hb : w.heap.size ≤ base) (hg : Grow t0 base W W') : S2 w u v t' t t2 W' := S2.mk (h.2.2.1.grow ht hg) (h.2.2.2.1.grow ht2 hg) (h.2.2.2.2.1.grow ht3 hg) (h.be.trans (hg.1.mono hb))
theorem S2.set (h : S2 w u v t' t t2 W) {p : Addr} (hp : w.heap.size + 3 ≤ p.block) (x : Value) : S2 w u v t' t t2 (W.setCell p x) :=
  S2.mk (h.2.2.1.set (by omega) x) (h.2.2.2.1.set (by omega) x) (h.2.2.2.2.1.set (by omega) x) (h.be.setCell (by omega) x)
theorem S2.start (w : World) (u v a b c d : Value) (t' t t2 : TypeId) : S2 w u v t' t t2 (((w.alloc (.cells #[u, v] t' (0, 0))).alloc (.cells #[a, b] t (0, 0))).alloc (.cells #[c, d] t2 (0, 0))) := by
  have h0 := heap_two w (.cells #[u, v] t' (0, 0)) (.cells #[a, b] t (0, 0))
  have h1 := heap_two' w (.cells #[u, v] t' (0, 0)) (.cells #[a, b] t (0, 0))
  have h2 := heap_alloc_new ((w.alloc (.cells #[u, v] t' (0, 0))).alloc (.cells #[a, b] t (0, 0))) (.cells #[c, d] t2 (0, 0))
  exact S2.mk (heap_up (below_a _ _) h0) ⟨a, b, heap_up (below_a _ _) h1⟩ ⟨c, d, by simpa using h2⟩ ((((Below.refl _ _).alloc (Nat.le_refl _) _).alloc (by simp) _).alloc (by simp; omega) _)
theorem S2.lt (h : S2 w u v t' t t2 W) : w.heap.size < W.heap.size ∧ w.heap.size + 1 < W.heap.size ∧ w.heap.size + 2 < W.heap.size := by
  have := heap_lt h.2.2.2.2.1.choose_spec.choose_spec
  omega
/-- both results are written, in this order or the other -/
abbrev set4 (W : World) (g h : Nat) (a b c d : Value) : World := (((W.setCell ⟨g, 0, none⟩ a).setCell ⟨g, 1, none⟩ b).setCell ⟨h, 0, none⟩ c).setCell ⟨h, 1, none⟩ d
theorem S2.store (h : S2 w u v t' t t2 W) (a b c d : Value) : Below w.heap.size w (set4 W (w.heap.size + 1) (w.heap.size + 2) a b c d) ∧ (set4 W (w.heap.size + 1) (w.heap.size + 2) a b c d).heap[w.heap.size + 1]? = some (.cells #[a, b] t (0, 0)) ∧ (set4 W (w.heap.size + 1) (w.heap.size + 2) a b c d).heap[w.heap.size + 2]? = some (.cells #[c, d] t2 (0, 0)) := by
  have h1 := store2 h.2.2.2.1 a b
  have k : Blk (w.heap.size + 2) t2 ((W.setCell ⟨w.heap.size + 1, 0, none⟩ a).setCell ⟨w.heap.size + 1, 1, none⟩ b) := (h.2.2.2.2.1.set (by simp) _).set (by simp) _
  exact ⟨(((h.be.setCell (by simp) _).setCell (by simp) _).setCell (by simp) _).setCell (by simp) _, (Below.heap_setCell _ _ _ _ (by simp)).trans ((Below.heap_setCell _ _ _ _ (by simp)).trans h1), store2 k c d⟩
end
theorem OwnE.setBox {α : Type} {E : El α} {t t' : TypeId} {w : World} {base g : Nat} {v a b x : Value} {xs : List α} (h : OwnE E t w base v xs) (hb : BoxIs g a b t' w) (ht : t ≠ t') (j : Nat) : OwnE E t (w.setCell ⟨g, j, none⟩ x) base v xs := by
  refine ⟨h.1, ?_⟩
  rcases h.2 with hn | ⟨g2, cap, cur, hv, hbg, hh, rest⟩
  · exact .inl hn
  · refine .inr ⟨g2, cap, cur, hv, hbg, (Below.heap_setCell w ⟨g, j, none⟩ x g2 (fun e => ?_)).trans hh, rest⟩
    have e : g2 = g := e
    subst e
    unfold BoxIs at hb
    rw [hb] at hh
    simp only [Option.some.injEq, Obj.cells.injEq] at hh
    exact ht hh.2.1.symm
/-- a row is kept by stores into blocks below its base -/
theorem OwnE.set4 {α : Type} {E : El α} {t : TypeId} {W : World} {base g h : Nat} {v : Value} {xs : List α} (ho : OwnE E t W base v xs) (hg : g < base) (hh : h < base) (a b c d : Value) : OwnE E t (Go.Proofs.YthnhacncnhknnaaGreatDoor.set4 W g h a b c d) base v xs :=
  ownsRow_setCell_below (ownsRow_setCell_below (ownsRow_setCell_below (ownsRow_setCell_below ho (a := ⟨g, 0, none⟩) hg a) (a := ⟨g, 1, none⟩) hg b) (a := ⟨h, 0, none⟩) hh c) (a := ⟨h, 1, none⟩) hh d
theorem OwnE.store2 {α : Type} {E : El α} {t t' : TypeId} {W : World} {base g : Nat} {v : Value} {xs : List α} (h : OwnE E t W base v xs) (hb : Blk g t' W) (ht : t ≠ t') (a b : Value) : OwnE E t ((W.setCell ⟨g, 0, none⟩ a).setCell ⟨g, 1, none⟩ b) base v xs := by
  obtain ⟨x, y, hh⟩ := hb
  have hh : BoxIs g x y t' W := hh
  exact (h.setBox hh ht 0).setBox (hh.set0 a) ht 1
theorem step_append_G {α : Type} {E : El α} {w : World} {ops : Array Oper} {o : Oper} {a : Act} {K : Act → World → Prop} {Q : Exit → Act → World → Prop} {X : Prop} (hgd : o.guard = none) (s x : Operand) (T t : TypeId)
    (ho : o.op = .call { callee := .builtin .append, args := #[s, x], argTypes := #[T, T] }) {z : Value} {bytes : Nat}
    (hT : Tryz.prog.underlying T = some (.slice t)) (hinfo : (Tryz.prog.info? t).map (fun i => (i.zero, i.size, i.bytes)) = some (some z, E.size, bytes)) (hzc : z.cells.size = E.size) (hpos : 0 < E.size) (hby : bytes ≤ 1000)
    (base : Nat) (v : Value) (xs : List α) (hs : a.eval s = v) (hown : OwnE E t w base v xs) (ad : Addr) (c : Nat) (m : α) (hx : a.eval x = .slice (some ad) 1 c)
    (hc : ∀ j u, (E.enc m)[j]? = some u → w.cell? (ad.add j) = some u) (hl : xs.length ≤ 1000000) (hbase : base ≤ w.heap.size)
    (hK : ∀ v' w', OwnE E t w' base v' (xs ++ [m]) → Grow t base w w' → K (a.put o.dst v') w') : if Region.wanted o (yielded ops a.tmps) = true then Oper.wp Tryz.prog o a w K Q else X :=
  step_append_E hgd s x T t ho hT hinfo hzc hpos hby base v xs hs hown ad c m hx hc hl hbase fun v' w' h1 h2 h3 => hK v' w' h1 (Grow.own hown h2 h3)
theorem bcell {W w1 : World} (hb : Below W.heap.size W w1) : (∀ b o, b < W.heap.size → w1.cell? ⟨b, o, none⟩ = W.cell? ⟨b, o, none⟩) ∧ (∀ b o, b < W.heap.size → w1.frozen? ⟨b, o, none⟩ = W.frozen? ⟨b, o, none⟩) :=
  ⟨fun b o h => hb.cell (p := ⟨b, o, none⟩) h, fun b o h => hb.frozen (p := ⟨b, o, none⟩) h⟩

end Go.Proofs.YthnhacncnhknnaaGreatDoor

/-
  Arguments: a slice of plain elements, opened.
-/
namespace Go.Proofs.YthnhacncnhknnaaGreatDoor
open Go.RowKit

theorem laidOut : laidOutB Tryz.prog = true := by kernel_rfl
theorem ownNone : ownKnob Tryz.prog.godebug = none := by kernel_rfl
section
open Go.ChangeShapes Go.WideShapes Go.Deep

theorem open_E {α : Type} (E : El α) (G : α → Prop) (t T : TypeId) (hT : Tryz.prog.underlying T = some (.slice t)) (hc : Tryz.prog.cellsOf t = E.size) (hp : 0 < E.size) [Inhabited α]
    {H : Type} {enc : TypeId × Value → H} {W : World} (hdec : ∀ (fuel : Nat) (cs : List Value) (x : DataW H × List MemPlace), DataW.trod enc Tryz.prog W 0 (fun _ => true) true fuel t cs = some x → ∃ y, cs = E.enc y ∧ G y)
    {fuel : Nat} {cs : List Value} {x : DataW H × List MemPlace} (h : DataW.trod enc Tryz.prog W 0 (fun _ => true) true fuel T cs = some x) :
    ∃ (A : Option Addr) (xs : List α) (c : Nat), cs = [.slice A xs.length c] ∧ Reads E W W.heap.size A xs ∧ (∀ y ∈ xs, G y) ∧ xs.length ≤ c ∧ c ≤ maxLen := by
  rcases open_slice hT h with ⟨rfl, rfl⟩ | ⟨a, len, cap, m, n, D, Pl, rfl, _, hlc, hcm, hm, rfl, hi⟩
  · exact ⟨none, [], 0, rfl, .inl rfl, fun y hy => by simp at hy, by simp, by simp⟩
  · simp only [if_true] at hm
    subst hm
    have hget : ∀ i, ∃ y : α, i < len → G y ∧ ∀ j u, (E.enc y)[j]? = some u → W.cell? (a.add (i * E.size + j)) = some u := by
      intro i
      by_cases hil : i < len
      · obtain ⟨cs', hcs, ht⟩ := hi i (by omega)
        rw [hc] at hcs
        obtain ⟨_, hl2, hat⟩ := World.cells?_some hcs
        obtain ⟨y, rfl, hg⟩ := hdec _ _ _ ht
        refine ⟨y, fun _ => ⟨hg, fun j u hu => ?_⟩⟩
        have hj : j < E.size := by
          rw [← E.len y]
          rcases Nat.lt_or_ge j (E.enc y).length with h1 | h1
          · exact h1
          · rw [List.getElem?_eq_none h1] at hu; cases hu
        have := hat j hj
        rw [Addr.add_add] at this
        rw [this, hu]
      · exact ⟨default, fun h => absurd h hil⟩
    obtain ⟨f, hf⟩ := Classical.axiomOfChoice hget
    have hlf : ((List.range len).map f).length = len := by simp
    refine ⟨some a, (List.range len).map f, m, by rw [hlf], ?_, ?_, by omega, hcm⟩
    · by_cases h0 : len = 0
      · subst h0; exact .inl rfl
      · obtain ⟨b, off, spot⟩ := a
        obtain ⟨u, hu⟩ : ∃ u, (E.enc (f 0))[0]? = some u := ⟨_, List.getElem?_eq_getElem (by rw [E.len]; exact hp)⟩
        have hc0 := (hf 0 (by omega)).2 0 u hu
        have hspot : spot = none := by simpa [Addr.add] using World.cell?_spot hc0
        subst hspot
        have hb : b < W.heap.size := by
          have := World.block_lt_of_cell? W _ hc0
          simpa [Addr.add] using this
        refine .inr ⟨b, off, rfl, hb, fun i y hy j u hu => ?_⟩
        rw [List.getElem?_map, Option.map_eq_some_iff] at hy
        obtain ⟨i', hi', rfl⟩ := hy
        rw [List.getElem?_eq_some_iff] at hi'
        obtain ⟨h1, h2⟩ := hi'
        rw [List.getElem_range] at h2
        rw [List.length_range] at h1
        subst h2
        have := (hf i h1).2 j u hu
        rw [addr_plain] at this
        rw [show off + i * E.size + j = off + (i * E.size + j) by omega]
        exact this
    · intro y hy
      rw [List.mem_map] at hy
      obtain ⟨i, hi1, rfl⟩ := hy
      exact (hf i (by simpa using hi1)).1

end

end Go.Proofs.YthnhacncnhknnaaGreatDoor

/-
  Slices of structures that hold slices: what they read as, by an element's relation tq its cells.
-/
namespace Go.Proofs.YthnhacncnhknnaaGreatDoor
open Go.RowKit

/-- how an element lies in cells, where some of the cells lead on into memory below B -/
structure DEl (α : Type) where
  size : Nat
  rel : World → Nat → α → List Value → Prop
  len : ∀ {w B x cs}, rel w B x cs → cs.length = size
  below : ∀ {w w' B x cs}, rel w B x cs → Below B w w' → rel w' B x cs
  mono : ∀ {w B B' x cs}, rel w B x cs → B ≤ B' → rel w B' x cs

section
variable {α : Type} {D : DEl α}
/-- the slice at A reads as xs, in blocks below B -/
def DReads (D : DEl α) (w : World) (B : Nat) (A : Option Addr) (xs : List α) : Prop :=
  xs = [] ∨ ∃ b off, A = some ⟨b, off, none⟩ ∧ b < B ∧ ∀ i x, xs[i]? = some x → ∃ cs, D.rel w B x cs ∧ ∀ j u, cs[j]? = some u → w.cell? ⟨b, off + i * D.size + j, none⟩ = some u
theorem DReads.below {w w' : World} {B : Nat} {A : Option Addr} {xs : List α} (h : DReads D w B A xs) (hb : Below B w w') : DReads D w' B A xs := by
  rcases h with h | ⟨b, off, h1, h2, h3⟩
  · exact .inl h
  · refine .inr ⟨b, off, h1, h2, fun i x hx => ?_⟩
    obtain ⟨cs, k1, k2⟩ := h3 i x hx
    exact ⟨cs, D.below k1 hb, fun j u hu => (hb.cell (p := ⟨b, off + i * D.size + j, none⟩) h2).trans (k2 j u hu)⟩
theorem DReads.mono {w : World} {B B' : Nat} {A : Option Addr} {xs : List α} (h : DReads D w B A xs) (hb : B ≤ B') : DReads D w B' A xs := by
  rcases h with h | ⟨b, off, h1, h2, h3⟩
  · exact .inl h
  · refine .inr ⟨b, off, h1, by omega, fun i x hx => ?_⟩
    obtain ⟨cs, k1, k2⟩ := h3 i x hx
    exact ⟨cs, D.mono k1 hb, k2⟩
theorem DReads.up {w w' : World} {A : Option Addr} {xs : List α} (h : DReads D w w.heap.size A xs) (hb : Below w.heap.size w w') : DReads D w' w'.heap.size A xs := (h.below hb).mono hb.size
theorem DReads.at {w : World} {B : Nat} {A : Option Addr} {xs : List α} (h : DReads D w B A xs) {k : Nat} (hk : k < xs.length) :
    ∃ b off cs, A = some ⟨b, off, none⟩ ∧ b < B ∧ D.rel w B xs[k] cs ∧ ∀ j u, cs[j]? = some u → w.cell? ⟨b, off + k * D.size + j, none⟩ = some u := by
  rcases h with h | ⟨b, off, h1, h2, h3⟩
  · subst h; simp at hk
  · obtain ⟨cs, k1, k2⟩ := h3 k xs[k] (List.getElem?_eq_getElem hk)
    exact ⟨b, off, cs, h1, h2, k1, k2⟩
theorem DReads.take {w : World} {B : Nat} {A : Option Addr} {xs : List α} (h : DReads D w B A xs) (k : Nat) : DReads D w B A (xs.take k) := by
  rcases h with h | ⟨b, off, h1, h2, h3⟩
  · exact .inl (by rw [h]; simp)
  · refine .inr ⟨b, off, h1, h2, fun i x hx => h3 i x ?_⟩
    rw [List.getElem?_take] at hx
    split at hx
    · exact hx
    · cases hx
/-- a plain element -/
def El.deep (E : El α) : DEl α := ⟨E.size, fun _ _ x cs => cs = E.enc x, fun h => by rw [h]; exact E.len _, fun h _ => h, fun h _ => h⟩
theorem Reads.deep {E : El α} {w : World} {B : Nat} {A : Option Addr} {xs : List α} (h : Reads E w B A xs) : DReads E.deep w B A xs := by
  rcases h with h | ⟨b, off, h1, h2, h3⟩
  · exact .inl h
  · exact .inr ⟨b, off, h1, h2, fun i x hx => ⟨E.enc x, rfl, h3 i x hx⟩⟩
theorem DReads.plain {E : El α} {w : World} {B : Nat} {A : Option Addr} {xs : List α} (h : DReads E.deep w B A xs) : Reads E w B A xs := by
  rcases h with h | ⟨b, off, h1, h2, h3⟩
  · exact .inl h
  · refine .inr ⟨b, off, h1, h2, fun i x hx j u hu => ?_⟩
    obtain ⟨cs, k1, k2⟩ := h3 i x hx
    have k1 : cs = E.enc x := k1
    subst k1
    exact k2 j u hu

/-- raw elements that read as elements -/
theorem Reads.lift {β : Type} {E : El β} {w : World} {B : Nat} {A : Option Addr} {ys : List β} {xs : List α} (h : Reads E w B A ys) (hs : E.size = D.size) (hl : xs.length = ys.length) (hr : ∀ (i : Nat) (x : α) (y : β), xs[i]? = some x → ys[i]? = some y → D.rel w B x (E.enc y)) : DReads D w B A xs := by
  rcases h with h | ⟨b, off, h1, h2, h3⟩
  · subst h
    exact .inl (List.eq_nil_of_length_eq_zero hl)
  · refine .inr ⟨b, off, h1, h2, fun i x hx => ?_⟩
    have hi : i < ys.length := by
      obtain ⟨h4, _⟩ := List.getElem?_eq_some_iff.1 hx
      omega
    have hy : ys[i]? = some ys[i] := List.getElem?_eq_getElem hi
    exact ⟨E.enc ys[i], hr i x _ hx hy, fun j u hu => by rw [← hs]; exact h3 i _ hy j u hu⟩
end

section
open Go.ChangeShapes Go.WideShapes Go.Deep

end

end Go.Proofs.YthnhacncnhknnaaGreatDoor

/-
  Parts in memory: what reads as a list of parts, and one that a call made, whose rows lie apart.
-/
namespace Go.Proofs.YthnhacncnhknnaaGreatDoor
open Go.RowKit

def DPart : DEl Mo := ⟨2, fun w B x cs => ∃ A1 c1 A2 c2, cs = [.slice A1 x.ns.length c1, .slice A2 x.es.length c2] ∧ Ints w B A1 x.ns ∧ Ints w B A2 x.es,
  fun h => by obtain ⟨A1, c1, A2, c2, rfl, _⟩ := h; rfl, fun h hb => by obtain ⟨A1, c1, A2, c2, e, h1, h2⟩ := h; exact ⟨A1, c1, A2, c2, e, Reads.below h1 hb, Reads.below h2 hb⟩, fun h hb => by obtain ⟨A1, c1, A2, c2, e, h1, h2⟩ := h; exact ⟨A1, c1, A2, c2, e, h1.mono hb, h2.mono hb⟩⟩
abbrev Pts (w : World) (B : Nat) (A : Option Addr) (ps : List Mo) : Prop := DReads DPart w B A ps
def IsP (w : World) (v : Value) (ps : List Mo) : Prop := ∃ A c, v = .slice A ps.length c ∧ Pts w w.heap.size A ps
theorem IsP.up {w w' : World} {v : Value} {ps : List Mo} (h : IsP w v ps) (hb : Below w.heap.size w w') : IsP w' v ps := by
  obtain ⟨A, c, e, h⟩ := h
  exact ⟨A, c, e, h.up hb⟩
theorem isP_nil (w : World) : IsP w (.slice none 0 0) [] := ⟨none, 0, rfl, .inl rfl⟩
theorem infoPart : (Tryz.prog.info? 27).map (fun i => (i.zero, i.size, i.bytes)) = some (some (.agg #[.slice none 0 0, .slice none 0 0]), 2, 48) := by kernel_rfl

end Go.Proofs.YthnhacncnhknnaaGreatDoor

/-
  Graphs, the program: the checks of AddNode, AddEdge, Union, Incident.
-/
namespace Go.Proofs.YthnhacncnhknnaaGreatDoor
open Go.RowKit

theorem ne_beq {a b : Int} (h : a ≠ b) : (a == b) = false := beq_eq_false_iff_ne.2 h

end Go.Proofs.YthnhacncnhknnaaGreatDoor

/-
  Graphs: Valid of the reference.
-/
namespace Go.Proofs.YthnhacncnhknnaaGreatDoor
open Go.RowKit

set_option maxRecDepth 100000 in
set_option maxHeartbeats 2000000 in
theorem validR_any (g : Gr) (An : Option Addr) (cn : Nat) (Ae : Option Addr) (ce : Nat) (w : World) (hT : GrAt w An cn Ae ce g) :
    Calls Tryz.prog 37 #[gval An g.ns.length cn Ae g.es.length ce] w fun e w' => e = .returned (.int .i64 (validE g)) ∧ Below w.heap.size w w' := by
  have hn1 := hT.cn
  have he1 := hT.ce
  unfold maxLen at hn1 he1
  have HT := Lib.hid hT
  have HL := Lib.hid (fun h => valid_long (g := g) h)
  have HN := Lib.hid (fun h1 h2 i hi h => valid_node (g := g) h1 h2 (i := i) hi h)
  have HE := Lib.hid (fun h1 h2 i hi h => valid_edge (g := g) h1 h2 (i := i) hi h)
  have HO := Lib.hid (fun h1 h2 h3 h4 => valid_ok (g := g) h1 h2 h3 h4)
  clear hT
  generalize validE g = R at HL HN HE HO ⊢
  by_cases h40 : 40 < g.ns.length
  · have HR := Lib.hid (HL.out (.inl h40))
    have t1 : decide (40 < (g.ns.length : Int)) = true := decide_eq_true (by omega)
    go_enter Tryz.func37, Tryz.ntmps37
    go_wp2_with fail
    go_ret
    exact ⟨ret_int (by rw [HR.out]; rfl), (Below.refl _ _).alloc (Nat.le_refl _) _⟩
  by_cases h80 : 80 < g.es.length
  · have HR := Lib.hid (HL.out (.inr h80))
    have t1 : decide (40 < (g.ns.length : Int)) = false := decide_eq_false (by omega)
    have t2 : decide (80 < (g.es.length : Int)) = true := decide_eq_true (by omega)
    go_enter Tryz.func37, Tryz.ntmps37
    go_wp2_with fail
    go_ret
    exact ⟨ret_int (by rw [HR.out]; rfl), (Below.refl _ _).alloc (Nat.le_refl _) _⟩
  have n40 : g.ns.length ≤ 40 := by omega
  have n80 : g.es.length ≤ 80 := by omega
  have HN' := Lib.hid (HN.out n40 n80)
  have HE' := Lib.hid (HE.out n40 n80)
  have HO' := Lib.hid (HO.out n40 n80)
  clear HL HN HE HO
  have t1 : decide (40 < (g.ns.length : Int)) = false := decide_eq_false (by omega)
  have t2 : decide (80 < (g.es.length : Int)) = false := decide_eq_false (by omega)
  clear h40 h80
  go_enter Tryz.func37, Tryz.ntmps37
  go_wp2_with fail
  clear t1 t2
  go_loop [3] (fun i => ∃ k : Nat, k ≤ g.ns.length ∧ i = .int .i64 k ∧ ∀ j, j < k → idxB (g.ns.getD j 0) 100 = true) (fun i => g.ns.length - (intOf i).toNat)
  case atStart => exact ⟨0, Nat.zero_le _, rfl, fun j hj => by omega⟩
  case round =>
    obtain ⟨k, hk, rfl, hok⟩ := hrel
    have HK := Lib.hid hok
    clear hok
    by_cases hlt : k < g.ns.length
    · obtain ⟨b, off, rfl, hb, hc⟩ := Ints.cells HT.out.ns hlt
      have ck := hc k hlt
      have HC : Hid (∀ u, Calls Tryz.prog 55 #[.int .i64 (g.ns.getD k 0)] u fun e w' => e = .returned (.bool (idxB (g.ns.getD k 0) 100)) ∧ u = w') := Lib.hid fun u => kind_any _ u
      clear hc
      by_cases h1 : idxB (g.ns.getD k 0) 100 = true
      · have HK2 : Hid (∀ j, j < k + 1 → idxB (g.ns.getD j 0) 100 = true) := Lib.hid fun j hj => by
          by_cases e : j = k
          · subst e; exact h1
          · exact HK.out j (by omega)
        rw [h1] at HC
        clear h1
        generalize g.ns.getD k 0 = x at ck HC
        go_wp2_with fail
        refine (HC.out _).mono ?_
        rintro e w' ⟨rfl, rfl⟩
        go_wp2_with fail
        go_round
        case rel => exact ⟨k + 1, by omega, by go_num, HK2.out⟩
        case measure => simp [intOf]; omega
      · have h1' : idxB (g.ns.getD k 0) 100 = false := by simpa using h1
        have HR := Lib.hid (HN'.out k hlt h1')
        rw [h1'] at HC
        clear h1 h1'
        generalize g.ns.getD k 0 = x at ck HC
        go_wp2_with fail
        refine (HC.out _).mono ?_
        rintro e w' ⟨rfl, rfl⟩
        go_wp2_with fail
        go_ret
        exact ⟨ret_int (by rw [HR.out]; rfl), (Below.refl _ _).alloc (Nat.le_refl _) _⟩
    · have HO2 := Lib.hid (HO'.out fun i hi => HK.out i (by omega))
      clear HO' HK
      go_wp2_with fail
      go_loopw [4] (fun i wr => ∃ k : Nat, k ≤ g.es.length ∧ i = .int .i64 k ∧ (∀ j, j < k → edB (g.es.getD j default) g.ns.length = true) ∧ Below (w.heap.size + 1) (w.alloc (.cells #[.slice An g.ns.length cn, .slice Ae g.es.length ce] 25 (0, 0))) wr) (fun i _ => g.es.length - (intOf i).toNat)
      case atStart => exact ⟨0, Nat.zero_le _, rfl, fun j hj => by omega, Below.refl _ _⟩
      case round =>
        obtain ⟨k, hk, rfl, hok, hbel⟩ := hrel
        obtain ⟨c0, c1⟩ := box_cell hbel
        have HB := Lib.hid hbel
        have HK := Lib.hid hok
        clear hok
        by_cases hlt : k < g.es.length
        · obtain ⟨b, off, rfl, hb, hc⟩ := Eds.cells HT.out.es hlt
          obtain ⟨k0, k1, k2⟩ := hc k hlt
          have HD : Hid (∀ u, Below (w.heap.size + 1) (w.alloc (.cells #[.slice An g.ns.length cn, .slice (some ⟨b, off, none⟩) g.es.length ce] 25 (0, 0))) u → u.cell? ⟨b, off + k * 3, none⟩ = some (.int .i64 (g.es.getD k default).ty) ∧ u.cell? ⟨b, off + k * 3 + 1, none⟩ = some (.int .i64 (g.es.getD k default).fr) ∧ u.cell? ⟨b, off + k * 3 + 2, none⟩ = some (.int .i64 (g.es.getD k default).tq)) := Lib.hid fun u hu =>
            ⟨((box_below hu).cell (p := ⟨b, _, none⟩) hb).trans k0, ((box_below hu).cell (p := ⟨b, _, none⟩) hb).trans k1, ((box_below hu).cell (p := ⟨b, _, none⟩) hb).trans k2⟩
          have HS : Hid (∀ u, Below (w.heap.size + 1) (w.alloc (.cells #[.slice An g.ns.length cn, .slice (some ⟨b, off, none⟩) g.es.length ce] 25 (0, 0))) u → (u.cell? ⟨w.heap.size, 0, none⟩ = some (.slice An g.ns.length cn) ∧ u.cell? ⟨w.heap.size, 1, none⟩ = some (.slice (some ⟨b, off, none⟩) g.es.length ce)) ∧ (u.cell? ⟨b, off + k * 3, none⟩ = some (.int .i64 (g.es.getD k default).ty) ∧ u.cell? ⟨b, off + k * 3 + 1, none⟩ = some (.int .i64 (g.es.getD k default).fr) ∧ u.cell? ⟨b, off + k * 3 + 2, none⟩ = some (.int .i64 (g.es.getD k default).tq)) ∧ Below (w.heap.size + 1) (w.alloc (.cells #[.slice An g.ns.length cn, .slice (some ⟨b, off, none⟩) g.es.length ce] 25 (0, 0))) u) := Lib.hid fun u hu => ⟨box_cell hu, HD.out u hu, hu⟩
          have HC : Hid (∀ u, Below (w.heap.size + 1) (w.alloc (.cells #[.slice An g.ns.length cn, .slice (some ⟨b, off, none⟩) g.es.length ce] 25 (0, 0))) u → Calls Tryz.prog 56 #[edv (g.es.getD k default), .int .i64 (g.ns.length : Int)] u fun e w' => e = .returned (.bool (edB (g.es.getD k default) g.ns.length)) ∧ ((w'.cell? ⟨w.heap.size, 0, none⟩ = some (.slice An g.ns.length cn) ∧ w'.cell? ⟨w.heap.size, 1, none⟩ = some (.slice (some ⟨b, off, none⟩) g.es.length ce)) ∧ (w'.cell? ⟨b, off + k * 3, none⟩ = some (.int .i64 (g.es.getD k default).ty) ∧ w'.cell? ⟨b, off + k * 3 + 1, none⟩ = some (.int .i64 (g.es.getD k default).fr) ∧ w'.cell? ⟨b, off + k * 3 + 2, none⟩ = some (.int .i64 (g.es.getD k default).tq)) ∧ Below (w.heap.size + 1) (w.alloc (.cells #[.slice An g.ns.length cn, .slice (some ⟨b, off, none⟩) g.es.length ce] 25 (0, 0))) w')) := Lib.hid fun u hu => by
            refine (right_any (g.es.getD k default) g.ns.length u).mono ?_
            rintro e w' ⟨rfl, hb⟩
            exact ⟨rfl, HS.out w' (hu.trans (hb.mono (by have := hu.size; simpa using this)))⟩
          have HS1 := Lib.hid (HS.out _ (Below.drew hbel))
          have i0 : (0 : Int) ≤ (k : Int) := by omega
          have i1 : (k : Int) < (g.es.length : Int) := by omega
          have i2 : ((k : Int)).toNat = k := by omega
          clear hc hbel k0 k1 k2 HD
          by_cases h1 : edB (g.es.getD k default) g.ns.length = true
          · have HK2 : Hid (∀ j, j < k + 1 → edB (g.es.getD j default) g.ns.length = true) := Lib.hid fun j hj => by
              by_cases e : j = k
              · subst e; exact h1
              · exact HK.out j (by omega)
            rw [h1] at HC
            clear h1
            generalize g.es.getD k default = x at HC HS HS1
            clear HS
            go_wp2_with fail
            go_region_held3 (fun u => (u.cell? ⟨w.heap.size, 0, none⟩ = some (.slice An g.ns.length cn) ∧ u.cell? ⟨w.heap.size, 1, none⟩ = some (.slice (some ⟨b, off, none⟩) g.es.length ce)) ∧ (u.cell? ⟨b, off + k * 3, none⟩ = some (.int .i64 x.ty) ∧ u.cell? ⟨b, off + k * 3 + 1, none⟩ = some (.int .i64 x.fr) ∧ u.cell? ⟨b, off + k * 3 + 2, none⟩ = some (.int .i64 x.tq)) ∧ Below (w.heap.size + 1) (w.alloc (.cells #[.slice An g.ns.length cn, .slice (some ⟨b, off, none⟩) g.es.length ce] 25 (0, 0))) u)
              (first | assumption | exact HS1.out)
              ((with_reducible refine (HC.out _ (by first | assumption | exact HS1.out.2.2)).mono ?_; rintro e w3 ⟨rfl, hs3⟩; have hq3 := hs3.2.2))
            all_goals
              have HB2 := Lib.hid (show Below (w.heap.size + 1) (w.alloc (.cells #[.slice An g.ns.length cn, .slice (some ⟨b, off, none⟩) g.es.length ce] 25 (0, 0))) _ by assumption)
              go_wp2_with fail
              go_roundw
              case rel => exact ⟨k + 1, by omega, by go_num, HK2.out, HB2.out⟩
              case measure => simp [intOf]; omega
          · have h1' : edB (g.es.getD k default) g.ns.length = false := by simpa using h1
            have HR := Lib.hid (HE'.out k hlt h1')
            rw [h1'] at HC
            clear h1 h1'
            generalize g.es.getD k default = x at HC HS HS1
            clear HS
            go_wp2_with fail
            go_region_held3 (fun u => (u.cell? ⟨w.heap.size, 0, none⟩ = some (.slice An g.ns.length cn) ∧ u.cell? ⟨w.heap.size, 1, none⟩ = some (.slice (some ⟨b, off, none⟩) g.es.length ce)) ∧ (u.cell? ⟨b, off + k * 3, none⟩ = some (.int .i64 x.ty) ∧ u.cell? ⟨b, off + k * 3 + 1, none⟩ = some (.int .i64 x.fr) ∧ u.cell? ⟨b, off + k * 3 + 2, none⟩ = some (.int .i64 x.tq)) ∧ Below (w.heap.size + 1) (w.alloc (.cells #[.slice An g.ns.length cn, .slice (some ⟨b, off, none⟩) g.es.length ce] 25 (0, 0))) u)
              (first | assumption | exact HS1.out)
              ((with_reducible refine (HC.out _ (by first | assumption | exact HS1.out.2.2)).mono ?_; rintro e w3 ⟨rfl, hs3⟩; have hq3 := hs3.2.2))
            all_goals
              have HB2 := Lib.hid (show Below (w.heap.size + 1) (w.alloc (.cells #[.slice An g.ns.length cn, .slice (some ⟨b, off, none⟩) g.es.length ce] 25 (0, 0))) _ by assumption)
              go_wp2_with fail
              go_ret
              exact ⟨ret_int (by rw [HR.out]; rfl), box_below HB2.out⟩
        · have HR := Lib.hid (HO2.out fun i hi => HK.out i (by omega))
          clear hbel
          go_wp2_with fail
          go_ret
          exact ⟨ret_int (by rw [HR.out]; rfl), box_below HB.out⟩

end Go.Proofs.YthnhacncnhknnaaGreatDoor

/-
  Rows that grow beside one another: append of many, and where the new row lies; slices.Sort of a row.
-/
namespace Go.Proofs.YthnhacncnhknnaaGreatDoor
open Go.RowKit

/-! slices.Sort -/
def srt (xs : List Int) : List Int := xs.mergeSort fun x y => decide (x ≤ y)
theorem srt_len (xs : List Int) : (srt xs).length = xs.length := List.length_mergeSort _
theorem sort_any (base : Nat) (v : Value) (xs : List Int) (w : World) (h : OwnI w base v xs) (hl : xs.length ≤ 1000000) :
    Calls Tryz.prog 66 #[v] w fun e w' => e = .returned (.tuple #[]) ∧ OwnI w' base v (srt xs) ∧ w.grownBy w' v.ownBlock := by
  have hc : cellsE EInt xs = xs.map (Value.int .i64) := cellsE_int xs
  have hc2 : cellsE EInt (srt xs) = (srt xs).map (Value.int .i64) := cellsE_int _
  have h0 := h
  rcases h0.2 with ⟨e, hn⟩ | ⟨g, cap, cur, e, hbg, hg, h1, h2, h3, h4⟩
  · have hx : xs = [] := List.eq_nil_of_length_eq_zero hn
    subst hx e
    refine (Tryz.slices_Sort_int_none none 0 w).mono ?_
    rintro e w' ⟨rfl, rfl⟩
    exact ⟨rfl, by rw [show srt [] = [] from List.mergeSort_nil]; exact h, grown_refl _ _⟩
  · subst e
    have hH := holds_of_blockI (ss := xs) hg (by rw [← hc, ← h4, show EInt.size = 1 from rfl, Nat.mul_one])
    refine (Tryz.slices_Sort_int g 0 cap xs w hH (Array.getElem?_eq_some_iff.1 hg).1 (by omega)).mono ?_
    rintro e w' ⟨rfl, n, os, rfl⟩
    refine ⟨rfl, ?_, grownBy_sortedI _⟩
    unfold OwnI OwnE
    rw [hc2, srt_len]
    exact ownsRow_sortedI (srt_len xs) hbg hg h1 h2 h3

end Go.Proofs.YthnhacncnhknnaaGreatDoor

/-
  countImages: the number of different images.
-/
namespace Go.Proofs.YthnhacncnhknnaaGreatDoor
open Go.RowKit Go.Shelf

attribute [local go_sem] Oper.semAt_some

/-- what slices.Values hands over -/
def RVal (x : Int) (G : Blks) (_ : World) (vs : Array Value) : Prop := (∀ b, ¬ G b) ∧ vs = #[.int .i64 x]
theorem take_next {xs : List Int} {k : Nat} (h : k < xs.length) : xs.take k ++ [xs.getD k 0] = xs.take (k + 1) := by
  rw [List.take_add_one, List.getElem?_eq_getElem h, List.getD_eq_getElem?_getD, List.getElem?_eq_getElem h]; rfl

set_option maxRecDepth 100000 in
set_option maxHeartbeats 2000000 in
theorem values_visits (xs : List Int) (hl : xs.length ≤ 1000) (vb : Nat) (A : Option Addr) (c : Nat) (w : World) (hb : Boxed w vb 22 (.slice A xs.length c)) (hA : Ints w w.heap.size A xs) :
    Visits Tryz.prog 67 #[] #[.pointer (some ⟨vb, 0, none⟩)] xs RVal (fun b => b = vb ∨ ∃ o, xs ≠ [] ∧ A = some ⟨b, o, none⟩) w := by
  intro l J Jx H W hW hJ hJx hO hY h0
  have HY := Lib.hid hY
  have HA := Lib.hid (Reads.up hA hW)
  have HO := Lib.hid hO
  have HLB : Hid (∀ b o, xs ≠ [] → A = some ⟨b, o, none⟩ → b < W.heap.size) := Lib.hid fun b o hn e => by
    rcases Reads.up hA hW with h | ⟨b2, o2, e2, hb2, _⟩
    · exact absurd h hn
    · rw [e] at e2; injection e2 with e2; injection e2 with e2; omega
  have c1 := (show Boxed W vb 22 (.slice A xs.length c) from heap_up hW hb).cell
  have hl0 : (xs.length : Int) ≤ 1000 := by omega
  clear hY hA hO hb hW
  refine (callsIn_wide (n := 3)).1 ?_
  refine callsIn_of_wp Tryz.func67 rfl trivial ?_ rfl
  simp only [Tryz.ntmps67, List.size_toArray, List.length_cons, List.length_nil, Nat.reduceAdd, Nat.reduceSub, Array.replicate_succ, Array.replicate_zero, List.push_toArray, List.append_toArray, List.nil_append, List.cons_append]
  gi_wp2
  clear c1
  gi_loopw [7] (fun v wr => ∃ (k : Nat) (H' : Blks), k ≤ xs.length ∧ v = .int .i64 (k : Int) ∧ J (xs.take k) H' wr ∧ Keeps H W wr ∧ ∀ b, H' b → H b ∨ W.heap.size ≤ b)
    (fun v _ => xs.length - (intOf v).toNat)
  case atStart => exact ⟨0, H, Nat.zero_le _, rfl, h0, Keeps.refl _ _, fun b h => .inl h⟩
  case round =>
    obtain ⟨k, H', hk, rfl, hj, hkp, hg⟩ := hrel
    by_cases hlt : k < xs.length
    · obtain ⟨b, off, hAe, hbl, hc⟩ := Ints.cells HA.out hlt
      have ck : wr.cell? ⟨b, off + k, none⟩ = some (.int .i64 (xs.getD k 0)) := (cell_heap (p := ⟨b, off + k, none⟩) (hkp.block b hbl (HO.out b (.inr ⟨off, (fun e => by rw [e] at hlt; simp at hlt), hAe⟩)))).trans (hc k hlt)
      obtain ⟨fn, tmps, assign, body, hy, hR⟩ := YieldAt.anyDepth rfl 2 (HY.out (xs.take k) (xs.getD k 0) H' wr (fun _ => False) #[.int .i64 (xs.getD k 0)] hj (by rw [take_next hlt]; exact List.take_prefix _ _) ⟨fun _ h => h, rfl⟩ (fun _ h => h.elim))
      rw [take_next hlt] at hR
      have HK := Lib.hid hkp
      have HG := Lib.hid hg
      have HLT := Lib.hid hlt
      have k0 : (0 : Int) ≤ (k : Int) := by omega
      have k1 : (k : Int) < (xs.length : Int) := by omega
      have k2 : ((k : Int)).toNat = k := by omega
      have HM : Hid (xs.length - ((k : Int) + 1).toNat < xs.length - ((k : Int)).toNat) := Lib.hid (by omega)
      clear hkp hg hj hc hbl
      subst hAe
      generalize xs.getD k 0 = x at *
      gi_wp2
      refine hR.mono ?_
      rintro e W3 ⟨hk3, H3, hg3, (⟨rfl, hj3⟩ | ⟨rfl, hj3⟩)⟩
      · obtain ⟨hk4, hg4⟩ := keeps_turn HK.out HG.out (G := fun _ => False) (fun _ h => h.elim) hk3 hg3
        clear hk3 hg3
        gi_wp2
        go_roundw
        case rel => exact ⟨k + 1, H3, HLT.out, by go_num, hj3, hk4, hg4⟩
        case measure => exact HM.out
      · obtain ⟨hk4, hg4⟩ := keeps_turn HK.out HG.out (G := fun _ => False) (fun _ h => h.elim) hk3 hg3
        clear hk3 hg3
        gi_wp2
        refine bodyPost_ret (results_none rfl _ _ _) rfl ?_
        exact ⟨⟨_, rfl⟩, hk4, H3, hg4, .inr hj3⟩
    · obtain rfl : k = xs.length := by omega
      rw [List.take_length] at hj
      gi_wp2
      go_end0
      exact ⟨⟨_, rfl⟩, hkp, H', hg, .inl hj⟩

theorem values_any (A : Option Addr) (n c : Nat) (w : World) : Calls Tryz.prog 51 #[.slice A n c] w fun e w' => e = .returned (.func (.func 67) #[] #[.pointer (some ⟨w.heap.size, 0, none⟩)]) ∧ w' = w.alloc (.cells #[.slice A n c] 22) := by
  go_enter Tryz.func51, Tryz.ntmps51
  go_wp2
  go_ret
  exact ⟨rfl, rfl⟩

/-- what the rounds of AppendSeq hold -/
def SeqJ (base sb : Nat) (pre : List Int) (H : Blks) (V : World) : Prop :=
  ∃ v, Boxed V sb 22 v ∧ OwnI V base v pre ∧ H sb ∧ (∀ b, v.ownBlock = some b → H b) ∧ (∀ b, H b → b < V.heap.size) ∧ (∀ b, H b → base ≤ b) ∧ v.ownBlock ≠ some sb
theorem SeqJ.foot {Rd : Blks} {base sb : Nat} {pre : List Int} : Foot Rd (SeqJ base sb pre) := by
  rintro H V ⟨v, h1, h2, h3, h4, h5, h6, h7⟩
  exact ⟨h5, fun V' hs hb => ⟨v, (hb _ (.inl h3)).trans h1, OwnE.same h2 fun g hg => hb g (.inl (h4 g hg)), h3, h4, fun b h => Nat.lt_of_lt_of_le (h5 b h) hs, h6, h7⟩⟩
theorem seq_next {base sb : Nat} {pre : List Int} {H : Blks} {U Wa w' : World} {v v' : Value} {x : Int} (h1 : Boxed U sb 22 v) (h3 : H sb) (h4 : ∀ b, v.ownBlock = some b → H b) (h5 : ∀ b, H b → b < U.heap.size) (h6 : ∀ b, H b → base ≤ b) (h7 : v.ownBlock ≠ some sb)
    (hW : Below U.heap.size U Wa) (ho : OwnI w' base v' (pre ++ [x])) (hgr : Wa.grownBy w' v.ownBlock) (hv' : v'.ownBlock = v.ownBlock ∨ ∃ h, v'.ownBlock = some h ∧ Wa.heap.size ≤ h) :
    Keeps (fun b => H b ∨ False) U (w'.setCell ⟨sb, 0, none⟩ v') ∧ ∃ H', (∀ b, H' b → (H b ∨ False) ∨ U.heap.size ≤ b) ∧ SeqJ base sb (pre ++ [x]) H' (w'.setCell ⟨sb, 0, none⟩ v') := by
  have s1 := hW.size
  have s2 := hgr.size
  have sz : (w'.setCell ⟨sb, 0, none⟩ v').heap.size = w'.heap.size := by simp [World.setCell]
  have hsl := h5 _ h3
  have hbx : w'.heap[sb]? = some (.cells #[v] 22 (0, 0)) := (hgr.block sb (by omega) (fun e => h7 e.symm)).trans ((hW.block sb hsl).trans h1)
  have h7' : v'.ownBlock ≠ some sb := by
    rcases hv' with e | ⟨h, e, hl⟩
    · rw [e]; exact h7
    · rw [e]; intro e2; injection e2 with e2; omega
  have hlt := OwnE.lt ho
  refine ⟨⟨hgr.os.trans hW.os, hgr.tape.trans hW.tape, hgr.output.trans hW.output, by omega, fun b hb hn => ?_⟩, fun b => H b ∨ v'.ownBlock = some b, fun b hb => ?_, v', heap_setCell_same w' sb 0 _ _ v' hbx, OwnE.same ho fun g hg => heap_setCell_other _ _ _ _ (fun e => h7' (by rw [hg]; exact congrArg some e)), .inl h3, fun b hb => .inr hb, fun b hb => ?_, fun b hb => ?_, h7'⟩
  · exact (heap_setCell_other _ _ _ _ (fun e => hn (.inl (by rw [show b = sb from e]; exact h3)))).trans ((hgr.block b (by omega) (fun e => hn (.inl (h4 b e.symm)))).trans (hW.block b hb))
  · rcases hb with hb | hb
    · exact .inl (.inl hb)
    · rcases hv' with e | ⟨h, e, hl⟩
      · exact .inl (.inl (h4 b (e ▸ hb)))
      · rw [e] at hb; injection hb with hb; exact .inr (by omega)
  · rcases hb with hb | hb
    · have := h5 b hb; omega
    · have := (hlt b hb).2; omega
  · rcases hb with hb | hb
    · exact h6 b hb
    · exact (hlt b hb).1

set_option maxRecDepth 100000 in
set_option maxHeartbeats 2000000 in
theorem appendSeq_any (xs : List Int) (hl : xs.length ≤ 1000) (gf : Nat) (lb : Array Value) (O : Blks) (w : World) (eg : ∀ args u, (callFunc gf args).run Tryz.prog u = .ok (.enter gf args) u) (hO : ∀ b, O b → b < w.heap.size) (hv : ∀ u, Below w.heap.size w u → Visits Tryz.prog gf #[] lb xs RVal O u) :
    Calls Tryz.prog 84 #[.slice none 0 0, .func (.func gf) #[] lb] w fun e w' => ∃ v, e = .returned v ∧ OwnI w' w.heap.size v xs ∧ Below w.heap.size w w' := by
  have HV := Lib.hid hv
  have HO := Lib.hid hO
  have HEG := Lib.hid eg
  clear hv hO eg
  refine (callsIn_wide (n := 6)).1 ?_
  refine callsIn_of_wp_marks Tryz.func84 rfl trivial ?_ rfl
  simp only [Tryz.ntmps84, List.size_toArray, List.length_cons, List.length_nil, Nat.reduceAdd, Nat.reduceSub, Array.replicate_succ, Array.replicate_zero, List.push_toArray, List.append_toArray, List.nil_append, List.cons_append]
  gi_upto_region 1 with fail
  generalize hW0 : w.alloc _ = W0
  have hB0 : Below w.heap.size w W0 := by rw [← hW0]; exact (Below.refl _ _).alloc (Nat.le_refl _) _
  have b0 : Boxed W0 w.heap.size 22 (.slice none 0 0) := by rw [← hW0]; exact Boxed.new w _ _
  have hs0 : W0.heap.size = w.heap.size + 1 := by rw [← hW0]; simp
  clear hW0
  have HB0 := Lib.hid hB0
  have HS0 := Lib.hid hs0
  obtain ⟨sb, hsb⟩ : ∃ sb, sb = w.heap.size := ⟨_, rfl⟩
  rw [← hsb] at b0
  have hJ0 : SeqJ w.heap.size sb [] (fun k => k = sb) W0 := ⟨_, b0, OwnE.nil _ _ _, rfl, fun k h => (by cases h), fun k h => by subst h; omega, fun k h => by subst h; omega, by simp [Value.ownBlock]⟩
  have HSB := Lib.hid hsb
  have HJ0 := Lib.hid hJ0
  clear hJ0 b0 hB0 hs0 hsb
  gi_wp2
  rw [← HSB.out]
  have hsb := HSB.out
  refine wpIn_visits (gf := gf) (ba := #[]) (lb := lb) rfl HEG.out (HV.out W0 HB0.out) (fun x G V vs h => by rw [h.2]; rfl)
    (SeqJ w.heap.size sb) (fun _ _ _ => False) (fun _ => SeqJ.foot) (fun _ => foot_false _) (fun k => k = sb) HJ0.out ?hO ?round ?done ?stop
  case hO => exact fun k h => ⟨fun h2 => by have := HO.out k h; omega, by have := HO.out k h; have := HS0.out; omega⟩
  case round =>
    rintro l pre x H G vs V K hl2 ⟨r0, hr⟩ hHl hGl ⟨v, h1, h2, h3, h4, h5, h6, h7⟩ hx ⟨hG0, rfl⟩ hGa hK
    clear hsb
    dsimp only
    gi_wp2
    refine hK _ _ (Keeps.refl _ _) fun r => ?_
    have hu : ∀ k, k ≠ l → (V.putObj l (.loop r)).heap[k]? = V.heap[k]? := fun k h => World.putObj_heap_other h
    have hsz : V.heap.size = (V.putObj l (.loop r)).heap.size := by simp
    have nl : ∀ k, H k → k ≠ l := fun k h e => hHl (e ▸ h)
    have g1 : Boxed (V.putObj l (.loop r)) sb 22 v := (hu sb (nl _ h3)).trans h1
    have g2 : OwnI (V.putObj l (.loop r)) w.heap.size v pre := OwnE.same h2 fun g hg => hu g (nl _ (h4 g hg))
    rw [hsz] at h5 ⊢
    generalize V.putObj l (.loop r) = U at *
    obtain ⟨rA, rc, hve⟩ := OwnE.slice g2
    have HH := Lib.hid (show Boxed U sb 22 v ∧ H sb ∧ (∀ b, v.ownBlock = some b → H b) ∧ (∀ b, H b → b < U.heap.size) ∧ (∀ b, H b → w.heap.size ≤ b) ∧ v.ownBlock ≠ some sb from ⟨g1, h3, h4, h5, h6, h7⟩)
    have hxl : pre.length < 1000 := by have := hx.length_le; simp at this; omega
    have HOA := Lib.hid (OwnE.alloc g2 (.cells #[.int .i64 x] 3))
    have HCA : Hid ((U.alloc (.cells #[.int .i64 x] 3)).cell? ⟨U.heap.size, 0, none⟩ = some (.int .i64 x)) := Lib.hid (cell_new _ _ _)
    have HBA : Hid (Below U.heap.size U (U.alloc (.cells #[.int .i64 x] 3))) := Lib.hid ((Below.refl _ _).alloc (Nat.le_refl _) _)
    have HWU : Hid (w.heap.size ≤ U.heap.size) := Lib.hid (by have := h5 _ h3; have := h6 _ h3; omega)
    have HXL := Lib.hid hxl
    subst hve
    have x1 := g1.cell
    have x1f := g1.frozen
    have HG0 : Hid (G = fun _ => False) := Lib.hid (by funext k; exact propext ⟨fun h => hG0 k h, fun h => h.elim⟩)
    clear h1 h2 h3 h4 h5 h6 h7 g1 g2 hu nl hsz hx hr hHl hGl hGa hK hl2 hxl hG0
    gi_wp2_with (first | (with_reducible refine wpListIn_append_both rfl _ _ rfl w.heap.size (.slice rA pre.length rc) pre rfl HOA.out U.heap.size 1 x rfl HCA.out (by have := HXL.out; omega) (Nat.le_trans HWU.out HBA.out.size) ?_) | (intro v' w2 r1 r2 r3 r4; have q7 : Boxed w2 sb 22 (.slice rA pre.length rc) := (r3.block sb (Nat.lt_of_lt_of_le (HH.out.2.2.2.1 _ HH.out.2.1) HBA.out.size) (fun e => HH.out.2.2.2.2.2 e.symm)).trans ((HBA.out.block sb (HH.out.2.2.2.1 _ HH.out.2.1)).trans HH.out.1); have q7c := q7.cell; have q7f := q7.frozen; have HEND := Lib.hid (seq_next HH.out.1 HH.out.2.1 HH.out.2.2.1 HH.out.2.2.2.1 HH.out.2.2.2.2.1 HH.out.2.2.2.2.2 HBA.out r1 r3 (r4.imp And.left (fun ⟨h, e1, e2⟩ => ⟨h, e1, by rw [size_alloc]; exact e2⟩))); obtain ⟨a6, c6, hv6⟩ := OwnE.slice r1; subst hv6; clear r1 r2 r3 r4 q7))
    have hE := HEND.out
    rw [show (pre ++ [x]).length = pre.length + 1 by simp] at hE
    rw [HG0.out]
    exact hE
  case done =>
    rintro D H Wf hD hHD hg ⟨v, h1, h2, h3, h4, h5, h6, h7⟩ hk hKd
    have x1 := h1.cell
    have nD : ∀ k, H k → k ≠ D := fun k h e => hHD (by rw [← e]; exact h)
    have HKD := Lib.hid hKd
    have HB : Hid (Below w.heap.size w (Wf.putObj D (.deferred none))) := by
      have h1 : Below w.heap.size w Wf := HB0.out.trans (hk.below HB0.out.size fun i hi h => by omega)
      exact Lib.hid (h1.trans ⟨rfl, rfl, rfl, by simp, fun k hk => World.putObj_heap_other (by have := HB0.out.size; omega)⟩)
    have HOW : Hid (OwnI (Wf.putObj D (.deferred none)) w.heap.size v xs) := Lib.hid (OwnE.same h2 fun g hg => World.putObj_heap_other (nD _ (h4 g hg)))
    clear h1 h2 h3 h4 h5 h6 h7 hk hKd hg hHD nD hsb
    obtain ⟨rA, rc, hve⟩ := OwnE.slice HOW.out
    subst hve
    gi_wp2
    refine ⟨by simp, .inl ⟨_, _, rfl, run_takeDeferred HKD.out, ?_⟩⟩
    exact ⟨_, by simp [results, Tryz.results84, go_sem], _, rfl, HOW.out, HB.out⟩
  case stop => exact fun _ _ _ _ _ _ _ h => h.elim

theorem collect_any (xs : List Int) (hl : xs.length ≤ 1000) (gf : Nat) (lb : Array Value) (O : Blks) (w : World) (eg : ∀ args u, (callFunc gf args).run Tryz.prog u = .ok (.enter gf args) u) (hO : ∀ b, O b → b < w.heap.size) (hv : ∀ u, Below w.heap.size w u → Visits Tryz.prog gf #[] lb xs RVal O u) :
    Calls Tryz.prog 65 #[.func (.func gf) #[] lb] w fun e w' => ∃ v, e = .returned v ∧ OwnI w' w.heap.size v xs ∧ Below w.heap.size w w' := by
  have HA := Lib.hid (appendSeq_any xs hl gf lb O w eg hO hv)
  clear hv eg hO
  go_enter Tryz.func65, Tryz.ntmps65
  go_wp2_with (go_at_call 84; refine HA.out.mono ?_; rintro e w1 ⟨v, rfl, ho, hb⟩; obtain ⟨ao, c, rfl⟩ := OwnE.slice ho)
  go_ret
  exact ⟨_, rfl, ho, hb⟩

theorem sorted_any (xs : List Int) (hl : xs.length ≤ 1000) (gf : Nat) (lb : Array Value) (O : Blks) (w : World) (eg : ∀ args u, (callFunc gf args).run Tryz.prog u = .ok (.enter gf args) u) (hO : ∀ b, O b → b < w.heap.size) (hv : ∀ u, Below w.heap.size w u → Visits Tryz.prog gf #[] lb xs RVal O u) :
    Calls Tryz.prog 50 #[.func (.func gf) #[] lb] w fun e w' => ∃ v, e = .returned v ∧ OwnI w' w.heap.size v (srt xs) ∧ Below w.heap.size w w' := by
  have HA := Lib.hid (collect_any xs hl gf lb O w eg hO hv)
  clear hv eg hO
  go_enter Tryz.func50, Tryz.ntmps50
  go_wp2_with (go_at_call 65; refine HA.out.mono ?_; rintro e w1 ⟨v, rfl, ho, hb⟩; obtain ⟨ao, c, rfl⟩ := OwnE.slice ho)
  have HB := Lib.hid hb
  have HS := Lib.hid (sort_any _ _ xs w1 ho (by omega))
  have HO := Lib.hid ho
  clear ho hb
  go_wp2_with (go_at_call 66; refine HS.out.mono ?_; rintro e w2 ⟨rfl, h2, h3⟩)
  go_ret
  exact ⟨_, rfl, h2, HB.out.grown h3 HB.out.size (fun k hk => (OwnE.lt HO.out k hk).1)⟩

theorem compactTo_le (d : Array Int) (m : Nat) : (Lib.compactUpTo d m).length ≤ m := by
  induction m with
  | zero => simp [Lib.compactUpTo]
  | succ m ih =>
    rw [Lib.compactUpTo_succ, List.length_append]
    split <;> simp <;> omega
theorem compactO_any (base : Nat) (v : Value) (zs : List Int) (w : World) (h : OwnI w base v zs) (hl : zs.length ≤ 1000) :
    Calls Tryz.prog 49 #[v] w fun e w' => ∃ v', e = .returned v' ∧ OwnI w' base v' (Lib.compact zs) ∧ Below base w w' := by
  have hc : cellsE EInt zs = zs.map (Value.int .i64) := cellsE_int zs
  have hc2 : cellsE EInt (Lib.compact zs) = (Lib.compact zs).map (Value.int .i64) := cellsE_int _
  have h0 := h
  rcases h0.2 with ⟨e, hn⟩ | ⟨g, cap, cur, e, hbg, hg, h1, h2, h3, h4⟩
  · have hx : zs = [] := List.eq_nil_of_length_eq_zero hn
    subst hx e
    refine (Tryz.slices_Compact_int_empty none 0 w).mono ?_
    rintro e w' ⟨rfl, rfl⟩
    exact ⟨_, rfl, h, Below.refl _ _⟩
  · subst e
    have hH := holds_of_blockI (ss := zs) hg (by rw [← hc, ← h4, show EInt.size = 1 from rfl, Nat.mul_one])
    have hle : (Lib.compact zs).length ≤ zs.length := compactTo_le zs.toArray zs.length
    refine (Tryz.slices_Compact_int g 0 cap zs w hH (by omega) h1).mono ?_
    rintro e w' ⟨rfl, q, rfl⟩
    refine ⟨_, rfl, ?_, Lib.below_putRow (Below.refl _ _) hbg⟩
    have hb := heap_sortedI (n := q) (os := #[]) (Lib.compact zs ++ List.replicate (zs.length - (Lib.compact zs).length) 0).toArray hg
    rw [Sort.grow_empty] at hb
    have h3' : cur.size = cap := by rw [h3]; exact Nat.mul_one _
    have ht := take_putCellsI cur (Lib.compact zs ++ List.replicate (zs.length - (Lib.compact zs).length) 0) (by simp; omega)
    unfold OwnI OwnE
    rw [hc2]
    refine ⟨by simp [EInt], .inr ⟨g, cap, _, rfl, hbg, hb, Nat.le_trans hle h1, h2, by simp [Sort.putCells, h3], ?_⟩⟩
    rw [show EInt.size = 1 from rfl, Nat.mul_one]
    have e1 := congrArg (List.take (Lib.compact zs).length) ht
    rw [List.take_take, Nat.min_eq_left (by simp), ← List.map_take, List.take_left'  rfl] at e1
    exact e1

/-- index.Distinct: the numbers of a list, ascending and each of them once -/
theorem distinctG_any (xs : List Int) (A : Option Addr) (c : Nat) (w : World) (hl : xs.length ≤ 1000) (hA : Ints w w.heap.size A xs) :
    Calls Tryz.prog 30 #[.slice A xs.length c] w fun e w' => ∃ v, e = .returned v ∧ OwnI w' w.heap.size v (Lib.compact (srt xs)) ∧ Below w.heap.size w w' := by
  have hb0 : Below w.heap.size w (w.alloc (.cells #[.slice A xs.length c] 22)) := (Below.refl _ _).alloc (Nat.le_refl _) _
  have HB0 := Lib.hid hb0
  have HVA := Lib.hid (values_any A xs.length c w)
  have HS := Lib.hid (sorted_any xs hl 67 #[.pointer (some ⟨w.heap.size, 0, none⟩)] (fun b => b = w.heap.size ∨ ∃ o, xs ≠ [] ∧ A = some ⟨b, o, none⟩) (w.alloc (.cells #[.slice A xs.length c] 22)) (enters_of Tryz.func67 (by kernel_rfl) rfl) (fun b h => by
    rcases h with h | ⟨o, hn, h⟩
    · simp; omega
    · rcases hA with h2 | ⟨b2, o2, e2, hb2, _⟩
      · exact absurd h2 hn
      · rw [h] at e2; injection e2 with e2; injection e2 with e2; simp; omega) (fun u hu => values_visits xs hl w.heap.size A c u (heap_up hu (Boxed.new w _ _)) (Reads.up (Reads.up hA hb0) hu)))
  have HL := Lib.hid (srt_len xs)
  clear hA hb0
  go_enter Tryz.func30, Tryz.ntmps30
  go_wp2_with (first | (go_at_call 51; refine HVA.out.mono ?_; rintro e w1 ⟨rfl, rfl⟩) | (go_at_call 50; refine HS.out.mono ?_; rintro e w2 ⟨v, rfl, ho, hb⟩; have HB := Lib.hid (HB0.out.trans (hb.mono (by simp))); have HCC := Lib.hid (compactO_any _ v _ w2 ho (by have := HL.out; omega)); have HSZ := Lib.hid hb.size; obtain ⟨ao, c2, rfl⟩ := OwnE.slice ho; clear ho hb) | (go_at_call 49; refine HCC.out.mono ?_; rintro e w3 ⟨v3, rfl, ho3, hb3⟩; have HO3 := Lib.hid ho3; have HB3 := Lib.hid hb3; obtain ⟨ao3, c3, rfl⟩ := OwnE.slice ho3; clear ho3 hb3))
  go_ret
  exact ⟨_, rfl, OwnE.mono HO3.out (by simp), HB.out.trans (HB3.out.mono (by simp))⟩

end Go.Proofs.YthnhacncnhknnaaGreatDoor

/-
  How many different elements a list has, and what that says.
-/
namespace Go.Proofs.YthnhacncnhknnaaGreatDoor

theorem nodup_le {l k : List Int} (h : l.Nodup) (hs : ∀ x ∈ l, x ∈ k) : l.length ≤ k.length := by
  induction l generalizing k with
  | nil => simp
  | cons x l ih =>
    obtain ⟨h1, h2⟩ := List.nodup_cons.1 h
    have hx := hs x (by simp)
    have := ih (k := k.erase x) h2 fun y hy => (List.mem_erase_of_ne (fun e => h1 (by rw [← e]; exact hy))).2 (hs y (by simp [hy]))
    rw [List.length_erase_of_mem hx] at this
    have := List.length_pos_of_mem hx
    simp
    omega
/-- of an ascending list: what is left has no two equal elements, and the same ones -/
theorem compactUp (zs : List Int) (h : zs.Pairwise (· ≤ ·)) (m : Nat) (hm : m ≤ zs.length) :
    (Lib.compactUpTo zs.toArray m).Nodup ∧ (∀ x, x ∈ Lib.compactUpTo zs.toArray m ↔ x ∈ zs.take m) := by
  induction m with
  | zero => simp [Lib.compactUpTo]
  | succ m ih =>
    obtain ⟨h1, h2⟩ := ih (by omega)
    have hlt : m < zs.length := by omega
    have hg : zs.toArray[m]! = zs[m] := by simp [hlt]
    rw [Lib.compactUpTo_succ, hg]
    have ht : zs.take (m + 1) = zs.take m ++ [zs[m]] := by rw [List.take_add_one, List.getElem?_eq_getElem hlt]; rfl
    rw [ht]
    by_cases hk : Lib.keeps zs.toArray m = true
    · rw [if_pos hk]
      have hn : zs[m] ∉ zs.take m := fun hx => by
        obtain ⟨i, hi, e⟩ := List.mem_iff_getElem.1 hx
        have him : i < m := by simp at hi; omega
        rw [List.getElem_take] at e
        rcases of_decide_eq_true (by simpa [Lib.keeps] using hk : decide (m = 0 ∨ zs.toArray[m]! ≠ zs.toArray[m - 1]!) = true) with h0 | h0
        · omega
        · have hg2 : zs.toArray[m - 1]! = zs[m - 1]'(by omega) := by simp [show m - 1 < zs.length by omega]
          rw [hg, hg2] at h0
          have a1 : zs[m - 1]'(by omega) ≤ zs[m] := List.pairwise_iff_getElem.1 h (m - 1) m (by omega) hlt (by omega)
          have a2 : zs[i]'(by omega) ≤ zs[m - 1]'(by omega) := by
            rcases Nat.lt_or_ge i (m - 1) with h3 | h3
            · exact List.pairwise_iff_getElem.1 h i (m - 1) (by omega) (by omega) h3
            · have : i = m - 1 := by omega
              subst this
              exact Int.le_refl _
          omega
      refine ⟨?_, fun x => by rw [List.mem_append, List.mem_append, h2]⟩
      rw [List.nodup_append]
      refine ⟨h1, by simp, fun x hx y hy => ?_⟩
      simp at hy
      subst hy
      exact fun e => hn (by rw [← e]; exact (h2 x).1 hx)
    · rw [if_neg hk, List.append_nil]
      refine ⟨h1, fun x => ?_⟩
      have hk' : Lib.keeps zs.toArray m = false := by simpa using hk
      have hm0 : m ≠ 0 ∧ zs.toArray[m]! = zs.toArray[m - 1]! := by
        have := of_decide_eq_false (by simpa [Lib.keeps] using hk' : decide (m = 0 ∨ zs.toArray[m]! ≠ zs.toArray[m - 1]!) = false)
        exact ⟨fun e => this (.inl e), Classical.byContradiction fun e => this (.inr e)⟩
      have hg2 : zs.toArray[m - 1]! = zs[m - 1]'(by omega) := by simp [show m - 1 < zs.length by omega]
      rw [hg, hg2] at hm0
      rw [h2, List.mem_append, List.mem_singleton]
      refine ⟨.inl, fun hx => hx.elim id fun e => ?_⟩
      rw [e, hm0.2]
      exact List.mem_iff_getElem.2 ⟨m - 1, by simp; omega, by rw [List.getElem_take]⟩
theorem srt_asc (xs : List Int) : (srt xs).Pairwise (· ≤ ·) := by
  have := List.pairwise_mergeSort (le := fun x y : Int => decide (x ≤ y)) (fun a b c h1 h2 => by simp at *; omega) (fun a b => by simp; omega) xs
  unfold srt
  exact this.imp fun h => by simpa using h
end Go.Proofs.YthnhacncnhknnaaGreatDoor

/-
  What the program computes of parts, as plain data: lists without repetitions, what is missing, ends of edges, what is left of a graph; and that this is what parts promise.
-/
namespace Go.Proofs.YthnhacncnhknnaaGreatDoor

/-! the numbers of a list, ascending, each once -/
def dis (xs : List Int) : List Int := Lib.compact (srt xs)
theorem compactLe (zs : List Int) (h : zs.Pairwise (· ≤ ·)) (m : Nat) (hm : m ≤ zs.length) : (Lib.compactUpTo zs.toArray m).Pairwise (· ≤ ·) := by
  induction m with
  | zero => simp [Lib.compactUpTo]
  | succ m ih =>
    have hlt : m < zs.length := by omega
    have hg : zs.toArray[m]! = zs[m] := by simp [hlt]
    rw [Lib.compactUpTo_succ, hg]
    by_cases hk : Lib.keeps zs.toArray m = true
    · rw [if_pos hk, List.pairwise_append]
      refine ⟨ih (by omega), List.pairwise_singleton _ _, fun a ha b hb => ?_⟩
      simp at hb
      subst hb
      have ha2 := ((compactUp zs h m (by omega)).2 a).1 ha
      obtain ⟨i, hi, e⟩ := List.mem_iff_getElem.1 ha2
      have him : i < m := by simp at hi; omega
      rw [List.getElem_take] at e
      rw [← e]
      exact List.pairwise_iff_getElem.1 h i m (by omega) hlt him
    · rw [if_neg hk, List.append_nil]
      exact ih (by omega)
theorem dis_mem (xs : List Int) (x : Int) : x ∈ dis xs ↔ x ∈ xs := by
  refine ((compactUp (srt xs) (srt_asc xs) (srt xs).length (Nat.le_refl _)).2 x).trans ?_
  rw [List.take_length]
  unfold srt
  exact List.mem_mergeSort
theorem dis_asc (xs : List Int) : Asc (dis xs) := by
  have h1 := (compactUp (srt xs) (srt_asc xs) (srt xs).length (Nat.le_refl _)).1
  have h2 := compactLe (srt xs) (srt_asc xs) (srt xs).length (Nat.le_refl _)
  exact (List.Pairwise.and h1 h2).imp fun ⟨a, b⟩ => by omega
theorem dis_len (xs : List Int) : (dis xs).length ≤ xs.length := nodup_le (asc_nodup (dis_asc xs)) fun x hx => (dis_mem xs x).1 hx
theorem dis_sel {xs : List Int} {n : Nat} {f : Nat → Bool} (hr : ∀ x ∈ xs, 0 ≤ x ∧ x < n) (hf : ∀ i : Nat, i < n → ((i : Int) ∈ xs ↔ f i = true)) : dis xs = sel f n :=
  asc_eq_sel (dis_asc xs) (fun x hx => hr x ((dis_mem xs x).1 hx)) fun i hi => (dis_mem xs i).trans (hf i hi)
theorem dis_img {xs : List Int} {n : Nat} (hr : ∀ x ∈ xs, 0 ≤ x ∧ x < n) : dis xs = sel (inB xs) n := dis_sel hr fun _ _ => inB_iff.symm
theorem dis_or {a b : List Int} {n : Nat} (ha : ∀ x ∈ a, 0 ≤ x ∧ x < n) (hb : ∀ x ∈ b, 0 ≤ x ∧ x < n) : dis (a ++ b) = orL a b n :=
  dis_sel (fun x hx => (List.mem_append.1 hx).elim (ha x) (hb x)) fun i _ => by rw [List.mem_append, Bool.or_eq_true, inB_iff, inB_iff]

/-! what is in both of two lists -/
def andF (a b : List Int) (k : Nat) : List Int := coll (fun i => if a.getD i 0 ∈ b then [a.getD i 0] else []) k
theorem andF_mem {a b : List Int} {x : Int} : x ∈ andF a b a.length ↔ x ∈ a ∧ x ∈ b := by
  unfold andF
  rw [coll_mem]
  constructor
  · rintro ⟨i, hi, h⟩
    by_cases hb : a.getD i 0 ∈ b
    · rw [if_pos hb, List.mem_singleton] at h; subst h; exact ⟨getD_mem hi, hb⟩
    · rw [if_neg hb] at h; simp at h
  · rintro ⟨h1, h2⟩
    obtain ⟨i, hi, rfl⟩ := List.mem_iff_getElem.1 h1
    have e : a.getD i 0 = a[i] := by rw [List.getD_eq_getElem?_getD, List.getElem?_eq_getElem hi]; rfl
    exact ⟨i, hi, by rw [e, if_pos h2]; simp⟩
theorem andF_sub (a b : List Int) (k : Nat) (hk : k ≤ a.length) : (andF a b k).Sublist (a.take k) := by
  induction k with
  | zero => simp [andF, coll]
  | succ k ih =>
    have e : a.take (k + 1) = a.take k ++ [a.getD k 0] := (take_next (by omega)).symm
    rw [e]
    show (andF a b k ++ _).Sublist _
    refine (ih (by omega)).append ?_
    by_cases h : a.getD k 0 ∈ b
    · rw [show (fun i => if a.getD i 0 ∈ b then [a.getD i 0] else []) k = [a.getD k 0] from if_pos h]; exact List.Sublist.refl _
    · rw [show (fun i => if a.getD i 0 ∈ b then [a.getD i 0] else []) k = [] from if_neg h]; exact List.nil_sublist _
theorem andF_asc {a : List Int} (b : List Int) (h : Asc a) : Asc (andF a b a.length) := by
  have := andF_sub a b a.length (Nat.le_refl _)
  rw [List.take_length] at this
  exact List.Pairwise.sublist this h
theorem andF_le (a b : List Int) (k : Nat) : (andF a b k).length ≤ k := coll_le (fun i => by split <;> simp) k
theorem andF_sel {a b : List Int} {n : Nat} {f : Nat → Bool} (h : Asc a) (hr : ∀ x ∈ a, 0 ≤ x ∧ x < n) (hf : ∀ i : Nat, i < n → (((i : Int) ∈ a ∧ (i : Int) ∈ b) ↔ f i = true)) : andF a b a.length = sel f n :=
  asc_eq_sel (andF_asc b h) (fun x hx => hr x (andF_mem.1 hx).1) fun i hi => andF_mem.trans (hf i hi)
theorem andF_and {a b : List Int} {n : Nat} (h : Asc a) (hr : ∀ x ∈ a, 0 ≤ x ∧ x < n) : andF a b a.length = andL a b n :=
  andF_sel h hr fun i _ => by rw [Bool.and_eq_true, inB_iff, inB_iff]

/-! what is not in a list -/
def mis (l : List Int) (n : Nat) : List Int := sel (fun i => !inB l i) n
theorem mis_has {l : List Int} {n i : Nat} : (i : Int) ∈ mis l n ↔ i < n ∧ ¬ (i : Int) ∈ l := by
  unfold mis
  rw [sel_has, Bool.not_eq_true', ← Bool.not_eq_true, inB_iff]

theorem mis_rng {l : List Int} {n : Nat} : ∀ x ∈ mis l n, 0 ≤ x ∧ x < n := sel_rng
theorem mis_up (l : List Int) (n : Nat) : Asc (mis l n) := sel_asc _ _

/-! the ends of some edges -/
def endsOf (g : Gr) (xs : List Int) (k : Nat) : List Int := coll (fun i => [(g.es.getD (xs.getD i 0).toNat default).fr, (g.es.getD (xs.getD i 0).toNat default).tq]) k
theorem ends_len (g : Gr) (xs : List Int) (k : Nat) : (endsOf g xs k).length = 2 * k := by
  induction k with
  | zero => rfl
  | succ k ih => show (endsOf g xs k ++ _).length = _; rw [List.length_append, ih]; simp; omega
theorem ends_mem {g : Gr} (hv : validE g = 0) {xs : List Int} (hx : ∀ x ∈ xs, 0 ≤ x ∧ x < g.es.length) {x : Int} : x ∈ endsOf g xs xs.length ↔ ∃ e : Nat, e < g.es.length ∧ (e : Int) ∈ xs ∧ (x = frN g e ∨ x = toN g e) := by
  unfold endsOf
  rw [coll_mem]
  constructor
  · rintro ⟨i, hi, h⟩
    have hm := getD_mem (d := (0 : Int)) hi
    have hr := hx _ hm
    obtain ⟨e1, _, e2, _⟩ := fr_eq hv (i := (xs.getD i 0).toNat) (by omega)
    refine ⟨(xs.getD i 0).toNat, by omega, by rw [show ((xs.getD i 0).toNat : Int) = xs.getD i 0 by omega]; exact hm, ?_⟩
    rw [e1, e2] at h
    simpa using h
  · rintro ⟨e, he, hm, h⟩
    obtain ⟨i, hi, e0⟩ := List.mem_iff_getElem.1 hm
    obtain ⟨e1, _, e2, _⟩ := fr_eq hv he
    refine ⟨i, hi, ?_⟩
    have e3 : xs.getD i 0 = (e : Int) := by rw [List.getD_eq_getElem?_getD, List.getElem?_eq_getElem hi]; exact e0
    rw [e3, Int.toNat_natCast, e1, e2]
    simpa using h
theorem ends_rng {g : Gr} (hv : validE g = 0) {xs : List Int} (hx : ∀ x ∈ xs, 0 ≤ x ∧ x < g.es.length) : ∀ x ∈ endsOf g xs xs.length, 0 ≤ x ∧ x < g.ns.length := fun x h => by
  obtain ⟨e, he, _, h⟩ := (ends_mem hv hx).1 h
  obtain ⟨_, l1, _, l2⟩ := fr_eq hv he
  rcases h with rfl | rfl <;> omega
theorem close_ns {g : Gr} (hv : validE g = 0) {vs xs : List Int} (h1 : ∀ x ∈ vs, 0 ≤ x ∧ x < g.ns.length) (h2 : ∀ x ∈ xs, 0 ≤ x ∧ x < g.es.length) : dis (vs ++ endsOf g xs xs.length) = (leastP g (inB vs) (inB xs)).ns := by
  refine dis_sel (fun x hx => (List.mem_append.1 hx).elim (h1 x) (ends_rng hv h2 x)) fun i _ => ?_
  rw [List.mem_append, Bool.or_eq_true, inB_iff, touch_iff, ends_mem hv h2]
  refine or_congr Iff.rfl ⟨?_, ?_⟩
  · rintro ⟨e, he, hm, h⟩; exact ⟨e, he, inB_iff.2 hm, by omega⟩
  · rintro ⟨e, he, hm, h⟩; exact ⟨e, he, inB_iff.1 hm, by omega⟩
theorem close_is {g : Gr} (hv : validE g = 0) {vs xs : List Int} (h1 : ∀ x ∈ vs, 0 ≤ x ∧ x < g.ns.length) (h2 : ∀ x ∈ xs, 0 ≤ x ∧ x < g.es.length) : (⟨dis (vs ++ endsOf g xs xs.length), dis xs⟩ : Mo) = leastP g (inB vs) (inB xs) := by
  rw [close_ns hv h1 h2, dis_img h2]; rfl
theorem bnd_is {g : Gr} (hv : validE g = 0) {p : Mo} (h : PartOk g p) : andF p.ns (dis (endsOf g (mis p.es g.es.length) (mis p.es g.es.length).length)) p.ns.length = bndL g p := by
  refine andF_sel h.an h.rn fun i _ => ?_
  rw [dis_mem, ends_mem hv mis_rng, Bool.and_eq_true, inB_iff, touch_iff]
  refine and_congr Iff.rfl ⟨?_, ?_⟩
  · rintro ⟨e, he, hm, h⟩
    exact ⟨e, he, by rw [Bool.not_eq_true', ← Bool.not_eq_true, inB_iff]; exact (mis_has.1 hm).2, by omega⟩
  · rintro ⟨e, he, hm, h⟩
    rw [Bool.not_eq_true', ← Bool.not_eq_true, inB_iff] at hm
    exact ⟨e, he, mis_has.2 ⟨he, hm⟩, by omega⟩

/-! what is left of a graph without what is missing -/
theorem cnt_mis {l : List Int} {n : Nat} (h : Asc l) (hr : ∀ x ∈ l, 0 ≤ x ∧ x < n) {i : Nat} (hi : i ≤ n) : cntL (mis l n) i + cntL l i = i := by
  induction i with
  | zero => rw [cnt_zero fun x hx => (mis_rng x hx).1, cnt_zero fun x hx => (hr x hx).1]
  | succ i ih =>
    have := ih (by omega)
    rw [cnt_succ (mis_up _ _), cnt_succ h]
    by_cases hm : (i : Int) ∈ l
    · have hn : ¬ (i : Int) ∈ mis l n := fun x => (mis_has.1 x).2 hm
      rw [if_neg hn, if_pos hm]; omega
    · have hn : (i : Int) ∈ mis l n := mis_has.2 ⟨by omega, hm⟩
      rw [if_pos hn, if_neg hm]; omega
theorem idx_cnt {l : List Int} (h : Asc l) {i : Nat} (hm : (i : Int) ∈ l) : idxOf l (i : Int) l.length = cntL l i := by
  have ha := (asc_at h i).2 hm
  have hl : cntL l i < l.length := (List.getElem?_eq_some_iff.1 ha).1
  have e : l.getD (cntL l i) 0 = (i : Int) := by rw [List.getD_eq_getElem?_getD, ha]; rfl
  have := idx_at (asc_nodup h) hl (Nat.le_refl _)
  rwa [e] at this
theorem plc_mis {l : List Int} {n : Nat} (h : Asc l) (hr : ∀ x ∈ l, 0 ≤ x ∧ x < n) {i : Nat} (hm : (i : Int) ∈ l) : plc (mis l n) i = idxOf l (i : Int) l.length := by
  have := hr _ hm
  have hc := cnt_mis h hr (i := i) (by omega)
  rw [plc_out fun x => (mis_has.1 x).2 hm, idx_cnt h hm]
  omega
theorem left_is {β : Type} {l : List Int} {n : Nat} (h : Asc l) (hr : ∀ x ∈ l, 0 ≤ x ∧ x < n) (q : Nat → β) : coll (fun i => if (i : Int) ∈ mis l n then [] else [q i]) n = coll (fun k => [q (l.getD k 0).toNat]) l.length := by
  have e1 : coll (fun i => if (i : Int) ∈ mis l n then [] else [q i]) n = (sel (inB l) n).map fun x => q x.toNat := by
    unfold sel
    rw [coll_map]
    refine coll_ext fun i hi => ?_
    by_cases hm : (i : Int) ∈ l
    · rw [if_neg fun x => (mis_has.1 x).2 hm, if_pos (inB_iff.2 hm)]; simp
    · rw [if_pos (mis_has.2 ⟨hi, hm⟩), if_neg (fun x => hm (inB_iff.1 x))]; rfl
  have e2 : sel (inB l) n = l := sel_self h hr
  rw [e1, e2]
  conv => lhs; rw [← coll_self l 0]
  rw [coll_map]
  rfl
theorem mis_asc {l : List Int} {n : Nat} : ascE (mis l n) n = 0 := asc_iff.2 ⟨sel_rng, sel_asc _ _⟩
theorem rem_none {g : Gr} {p : Mo} (hv : validE g = 0) (h : PartOk g p) : remE g (mis p.ns g.ns.length) (mis p.es g.es.length) = 0 := by
  unfold remE
  rw [if_neg (by omega), if_neg (by rw [mis_asc]; simp), if_neg (by rw [mis_asc]; simp)]
  refine fstN_all fun i _ hi => ?_
  have hi : i < g.es.length := by omega
  unfold dangAt
  rw [if_neg]
  intro hd
  unfold dangB at hd
  rw [Bool.and_eq_true, Bool.not_eq_true', decide_eq_false_iff_not, Bool.or_eq_true, decide_eq_true_iff, decide_eq_true_iff] at hd
  obtain ⟨e1, _, e2, _⟩ := fr_eq hv hi
  rw [e1, e2] at hd
  have hm : (i : Int) ∈ p.es := Classical.byContradiction fun hn => hd.1 (mis_has.2 ⟨hi, hn⟩)
  obtain ⟨d1, d2⟩ := h.dn i hm
  rw [e1] at d1
  rw [e2] at d2
  rcases hd.2 with x | x
  · exact (mis_has.1 x).2 d1
  · exact (mis_has.1 x).2 d2
theorem rem_sub {g : Gr} {p : Mo} (hv : validE g = 0) (h : PartOk g p) : remG g (mis p.ns g.ns.length) (mis p.es g.es.length) = subG g p := by
  unfold remG
  rw [if_pos (rem_none hv h)]
  have e1 : remNs g (mis p.ns g.ns.length) g.ns.length = coll (fun k => [subNd g p k]) p.ns.length := left_is h.an h.rn fun i => g.ns.getD i 0
  have e2 : remEs g (mis p.ns g.ns.length) (mis p.es g.es.length) g.es.length = coll (fun k => [subEd g p k]) p.es.length := by
    refine (left_is h.ae h.re fun i => mvd g (mis p.ns g.ns.length) i).trans (coll_ext fun k hk => ?_)
    have hm := getD_mem (d := (0 : Int)) hk
    have hr := h.re _ hm
    have hi : (p.es.getD k 0).toNat < g.es.length := by omega
    have d := h.dn (p.es.getD k 0).toNat (by rw [show ((p.es.getD k 0).toNat : Int) = p.es.getD k 0 by omega]; exact hm)
    obtain ⟨f1, _, f2, _⟩ := fr_eq hv hi
    rw [f1, f2] at d
    unfold mvd subEd
    rw [plc_mis h.an h.rn d.1, plc_mis h.an h.rn d.2, f1, f2]
  rw [e1, e2]; rfl

end Go.Proofs.YthnhacncnhknnaaGreatDoor

/-
  The order of parts, and the list of all parts of a small graph, as plain data.
-/
namespace Go.Proofs.YthnhacncnhknnaaGreatDoor

/-! how lists are compared: by their lengths, then by the first numbers that differ -/
def fstD : List Int → List Int → Int
  | x :: r, y :: s => if x ≠ y then x - y else fstD r s
  | _, _ => 0
def cmpL (a b : List Int) : Int := if a.length ≠ b.length then (a.length : Int) - b.length else fstD a b
def cmpP (p q : Mo) : Int := if cmpL p.ns q.ns ≠ 0 then cmpL p.ns q.ns else cmpL p.es q.es
theorem fstD_turn : ∀ a b : List Int, fstD b a = - fstD a b
  | [], [] => rfl
  | [], _ :: _ => rfl
  | _ :: _, [] => rfl
  | x :: r, y :: s => by
    simp only [fstD]
    by_cases h : x = y
    · subst h; rw [if_neg (by simp), if_neg (by simp)]; exact fstD_turn r s
    · rw [if_pos h, if_pos (fun e => h e.symm)]; omega
theorem fstD_zero : ∀ {a b : List Int}, a.length = b.length → fstD a b = 0 → a = b
  | [], [], _, _ => rfl
  | [], _ :: _, h, _ => by simp at h
  | _ :: _, [], h, _ => by simp at h
  | x :: r, y :: s, h, e => by
    simp only [fstD] at e
    by_cases hx : x = y
    · subst hx; rw [if_neg (by simp)] at e; rw [fstD_zero (by simpa using h) e]
    · rw [if_pos hx] at e; omega
theorem fstD_self : ∀ a : List Int, fstD a a = 0
  | [] => rfl
  | x :: r => by simp only [fstD]; rw [if_neg (by simp)]; exact fstD_self r
theorem fstD_trans : ∀ {a b c : List Int}, a.length = b.length → b.length = c.length → fstD a b < 0 → fstD b c < 0 → fstD a c < 0
  | [], _, _, _, _, h, _ => by simp [fstD] at h
  | _ :: _, [], _, h, _, _, _ => by simp at h
  | _ :: _, _ :: _, [], _, h, _, _ => by simp at h
  | x :: r, y :: s, z :: t, h1, h2, h, k => by
    simp only [fstD] at h k ⊢
    by_cases e1 : x = y
    · subst e1
      rw [if_neg (by simp)] at h
      by_cases e2 : x = z
      · subst e2
        rw [if_neg (by simp)] at k ⊢
        exact fstD_trans (by simpa using h1) (by simpa using h2) h k
      · rw [if_pos e2] at k ⊢; exact k
    · rw [if_pos e1] at h
      by_cases e2 : y = z
      · subst e2; rw [if_pos e1]; exact h
      · rw [if_pos e2] at k
        rw [if_pos (by omega)]; omega
theorem cmpL_self (a : List Int) : cmpL a a = 0 := by unfold cmpL; rw [if_neg (by simp)]; exact fstD_self a
theorem cmpL_turn (a b : List Int) : cmpL b a = - cmpL a b := by
  unfold cmpL
  by_cases h : a.length = b.length
  · rw [if_neg (by simp [h]), if_neg (by simp [h])]; exact fstD_turn a b
  · rw [if_pos h, if_pos (fun e => h e.symm)]; omega
theorem cmpL_zero {a b : List Int} (h : cmpL a b = 0) : a = b := by
  unfold cmpL at h
  split at h
  · omega
  · rename_i e; exact fstD_zero (by simpa using e) h
theorem cmpL_trans {a b c : List Int} (h : cmpL a b < 0) (k : cmpL b c < 0) : cmpL a c < 0 := by
  unfold cmpL at h k ⊢
  by_cases e1 : a.length = b.length
  · rw [if_neg (by simp [e1])] at h
    by_cases e2 : b.length = c.length
    · rw [if_neg (by simp [e2])] at k
      rw [if_neg (by simp [e1, e2])]
      exact fstD_trans e1 e2 h k
    · rw [if_pos e2] at k
      rw [if_pos (by omega)]; omega
  · rw [if_pos e1] at h
    by_cases e2 : b.length = c.length
    · rw [if_pos (by omega)]; omega
    · rw [if_pos e2] at k
      rw [if_pos (by omega)]; omega
theorem cmpP_self (p : Mo) : cmpP p p = 0 := by unfold cmpP; rw [if_neg (by simp [cmpL_self])]; exact cmpL_self _
theorem cmpP_turn (p q : Mo) : cmpP q p = - cmpP p q := by
  unfold cmpP
  have h := cmpL_turn p.ns q.ns
  have k := cmpL_turn p.es q.es
  by_cases e : cmpL p.ns q.ns = 0
  · rw [if_neg (by omega), if_neg (by omega)]; exact k
  · rw [if_pos (by omega), if_pos e]; exact h
theorem cmpP_zero {p q : Mo} (h : cmpP p q = 0) : p = q := by
  unfold cmpP at h
  split at h
  · omega
  · rename_i e
    have e1 := cmpL_zero (a := p.ns) (b := q.ns) (by omega)
    have e2 := cmpL_zero h
    cases p; cases q; simp at e1 e2; rw [e1, e2]
theorem cmpP_trans {p q r : Mo} (h : cmpP p q < 0) (k : cmpP q r < 0) : cmpP p r < 0 := by
  unfold cmpP at h k ⊢
  by_cases e1 : cmpL p.ns q.ns = 0
  · have := cmpL_zero e1
    rw [if_neg (by omega)] at h
    rw [this]
    by_cases e2 : cmpL q.ns r.ns = 0
    · rw [if_neg (by omega)] at k ⊢
      exact cmpL_trans h k
    · rw [if_pos e2] at k ⊢; exact k
  · rw [if_pos e1] at h
    by_cases e2 : cmpL q.ns r.ns = 0
    · have := cmpL_zero e2
      rw [← this, if_pos e1]; exact h
    · rw [if_pos e2] at k
      have := cmpL_trans h k
      rw [if_pos (by omega)]; exact this

/-! lists of parts that ascend -/
def SrtP (l : List Mo) : Prop := l.Pairwise fun p q => cmpP p q < 0
theorem srt_ext {l k : List Mo} (h1 : SrtP l) (h2 : SrtP k) (h : ∀ x, x ∈ l ↔ x ∈ k) : l = k := by
  have irr : ∀ {x : Mo}, ¬ cmpP x x < 0 := fun {x} => by rw [cmpP_self]; omega
  induction l generalizing k with
  | nil =>
    cases k with
    | nil => rfl
    | cons y s => exact absurd ((h y).2 List.mem_cons_self) (by simp)
  | cons x r ih =>
    cases k with
    | nil => exact absurd ((h x).1 List.mem_cons_self) (by simp)
    | cons y s =>
      have hx := List.pairwise_cons.1 h1
      have hy := List.pairwise_cons.1 h2
      have e : x = y := by
        have a := (h x).1 List.mem_cons_self
        have b := (h y).2 List.mem_cons_self
        rcases List.mem_cons.1 a with e | a
        · exact e
        · rcases List.mem_cons.1 b with e | b
          · exact e.symm
          · have := hx.1 y b; have := hy.1 x a; have := cmpP_turn x y; omega
      subst e
      refine congrArg (x :: ·) (ih hx.2 hy.2 fun z => ?_)
      have hz := h z
      simp only [List.mem_cons] at hz
      constructor
      · intro m
        rcases hz.1 (.inr m) with e | m'
        · subst e; exact absurd (hx.1 z m) irr
        · exact m'
      · intro m
        rcases hz.2 (.inr m) with e | m'
        · subst e; exact absurd (hy.1 z m) irr
        · exact m'
/-- how many of a list come first before a part -/
def posP (l : List Mo) (p : Mo) : Nat := (l.takeWhile fun q => decide (cmpP q p < 0)).length
def insP (l : List Mo) (p : Mo) : List Mo := l.take (posP l p) ++ p :: l.drop (posP l p)
theorem ins_mem {l : List Mo} {p x : Mo} : x ∈ insP l p ↔ x = p ∨ x ∈ l := by
  unfold insP
  constructor
  · intro h
    rcases List.mem_append.1 h with h | h
    · exact .inr (List.mem_of_mem_take h)
    · rcases List.mem_cons.1 h with h | h
      · exact .inl h
      · exact .inr (List.mem_of_mem_drop h)
  · rintro (rfl | h)
    · exact List.mem_append_right _ List.mem_cons_self
    · rw [← List.take_append_drop (posP l p) l] at h
      rcases List.mem_append.1 h with h | h
      · exact List.mem_append_left _ h
      · exact List.mem_append_right _ (List.mem_cons_of_mem _ h)
theorem insP_len (l : List Mo) (p : Mo) : (insP l p).length = l.length + 1 := by
  unfold insP
  rw [List.length_append, List.length_cons, List.length_take, List.length_drop]
  have : posP l p ≤ l.length := (List.takeWhile_prefix _).length_le
  omega
theorem pos_le (l : List Mo) (p : Mo) : posP l p ≤ l.length := (List.takeWhile_prefix _).length_le
theorem pos_cons {x : Mo} {r : List Mo} {p : Mo} : posP (x :: r) p = if cmpP x p < 0 then posP r p + 1 else 0 := by
  unfold posP
  by_cases h : cmpP x p < 0
  · rw [if_pos h, List.takeWhile_cons_of_pos (by simpa using h)]; rfl
  · rw [if_neg h, List.takeWhile_cons_of_neg (by simpa using h)]; rfl
theorem pos_before {l : List Mo} {p : Mo} {i : Nat} (h : i < posP l p) : cmpP (l.getD i default) p < 0 := by
  induction l generalizing i with
  | nil => simp [posP] at h
  | cons x r ih =>
    rw [pos_cons] at h
    split at h
    · rename_i hx
      cases i with
      | zero => exact hx
      | succ i => exact ih (by omega)
    · omega
theorem pos_here {l : List Mo} {p : Mo} (h : posP l p < l.length) : ¬ cmpP (l.getD (posP l p) default) p < 0 := by
  induction l with
  | nil => simp at h
  | cons x r ih =>
    rw [pos_cons] at h ⊢
    by_cases hx : cmpP x p < 0
    · rw [if_pos hx] at h ⊢
      exact ih (by simpa using h)
    · rw [if_neg hx]; exact hx
theorem ins_srt {l : List Mo} {p : Mo} (h : SrtP l) (hn : ¬ p ∈ l) : SrtP (insP l p) := by
  unfold SrtP at *
  induction l with
  | nil => exact List.pairwise_singleton _ _
  | cons x r ih =>
    obtain ⟨h1, h2⟩ := List.pairwise_cons.1 h
    have hxp : cmpP x p ≠ 0 := fun e => hn (by rw [cmpP_zero e]; exact List.mem_cons_self)
    unfold insP
    rw [pos_cons]
    by_cases hx : cmpP x p < 0
    · rw [if_pos hx, List.take_succ_cons, List.drop_succ_cons, List.cons_append]
      refine List.pairwise_cons.2 ⟨fun y hy => ?_, ih h2 fun m => hn (List.mem_cons_of_mem _ m)⟩
      rcases ins_mem.1 hy with rfl | hy
      · exact hx
      · exact h1 y hy
    · rw [if_neg hx]
      show List.Pairwise _ (p :: x :: r)
      have hpx : cmpP p x < 0 := by have := cmpP_turn x p; omega
      refine List.pairwise_cons.2 ⟨fun y hy => ?_, h⟩
      rcases List.mem_cons.1 hy with rfl | hy
      · exact hpx
      · exact cmpP_trans hpx (h1 y hy)

/-! all parts, by the bits of numbers -/
def setP (g : Gr) (s : Nat) : Mo := ⟨sel (fun i => s.testBit i) g.ns.length, sel (fun i => (s >>> g.ns.length).testBit i) g.es.length⟩
def pAllTo (g : Gr) : Nat → List Mo
  | 0 => []
  | k + 1 => if rightE g (setP g k) = 0 then insP (pAllTo g k) (setP g k) else pAllTo g k
def pAll (g : Gr) : List Mo := pAllTo g (2 ^ (g.ns.length + g.es.length))
theorem num_of (f : Nat → Bool) (n : Nat) : ∃ s, s < 2 ^ n ∧ ∀ i, i < n → s.testBit i = f i := by
  induction n generalizing f with
  | zero => exact ⟨0, by simp, fun i hi => by omega⟩
  | succ n ih =>
    obtain ⟨s, hs, h⟩ := ih fun i => f (i + 1)
    have hp : 2 ^ (n + 1) = 2 * 2 ^ n := by rw [Nat.pow_succ, Nat.mul_comm]
    by_cases h0 : f 0 = true
    · refine ⟨2 * s + 1, by omega, fun i hi => ?_⟩
      cases i with
      | zero => rw [Nat.testBit_zero, h0]; simp
      | succ i => rw [Nat.testBit_succ, show (2 * s + 1) / 2 = s by omega]; exact h i (by omega)
    · refine ⟨2 * s, by omega, fun i hi => ?_⟩
      cases i with
      | zero => rw [Nat.testBit_zero, show f 0 = false by simpa using h0]; simp
      | succ i => rw [Nat.testBit_succ, show 2 * s / 2 = s by omega]; exact h i (by omega)
theorem setP_inj {g : Gr} {s t : Nat} (hs : s < 2 ^ (g.ns.length + g.es.length)) (ht : t < 2 ^ (g.ns.length + g.es.length)) (h : setP g s = setP g t) : s = t := by
  apply Nat.eq_of_testBit_eq
  intro i
  have h1 : sel (fun i => s.testBit i) g.ns.length = sel (fun i => t.testBit i) g.ns.length := congrArg Mo.ns h
  have h2 : sel (fun i => (s >>> g.ns.length).testBit i) g.es.length = sel (fun i => (t >>> g.ns.length).testBit i) g.es.length := congrArg Mo.es h
  by_cases e1 : i < g.ns.length
  · rw [Bool.eq_iff_iff]
    have a := sel_has (f := fun i => s.testBit i) (n := g.ns.length) (i := i)
    have b := sel_has (f := fun i => t.testBit i) (n := g.ns.length) (i := i)
    rw [h1] at a
    exact ⟨fun x => (b.1 (a.2 ⟨e1, x⟩)).2, fun x => (a.1 (b.2 ⟨e1, x⟩)).2⟩
  · by_cases e2 : i - g.ns.length < g.es.length
    · rw [Bool.eq_iff_iff]
      have a := sel_has (f := fun i => (s >>> g.ns.length).testBit i) (n := g.es.length) (i := i - g.ns.length)
      have b := sel_has (f := fun i => (t >>> g.ns.length).testBit i) (n := g.es.length) (i := i - g.ns.length)
      rw [h2] at a
      rw [Nat.testBit_shiftRight, show g.ns.length + (i - g.ns.length) = i by omega] at a b
      exact ⟨fun x => (b.1 (a.2 ⟨e2, x⟩)).2, fun x => (a.1 (b.2 ⟨e2, x⟩)).2⟩
    · have hm : 2 ^ (g.ns.length + g.es.length) ≤ 2 ^ i := Nat.pow_le_pow_right (by omega) (by omega)
      rw [Nat.testBit_lt_two_pow (by omega), Nat.testBit_lt_two_pow (by omega)]
theorem pAllTo_mem {g : Gr} {k : Nat} {p : Mo} : p ∈ pAllTo g k ↔ ∃ s, s < k ∧ rightE g (setP g s) = 0 ∧ p = setP g s := by
  induction k with
  | zero => simp [pAllTo]
  | succ k ih =>
    simp only [pAllTo]
    split
    · rename_i h
      rw [ins_mem, ih]
      constructor
      · rintro (rfl | ⟨s, h1, h2, rfl⟩)
        · exact ⟨k, by omega, h, rfl⟩
        · exact ⟨s, by omega, h2, rfl⟩
      · rintro ⟨s, h1, h2, rfl⟩
        by_cases e : s = k
        · subst e; exact .inl rfl
        · exact .inr ⟨s, by omega, h2, rfl⟩
    · rename_i h
      rw [ih]
      constructor
      · rintro ⟨s, h1, h2, rfl⟩; exact ⟨s, by omega, h2, rfl⟩
      · rintro ⟨s, h1, h2, rfl⟩
        by_cases e : s = k
        · subst e; exact absurd h2 h
        · exact ⟨s, by omega, h2, rfl⟩
theorem pAllTo_srt {g : Gr} {k : Nat} (hk : k ≤ 2 ^ (g.ns.length + g.es.length)) : SrtP (pAllTo g k) := by
  induction k with
  | zero => exact List.Pairwise.nil
  | succ k ih =>
    simp only [pAllTo]
    split
    · refine ins_srt (ih (by omega)) fun m => ?_
      obtain ⟨s, h1, _, e⟩ := pAllTo_mem.1 m
      have := setP_inj (by omega) (by omega) e
      omega
    · exact ih (by omega)
theorem pAllTo_len (g : Gr) (k : Nat) : (pAllTo g k).length ≤ k := by
  induction k with
  | zero => exact Nat.le_refl _
  | succ k ih =>
    simp only [pAllTo]
    split
    · rw [insP_len]; omega
    · omega
theorem pAll_mem {g : Gr} {p : Mo} : p ∈ pAll g ↔ PartOk g p := by
  unfold pAll
  rw [pAllTo_mem]
  constructor
  · rintro ⟨s, _, h, rfl⟩; exact right_zero.1 h
  · intro h
    obtain ⟨s, hs, hb⟩ := num_of (fun i => if i < g.ns.length then inB p.ns i else inB p.es (i - g.ns.length)) (g.ns.length + g.es.length)
    have e : p = setP g s := by
      have e1 : p.ns = sel (fun i => s.testBit i) g.ns.length := asc_eq_sel h.an h.rn fun i hi => by
        rw [hb i (by omega), if_pos hi, inB_iff]
      have e2 : p.es = sel (fun i => (s >>> g.ns.length).testBit i) g.es.length := asc_eq_sel h.ae h.re fun i hi => by
        rw [Nat.testBit_shiftRight, hb (g.ns.length + i) (by omega), if_neg (by omega), inB_iff, show g.ns.length + i - g.ns.length = i by omega]
      cases p
      simp only at e1 e2
      unfold setP
      rw [← e1, ← e2]
    exact ⟨s, hs, by rw [← e]; exact right_zero.2 h, e⟩
theorem pAll_srt (g : Gr) : SrtP (pAll g) := pAllTo_srt (Nat.le_refl _)
/-- a list of all parts that ascends is this one -/
theorem pAll_is {g : Gr} {l : List Mo} (h : SrtP l) (hm : ∀ p, p ∈ l ↔ PartOk g p) : l = pAll g := srt_ext h (pAll_srt g) fun x => by rw [hm, pAll_mem]
def pAllE (g : Gr) : Nat := if validE g ≠ 0 then validE g else if 6 < g.ns.length + g.es.length then 3 else 0
def pAllR (g : Gr) : List Mo := if pAllE g = 0 then pAll g else []

end Go.Proofs.YthnhacncnhknnaaGreatDoor

/-
  Graphs: checkAscending, ascending, places.
-/
namespace Go.Proofs.YthnhacncnhknnaaGreatDoor
open Go.RowKit

theorem asc_six {l : List Int} {n k : Nat} (h : idxB (l.getD k 0) n = false) : ascAt l n k = 6 := if_pos h
theorem asc_twelve {l : List Int} {n k : Nat} (h : idxB (l.getD k 0) n = true) (h2 : 0 < k) (h3 : l.getD k 0 ≤ l.getD (k - 1) 0) : ascAt l n k = 12 := by
  unfold ascAt
  rw [if_neg (by rw [h]; simp), if_pos ⟨h2, h3⟩]
theorem asc_pass {l : List Int} {n k : Nat} (h : idxB (l.getD k 0) n = true) (h2 : ¬ (0 < k ∧ l.getD k 0 ≤ l.getD (k - 1) 0)) : ascAt l n k = 0 := by
  unfold ascAt
  rw [if_neg (by rw [h]; simp), if_neg h2]

set_option maxRecDepth 100000 in
set_option maxHeartbeats 2000000 in
theorem ascP_any (l : List Int) (n : Nat) (A : Option Addr) (B c : Nat) (w : World) (hl : l.length ≤ maxLen) (hA : Ints w B A l) :
    Calls Tryz.prog 35 #[.slice A l.length c, .int .i64 (n : Int)] w fun e w' => e = .returned (.int .i64 (ascE l n)) ∧ w = w' := by
  unfold maxLen at hl
  have HT := Lib.hid hA
  have HI := Lib.hid (fun x u => isIndex_any x n u)
  have H6 := Lib.hid (fun k h => asc_six (l := l) (n := n) (k := k) h)
  have H12 := Lib.hid (fun k h h2 h3 => asc_twelve (l := l) (n := n) (k := k) h h2 h3)
  have HP := Lib.hid (fun k h h2 => asc_pass (l := l) (n := n) (k := k) h h2)
  have HHIT := Lib.hid (fun k (h : k < l.length) hf => fstN_hit (f := ascAt l n) h hf)
  have HPASS := Lib.hid (fun k (h : k < l.length) hf => fstN_pass (f := ascAt l n) h hf)
  have HEND := Lib.hid (fun k (h : l.length ≤ k) => fstN_end (f := ascAt l n) h)
  have HX : Hid (ascE l n = fstN (ascAt l n) 0 (l.length - 0)) := Lib.hid rfl
  clear hA
  generalize ascE l n = R at HX ⊢
  generalize ascAt l n = f at *
  go_enter Tryz.func35, Tryz.ntmps35
  go_wp2_with fail
  go_loop [9] (fun i => ∃ k : Nat, k ≤ l.length ∧ i = .int .i64 k ∧ R = fstN f k (l.length - k)) (fun i => l.length - (intOf i).toNat)
  case atStart => exact ⟨0, Nat.zero_le _, rfl, HX.out⟩
  case round =>
    clear HX
    obtain ⟨k, hk, rfl, hr⟩ := hrel
    have HR := Lib.hid hr
    clear hr
    by_cases hlt : k < l.length
    · obtain ⟨b, off, rfl, hb, hc⟩ := Ints.cells HT.out hlt
      have ck := hc k hlt
      have HC := Lib.hid (HI.out (l.getD k 0))
      by_cases h1 : idxB (l.getD k 0) n = true
      case neg =>
        have h1' : idxB (l.getD k 0) n = false := by simpa using h1
        have h6 := H6.out k h1'
        have HE := Lib.hid (show R = 6 by rw [HR.out, HHIT.out k hlt (by omega), h6])
        rw [h1'] at HC
        clear hc h6 h1 h1'
        generalize l.getD k 0 = x at *
        go_wp2_with fail
        refine (HC.out _).mono ?_
        rintro e w' ⟨rfl, rfl⟩
        go_wp2_with fail
        go_ret
        exact ⟨ret_int (by rw [HE.out]; rfl), rfl⟩
      by_cases h0 : 0 < k
      · have ck1 := hc (k - 1) (by omega)
        have e1 : (k : Int) - 1 = ((k - 1 : Nat) : Int) := by omega
        have q0 : (0 : Int) ≤ (k : Int) - 1 := by omega
        have q1 : (k : Int) - 1 < (l.length : Int) := by omega
        have q2 : ((k : Int) - 1).toNat = k - 1 := by omega
        have q3 : (0 : Int) < (k : Int) := by omega
        clear hc
        by_cases h2 : l.getD k 0 ≤ l.getD (k - 1) 0
        · have h6 := H12.out k h1 h0 h2
          have HE := Lib.hid (show R = 12 by rw [HR.out, HHIT.out k hlt (by omega), h6])
          rw [h1] at HC
          clear h6 h1 e1
          generalize l.getD k 0 = x at *
          generalize l.getD (k - 1) 0 = y at *
          have t1 : decide (x ≤ y) = true := decide_eq_true h2
          clear h2
          go_wp2_with fail
          refine (HC.out _).mono ?_
          rintro e w' ⟨rfl, rfl⟩
          go_wp2_with fail
          go_ret
          exact ⟨ret_int (by rw [HE.out]; rfl), rfl⟩
        · have h6 := HP.out k h1 (fun h => h2 h.2)
          have HE := Lib.hid (show R = fstN f (k + 1) (l.length - (k + 1)) by rw [HR.out, HPASS.out k hlt h6])
          rw [h1] at HC
          clear h6 h1 e1
          generalize l.getD k 0 = x at *
          generalize l.getD (k - 1) 0 = y at *
          have t1 : decide (x ≤ y) = false := decide_eq_false h2
          clear h2
          go_wp2_with fail
          refine (HC.out _).mono ?_
          rintro e w' ⟨rfl, rfl⟩
          go_wp2_with fail
          go_round
          case rel => exact ⟨k + 1, by omega, by go_num, HE.out⟩
          case measure => simp [intOf]; omega
      · have h6 := HP.out k h1 (fun h => h0 h.1)
        have HE := Lib.hid (show R = fstN f (k + 1) (l.length - (k + 1)) by rw [HR.out, HPASS.out k hlt h6])
        rw [h1] at HC
        clear h6 h1 hc
        generalize l.getD k 0 = x at *
        have q3 : decide (0 < (k : Int)) = false := decide_eq_false (by omega)
        have q4 : decide (0 < k) = false := decide_eq_false h0
        clear h0
        go_wp2_with fail
        refine (HC.out _).mono ?_
        rintro e w' ⟨rfl, rfl⟩
        go_wp2_with fail
        go_round
        case rel => exact ⟨k + 1, by omega, by go_num, HE.out⟩
        case measure => simp [intOf]; omega
    · have HE := Lib.hid (show R = 0 by rw [HR.out, HEND.out k (by omega)])
      go_wp2_with fail
      go_ret
      exact ⟨ret_int (by rw [HE.out]; rfl), rfl⟩

end Go.Proofs.YthnhacncnhknnaaGreatDoor

/-
  Graphs: a graph, an edge, a list of numbers as an argument, opened.
-/
namespace Go.Proofs.YthnhacncnhknnaaGreatDoor
open Go.RowKit

section
open Go.ChangeShapes Go.WideShapes Go.Deep
variable {H : Type} {enc : TypeId × Value → H} {W : World} {fuel : Nat} {cs : List Value} {x : DataW H × List MemPlace}

theorem cellsInt : Tryz.prog.cellsOf 3 = 1 := by kernel_rfl
theorem cellsInts : Tryz.prog.cellsOf 22 = 1 := by kernel_rfl
theorem cellsEds : Tryz.prog.cellsOf 23 = 1 := by kernel_rfl
theorem cellsEd : Tryz.prog.cellsOf 58 = 3 := by kernel_rfl
theorem cellsGr : Tryz.prog.cellsOf 25 = 2 := by kernel_rfl
theorem int_of (h : DataW.trod enc Tryz.prog W 0 (fun _ => true) true fuel 3 cs = some x) : ∃ n, cs = [.int .i64 n] ∧ I64 n := by
  obtain ⟨n, e, _, hw⟩ := DataW.trod_int Tryz.underlying3 h
  exact ⟨n, e, bounds_i64 hw⟩
theorem agg_of {cs : Array Value} {l : List Value} (h : (Value.agg cs).cells.toList = l) : cs = l.toArray := by
  have h2 : (Value.agg cs).cells = cs := rfl
  rw [h2] at h
  rw [← h]
theorem two_of {cs : List Value} (hl : cs.length = 2) {u v : Value} (h0 : (cs.drop 0).take 1 = [u]) (h1 : (cs.drop 1).take 1 = [v]) : cs = [u, v] := by
  match cs, hl with
  | [a, b], _ => simp at h0 h1; rw [h0, h1]
theorem edge_of (h : DataW.trod enc Tryz.prog W 0 (fun _ => true) true fuel 58 cs = some x) : ∃ y : Ed, cs = EEd.enc y ∧ True := by
  obtain ⟨y0, y1, y2, n, _, hl, h0, h1, h2⟩ := trod_struct3 Tryz.underlying58 h
  dsimp only at h0 h1 h2
  rw [cellsInt] at h0 h1 h2
  rw [cellsEd] at hl
  obtain ⟨d, e0, _⟩ := int_of h0
  obtain ⟨a, e1, _⟩ := int_of h1
  obtain ⟨b, e2, _⟩ := int_of h2
  refine ⟨⟨d, a, b⟩, ?_, trivial⟩
  match cs, hl with
  | [c0, c1, c2], _ => simp at e0 e1 e2; rw [e0, e1, e2]; rfl
theorem open_I (h : DataW.trod enc Tryz.prog W 0 (fun _ => true) true fuel 22 cs = some x) :
    ∃ (A : Option Addr) (xs : List Int) (c : Nat), cs = [.slice A xs.length c] ∧ Ints W W.heap.size A xs ∧ xs.length ≤ c ∧ c ≤ maxLen := by
  obtain ⟨A, xs, c, e, hR, _, h1, h2⟩ := open_E EInt (fun _ => True) 3 22 Tryz.underlying22 cellsInt (by decide) (fun fuel cs x h => by obtain ⟨n, e, _⟩ := int_of h; exact ⟨n, e, trivial⟩) h
  exact ⟨A, xs, c, e, hR, h1, h2⟩
/-- a graph among the arguments -/
theorem open_G (h : DataW.trod enc Tryz.prog W 0 (fun _ => true) true fuel 25 cs = some x) :
    ∃ (g : Gr) (An : Option Addr) (cn : Nat) (Ae : Option Addr) (ce : Nat), cs = [.slice An g.ns.length cn, .slice Ae g.es.length ce] ∧ GrAt W An cn Ae ce g := by
  obtain ⟨y0, y1, n, hx, hl, h0, h1⟩ := trod_struct2 Tryz.underlying25 h
  dsimp only at h0 h1
  rw [cellsInts] at h0
  rw [cellsEds] at h1
  rw [cellsGr] at hl
  obtain ⟨An, ns, cn, e0, hN, hn1, hn2⟩ := open_I h0
  obtain ⟨Ae, es, ce, e1, hE, _, he1, he2⟩ := open_E EEd (fun _ => True) 58 23 Tryz.underlying23 cellsEd (by decide) (fun fuel cs x h => edge_of h) h1
  exact ⟨⟨ns, es⟩, An, cn, Ae, ce, two_of hl e0 e1, ⟨hN, hE, ⟨hn1, hn2⟩, ⟨he1, he2⟩⟩⟩
end

end Go.Proofs.YthnhacncnhknnaaGreatDoor

/-
  Drafts: what numbers describe a graph, as plain data and in memory.
-/
namespace Go.Proofs.YthnhacncnhknnaaGreatDoor
open Go.RowKit

abbrev B3 := Nat × Nat × Nat
/-! in memory -/
section
open Go.ChangeShapes Go.WideShapes Go.Deep
variable {H : Type} {enc : TypeId × Value → H} {W : World} {fuel : Nat} {cs : List Value} {x : DataW H × List MemPlace}
end

end Go.Proofs.YthnhacncnhknnaaGreatDoor

/-
  The boxes of a call: its arguments, one after another, two cells each; and a result.
-/
namespace Go.Proofs.YthnhacncnhknnaaGreatDoor
open Go.RowKit Go.Shelf

abbrev Bx := Value × Value × TypeId
/-- since w: the boxes L in new blocks, one after another -/
def SR (w : World) (L : List Bx) (u : World) : Prop := Below w.heap.size w u ∧ ∀ (i : Nat) (x : Bx), L[i]? = some x → u.heap[w.heap.size + i]? = some (.cells #[x.1, x.2.1] x.2.2 (0, 0))
theorem SR.nil (w : World) : SR w [] w := ⟨Below.refl _ _, fun i x h => by simp at h⟩
theorem SR.push {w u : World} {L : List Bx} (h : SR w L u) (hs : u.heap.size = w.heap.size + L.length) (a b : Value) (t : TypeId) : SR w (L ++ [(a, b, t)]) (u.alloc (.cells #[a, b] t)) := by
  refine ⟨h.1.alloc (by omega) _, fun i x hx => ?_⟩
  by_cases hi : i < L.length
  · rw [List.getElem?_append_left hi] at hx
    rw [at_alloc, if_neg (by omega)]
    exact h.2 i x hx
  · rw [List.getElem?_append_right (by omega)] at hx
    have h0 : i - L.length = 0 := by
      rcases Nat.eq_zero_or_pos (i - L.length) with h | h
      · exact h
      · rw [List.getElem?_eq_none (by simp; omega)] at hx; cases hx
    rw [h0] at hx
    simp at hx
    subst hx
    rw [at_alloc, if_pos (by omega)]
theorem SR.up {w u u' : World} {L : List Bx} (h : SR w L u) (hb : Below u.heap.size u u') : SR w L u' := ⟨h.1.trans (hb.mono h.1.size), fun i x hx => heap_up hb (h.2 i x hx)⟩
theorem SR.cell {w u : World} {L : List Bx} (h : SR w L u) {i : Nat} {x : Bx} (hx : L[i]? = some x) : u.cell? ⟨w.heap.size + i, 0, none⟩ = some x.1 ∧ u.cell? ⟨w.heap.size + i, 1, none⟩ = some x.2.1 := cell2 (h.2 i x hx)
theorem SR.free {w u : World} {L : List Bx} (h : SR w L u) {i : Nat} {x : Bx} (hx : L[i]? = some x) (j : Nat) : u.frozen? ⟨w.heap.size + i, j, none⟩ = false := frozen_of_row _ _ _ _ _ (h.2 i x hx)
/-- both cells of a box written anew -/
theorem SR.set {w u : World} {L : List Bx} {i : Nat} {x : Bx} (h : SR w L u) (hx : L[i]? = some x) (a b : Value) : SR w (L.set i (a, b, x.2.2)) ((u.setCell ⟨w.heap.size + i, 0, none⟩ a).setCell ⟨w.heap.size + i, 1, none⟩ b) := by
  refine ⟨(h.1.setCell (p := ⟨w.heap.size + i, 0, none⟩) (by show w.heap.size ≤ w.heap.size + i; omega) a).setCell (p := ⟨w.heap.size + i, 1, none⟩) (by show w.heap.size ≤ w.heap.size + i; omega) b, fun k y hy => ?_⟩
  by_cases e : i = k
  · subst e
    have hl : i < L.length := (List.getElem?_eq_some_iff.1 hx).1
    rw [List.getElem?_set, if_pos rfl, if_pos hl] at hy
    injection hy with hy
    subst hy
    exact store2 (h := w.heap.size + i) ⟨_, _, h.2 i x hx⟩ a b
  · rw [List.getElem?_set, if_neg e] at hy
    exact (heap_setCell_other _ _ _ _ (by show w.heap.size + k ≠ w.heap.size + i; omega)).trans ((heap_setCell_other _ _ _ _ (by show w.heap.size + k ≠ w.heap.size + i; omega)).trans (h.2 k y hy))
theorem cell_up {u u' : World} {g o : Nat} {v : Value} (hb : Below u.heap.size u u') (h : u.cell? ⟨g, o, none⟩ = some v) : u'.cell? ⟨g, o, none⟩ = some v := (hb.cell (p := ⟨g, o, none⟩) (World.block_lt_of_cell? _ _ h)).trans h

/-! what the other functions answer, as plain data -/
end Go.Proofs.YthnhacncnhknnaaGreatDoor

/-
  The reference's small functions: SameInts, Finest, Through, Distinct, Covers, Back.
-/
namespace Go.Proofs.YthnhacncnhknnaaGreatDoor
open Go.RowKit

set_option maxHeartbeats 1000000 in
theorem sameInts2_any (xs ys : List Int) (A A' : Option Addr) (B B' c c' : Nat) (w : World) (hx : xs.length ≤ maxLen) (hA : Ints w B A xs) (hB : Ints w B' A' ys) :
    Calls Tryz.prog 40 #[.slice A xs.length c, .slice A' ys.length c'] w fun e w' => e = .returned (.bool (decide (xs = ys))) ∧ Below w.heap.size w w' := by
  unfold maxLen at hx
  by_cases hl : xs.length = ys.length
  · have t : ((xs.length : Int) != (ys.length : Int)) = false := by simp; omega
    have HA := Lib.hid hA
    have HB := Lib.hid hB
    have HLN := Lib.hid hl
    have hyl : ys.length ≤ xs.length := by omega
    have hxl : xs.length ≤ ys.length := by omega
    clear hA hB hl
    go_enter Tryz.func40, Tryz.ntmps40
    go_wp2
    go_loopw [5] (fun i wr => ∃ k q : Nat, k ≤ xs.length ∧ i = .int .i64 k ∧ wr = w.drewN q ∧ ∀ j, j < k → xs.getD j 0 = ys.getD j 0) (fun i _ => xs.length - (intOf i).toNat)
    case atStart => exact ⟨0, 0, Nat.zero_le _, rfl, rfl, fun j hj => by omega⟩
    case round =>
      obtain ⟨k, q, hk, rfl, rfl, hs⟩ := hrel
      have HS := Lib.hid hs
      clear hs
      by_cases hlt : k < xs.length
      · have hlt' : k < ys.length := by omega
        obtain ⟨b, off, rfl, hb, hc⟩ := Ints.cells HA.out hlt
        obtain ⟨b', off', rfl, hb', hd⟩ := Ints.cells HB.out hlt'
        have ck := hc k hlt
        have dk := hd k hlt'
        clear hc hd
        have hk0 : (0 : Int) ≤ (k : Int) := by omega
        have hk1 : (k : Int) < (xs.length : Int) := by omega
        have hk1' : (k : Int) < (ys.length : Int) := by omega
        have hk2 : ((k : Int)).toNat = k := by omega
        by_cases he : xs.getD k 0 = ys.getD k 0
        · have HE := Lib.hid he
          rw [he] at ck
          generalize ys.getD k 0 = y at ck dk
          clear he
          have t2 : (y != y) = false := by simp
          go_wp2_with fail
          go_quiet (fail)
          go_wp2_with fail
          go_roundw
          case rel => exact ⟨k + 1, _, by omega, by go_num, rfl, fun j hj => by
            by_cases e : j = k
            · subst e; exact HE.out
            · exact HS.out j (by omega)⟩
          case measure => simp [intOf]; omega
        · have H := Lib.hid (show decide (xs = ys) = false from decide_eq_false (fun h => he (by rw [h])))
          generalize xs.getD k 0 = x at ck he
          generalize ys.getD k 0 = y at dk he
          have t2 : (x != y) = true := by simp [bne, he]
          clear he
          go_wp2_with fail
          go_quiet (fail)
          go_wp2_with fail
          go_ret
          exact ⟨ret_bool (by rw [H.out]), below_draws (below_draws (Below.refl _ _) q) _⟩
      · have H := Lib.hid (show decide (xs = ys) = true from decide_eq_true (by
          apply List.ext_getElem HLN.out
          intro j h1 h2
          have := HS.out j (by omega)
          simpa [List.getD, h1, h2] using this))
        go_wp2
        go_ret
        exact ⟨ret_bool (by rw [H.out]), below_draws (Below.refl _ _) q⟩
  · have t : ((xs.length : Int) != (ys.length : Int)) = true := by simp; omega
    have H := Lib.hid (show decide (xs = ys) = false from decide_eq_false (fun h => hl (by rw [h])))
    clear hl hA hB
    go_enter Tryz.func40, Tryz.ntmps40
    go_wp2
    go_ret
    exact ⟨ret_bool (by rw [H.out]), Below.refl _ _⟩

end Go.Proofs.YthnhacncnhknnaaGreatDoor
