import Derived.Test.YthnhacncnhknnaaDoorZ02
import Derived.Test.YthnhacncnhknnaaDoorZ01
import Derived.ProofKit
import Derived.OpenShut
import Derived.Deep.Slices
import Derived.Deep.Strs
import Derived.SizedLaws
import Derived.Lib.SmallJoins
import Derived.Test.YthnhacncnhknnaaDoorProg
import Derived.WalkKit
import Derived.WalkSpells
import Derived.Lib.Hide
import Derived.Shelf.Spec.TrailingZeros
import Derived.IntWalk
import Derived.OwnWalkIn
import Derived.Laws.StructEq
import Derived.Deep.MidRow
import Derived.Laws.Rows
import Derived.Deep.DeepCutAuto
import Derived.ArgAppend
import Derived.LoopTactic
import Derived.Deep.RegionHeld3
import Derived.Great.BuildSlice
import Derived.Maps.AppendAt
import Derived.Sort.OwnSortedInts
import Derived.Lib.OwnBridge
/-
  Graphs: a function's box and its two result variables.
-/
namespace Go.Proofs.YthnhacncnhknnaaDoor
open Go.RowKit

/-- the box w.size is read, the two variables behind it are written -/
abbrev S2 (w : World) (u v : Value) (t' t t2 : TypeId) (W : World) : Prop :=
  (W.cell? ⟨w.heap.size, 0, none⟩ = some u ∧ W.cell? ⟨w.heap.size, 1, none⟩ = some v) ∧ (Sto (w.heap.size + 1) W ∧ Sto (w.heap.size + 2) W) ∧ BoxIs w.heap.size u v t' W ∧ Blk (w.heap.size + 1) t W ∧ Blk (w.heap.size + 2) t2 W ∧ Below w.heap.size w W
section
variable {w W W' : World} {u v : Value} {t' t t2 : TypeId}
theorem S2.mk (h1 : BoxIs w.heap.size u v t' W) (h2 : Blk (w.heap.size + 1) t W) (h3 : Blk (w.heap.size + 2) t2 W) (h4 : Below w.heap.size w W) : S2 w u v t' t t2 W := ⟨h1.cells, ⟨h2.sto, h3.sto⟩, h1, h2, h3, h4⟩
theorem S2.be (h : S2 w u v t' t t2 W) : Below w.heap.size w W := h.2.2.2.2.2
theorem S2.up (h : S2 w u v t' t t2 W) (hb : Below W.heap.size W W') : S2 w u v t' t t2 W' := S2.mk (h.2.2.1.up hb) (h.2.2.2.1.up hb) (h.2.2.2.2.1.up hb) (h.be.trans (hb.mono h.be.size))
theorem S2.grow {t0 : TypeId} {base : Nat} (h : S2 w u v t' t t2 W) (ht : t' ≠ t0) (ht2 : t ≠ t0) (ht3 : t2 ≠ t0) (hb : w.heap.size ≤ base) (hg : Grow t0 base W W') : S2 w u v t' t t2 W' := S2.mk (h.2.2.1.grow ht hg) (h.2.2.2.1.grow ht2 hg) (h.2.2.2.2.1.grow ht3 hg) (h.be.trans (hg.1.mono hb))
theorem S2.set (h : S2 w u v t' t t2 W) {p : Addr} (hp : w.heap.size + 3 ≤ p.block) (x : Value) : S2 w u v t' t t2 (W.setCell p x) :=
  S2.mk (h.2.2.1.set (by omega) x) (h.2.2.2.1.set (by omega) x) (h.2.2.2.2.1.set (by omega) x) (h.be.setCell (by omega) x)
theorem S2.start (w : World) (u v a b c d : Value) (t' t t2 : TypeId) : S2 w u v t' t t2 (((w.alloc (.cells #[u, v] t' (0, 0))).alloc (.cells #[a, b] t (0, 0))).alloc (.cells #[c, d] t2 (0, 0))) := by
  have h0 := heap_two w (.cells #[u, v] t' (0, 0)) (.cells #[a, b] t (0, 0))
  have h1 := heap_two' w (.cells #[u, v] t' (0, 0)) (.cells #[a, b] t (0, 0))
  have h2 := heap_alloc_new ((w.alloc (.cells #[u, v] t' (0, 0))).alloc (.cells #[a, b] t (0, 0))) (.cells #[c, d] t2 (0, 0))
  exact S2.mk (heap_up (below_a _ _) h0) ⟨a, b, heap_up (below_a _ _) h1⟩ ⟨c, d, by simpa using h2⟩ ((((Below.refl _ _).alloc (Nat.le_refl _) _).alloc (by simp) _).alloc (by simp; omega) _)
theorem S2.lt (h : S2 w u v t' t t2 W) : w.heap.size < W.heap.size ∧ w.heap.size + 1 < W.heap.size ∧ w.heap.size + 2 < W.heap.size := by
  have := heap_lt h.2.2.2.2.1.choose_spec.choose_spec
  omega
/-- both results are written, in this order or the other -/
abbrev set4 (W : World) (g h : Nat) (a b c d : Value) : World := (((W.setCell ⟨g, 0, none⟩ a).setCell ⟨g, 1, none⟩ b).setCell ⟨h, 0, none⟩ c).setCell ⟨h, 1, none⟩ d
theorem S2.store (h : S2 w u v t' t t2 W) (a b c d : Value) : Below w.heap.size w (set4 W (w.heap.size + 1) (w.heap.size + 2) a b c d) ∧ (set4 W (w.heap.size + 1) (w.heap.size + 2) a b c d).heap[w.heap.size + 1]? = some (.cells #[a, b] t (0, 0)) ∧ (set4 W (w.heap.size + 1) (w.heap.size + 2) a b c d).heap[w.heap.size + 2]? = some (.cells #[c, d] t2 (0, 0)) := by
  have h1 := store2 h.2.2.2.1 a b
  have k : Blk (w.heap.size + 2) t2 ((W.setCell ⟨w.heap.size + 1, 0, none⟩ a).setCell ⟨w.heap.size + 1, 1, none⟩ b) := (h.2.2.2.2.1.set (by simp) _).set (by simp) _
  exact ⟨(((h.be.setCell (by simp) _).setCell (by simp) _).setCell (by simp) _).setCell (by simp) _, (Below.heap_setCell _ _ _ _ (by simp)).trans ((Below.heap_setCell _ _ _ _ (by simp)).trans h1), store2 k c d⟩
end
theorem OwnE.setBox {α : Type} {E : El α} {t t' : TypeId} {w : World} {base g : Nat} {v a b x : Value} {xs : List α} (h : OwnE E t w base v xs) (hb : BoxIs g a b t' w) (ht : t ≠ t') (j : Nat) : OwnE E t (w.setCell ⟨g, j, none⟩ x) base v xs := by
  refine ⟨h.1, ?_⟩
  rcases h.2 with hn | ⟨g2, cap, cur, hv, hbg, hh, rest⟩
  · exact .inl hn
  · refine .inr ⟨g2, cap, cur, hv, hbg, (Below.heap_setCell w ⟨g, j, none⟩ x g2 (fun e => ?_)).trans hh, rest⟩
    have e : g2 = g := e
    subst e
    unfold BoxIs at hb
    rw [hb] at hh
    simp only [Option.some.injEq, Obj.cells.injEq] at hh
    exact ht hh.2.1.symm
/-- a row is kept by stores into blocks below its base -/
theorem OwnE.set4 {α : Type} {E : El α} {t : TypeId} {W : World} {base g h : Nat} {v : Value} {xs : List α} (ho : OwnE E t W base v xs) (hg : g < base) (hh : h < base) (a b c d : Value) : OwnE E t (Go.Proofs.YthnhacncnhknnaaDoor.set4 W g h a b c d) base v xs :=
  ownsRow_setCell_below (ownsRow_setCell_below (ownsRow_setCell_below (ownsRow_setCell_below ho (a := ⟨g, 0, none⟩) hg a) (a := ⟨g, 1, none⟩) hg b) (a := ⟨h, 0, none⟩) hh c) (a := ⟨h, 1, none⟩) hh d
theorem OwnE.store2 {α : Type} {E : El α} {t t' : TypeId} {W : World} {base g : Nat} {v : Value} {xs : List α} (h : OwnE E t W base v xs) (hb : Blk g t' W) (ht : t ≠ t') (a b : Value) : OwnE E t ((W.setCell ⟨g, 0, none⟩ a).setCell ⟨g, 1, none⟩ b) base v xs := by
  obtain ⟨x, y, hh⟩ := hb
  have hh : BoxIs g x y t' W := hh
  exact (h.setBox hh ht 0).setBox (hh.set0 a) ht 1
theorem step_append_G {α : Type} {E : El α} {w : World} {ops : Array Oper} {o : Oper} {a : Act} {K : Act → World → Prop} {Q : Exit → Act → World → Prop} {X : Prop} (hgd : o.guard = none) (s x : Operand) (T t : TypeId)
    (ho : o.op = .call { callee := .builtin .append, args := #[s, x], argTypes := #[T, T] }) {z : Value} {bytes : Nat}
    (hT : Tryd.prog.underlying T = some (.slice t)) (hinfo : (Tryd.prog.info? t).map (fun i => (i.zero, i.size, i.bytes)) = some (some z, E.size, bytes)) (hzc : z.cells.size = E.size) (hpos : 0 < E.size) (hby : bytes ≤ 1000)
    (base : Nat) (v : Value) (xs : List α) (hs : a.eval s = v) (hown : OwnE E t w base v xs) (ad : Addr) (c : Nat) (m : α) (hx : a.eval x = .slice (some ad) 1 c)
    (hc : ∀ j u, (E.enc m)[j]? = some u → w.cell? (ad.add j) = some u) (hl : xs.length ≤ 1000000) (hbase : base ≤ w.heap.size)
    (hK : ∀ v' w', OwnE E t w' base v' (xs ++ [m]) → Grow t base w w' → K (a.put o.dst v') w') : if Region.wanted o (yielded ops a.tmps) = true then Oper.wp Tryd.prog o a w K Q else X :=
  step_append_E hgd s x T t ho hT hinfo hzc hpos hby base v xs hs hown ad c m hx hc hl hbase fun v' w' h1 h2 h3 => hK v' w' h1 (Grow.own hown h2 h3)
theorem bcell {W w1 : World} (hb : Below W.heap.size W w1) : (∀ b o, b < W.heap.size → w1.cell? ⟨b, o, none⟩ = W.cell? ⟨b, o, none⟩) ∧ (∀ b o, b < W.heap.size → w1.frozen? ⟨b, o, none⟩ = W.frozen? ⟨b, o, none⟩) :=
  ⟨fun b o h => hb.cell (p := ⟨b, o, none⟩) h, fun b o h => hb.frozen (p := ⟨b, o, none⟩) h⟩

end Go.Proofs.YthnhacncnhknnaaDoor

/-
  Arguments: a slice of plain elements, opened.
-/
namespace Go.Proofs.YthnhacncnhknnaaDoor
open Go.RowKit

theorem laidOut : laidOutB Tryd.prog = true := by kernel_rfl
theorem ownNone : ownKnob Tryd.prog.godebug = none := by kernel_rfl
section
open Go.ChangeShapes Go.WideShapes Go.Deep

theorem open_E {α : Type} (E : El α) (G : α → Prop) (t T : TypeId) (hT : Tryd.prog.underlying T = some (.slice t)) (hc : Tryd.prog.cellsOf t = E.size) (hp : 0 < E.size) [Inhabited α]
    {H : Type} {enc : TypeId × Value → H} {W : World} (hdec : ∀ (fuel : Nat) (cs : List Value) (x : DataW H × List MemPlace), DataW.trod enc Tryd.prog W 0 (fun _ => true) true fuel t cs = some x → ∃ y, cs = E.enc y ∧ G y)
    {fuel : Nat} {cs : List Value} {x : DataW H × List MemPlace} (h : DataW.trod enc Tryd.prog W 0 (fun _ => true) true fuel T cs = some x) :
    ∃ (A : Option Addr) (xs : List α) (c : Nat), cs = [.slice A xs.length c] ∧ Reads E W W.heap.size A xs ∧ (∀ y ∈ xs, G y) ∧ xs.length ≤ c ∧ c ≤ maxLen := by
  rcases open_slice hT h with ⟨rfl, rfl⟩ | ⟨a, len, cap, m, n, D, Pl, rfl, _, hlc, hcm, hm, rfl, hi⟩
  · exact ⟨none, [], 0, rfl, .inl rfl, fun y hy => by simp at hy, by simp, by simp⟩
  · simp only [if_true] at hm
    subst hm
    have hget : ∀ i, ∃ y : α, i < len → G y ∧ ∀ j u, (E.enc y)[j]? = some u → W.cell? (a.add (i * E.size + j)) = some u := by
      intro i
      by_cases hil : i < len
      · obtain ⟨cs', hcs, ht⟩ := hi i (by omega)
        rw [hc] at hcs
        obtain ⟨_, hl2, hat⟩ := World.cells?_some hcs
        obtain ⟨y, rfl, hg⟩ := hdec _ _ _ ht
        refine ⟨y, fun _ => ⟨hg, fun j u hu => ?_⟩⟩
        have hj : j < E.size := by
          rw [← E.len y]
          rcases Nat.lt_or_ge j (E.enc y).length with h1 | h1
          · exact h1
          · rw [List.getElem?_eq_none h1] at hu; cases hu
        have := hat j hj
        rw [Addr.add_add] at this
        rw [this, hu]
      · exact ⟨default, fun h => absurd h hil⟩
    obtain ⟨f, hf⟩ := Classical.axiomOfChoice hget
    have hlf : ((List.range len).map f).length = len := by simp
    refine ⟨some a, (List.range len).map f, m, by rw [hlf], ?_, ?_, by omega, hcm⟩
    · by_cases h0 : len = 0
      · subst h0; exact .inl rfl
      · obtain ⟨b, off, spot⟩ := a
        obtain ⟨u, hu⟩ : ∃ u, (E.enc (f 0))[0]? = some u := ⟨_, List.getElem?_eq_getElem (by rw [E.len]; exact hp)⟩
        have hc0 := (hf 0 (by omega)).2 0 u hu
        have hspot : spot = none := by simpa [Addr.add] using World.cell?_spot hc0
        subst hspot
        have hb : b < W.heap.size := by
          have := World.block_lt_of_cell? W _ hc0
          simpa [Addr.add] using this
        refine .inr ⟨b, off, rfl, hb, fun i y hy j u hu => ?_⟩
        rw [List.getElem?_map, Option.map_eq_some_iff] at hy
        obtain ⟨i', hi', rfl⟩ := hy
        rw [List.getElem?_eq_some_iff] at hi'
        obtain ⟨h1, h2⟩ := hi'
        rw [List.getElem_range] at h2
        rw [List.length_range] at h1
        subst h2
        have := (hf i h1).2 j u hu
        rw [addr_plain] at this
        rw [show off + i * E.size + j = off + (i * E.size + j) by omega]
        exact this
    · intro y hy
      rw [List.mem_map] at hy
      obtain ⟨i, hi1, rfl⟩ := hy
      exact (hf i (by simpa using hi1)).1

end

end Go.Proofs.YthnhacncnhknnaaDoor

/-
  Graphs: a graph, an edge, a list of numbers as an argument, opened.
-/
namespace Go.Proofs.YthnhacncnhknnaaDoor
open Go.RowKit

section
open Go.ChangeShapes Go.WideShapes Go.Deep
variable {H : Type} {enc : TypeId × Value → H} {W : World} {fuel : Nat} {cs : List Value} {x : DataW H × List MemPlace}

theorem cellsInt : Tryd.prog.cellsOf 3 = 1 := by kernel_rfl
theorem cellsInts : Tryd.prog.cellsOf 22 = 1 := by kernel_rfl
theorem cellsEds : Tryd.prog.cellsOf 23 = 1 := by kernel_rfl
theorem cellsEd : Tryd.prog.cellsOf 73 = 3 := by kernel_rfl
theorem cellsGr : Tryd.prog.cellsOf 25 = 2 := by kernel_rfl
theorem int_of (h : DataW.trod enc Tryd.prog W 0 (fun _ => true) true fuel 3 cs = some x) : ∃ n, cs = [.int .i64 n] ∧ I64 n := by
  obtain ⟨n, e, _, hw⟩ := DataW.trod_int Tryd.underlying3 h
  exact ⟨n, e, bounds_i64 hw⟩
theorem agg_of {cs : Array Value} {l : List Value} (h : (Value.agg cs).cells.toList = l) : cs = l.toArray := by
  have h2 : (Value.agg cs).cells = cs := rfl
  rw [h2] at h
  rw [← h]
theorem two_of {cs : List Value} (hl : cs.length = 2) {u v : Value} (h0 : (cs.drop 0).take 1 = [u]) (h1 : (cs.drop 1).take 1 = [v]) : cs = [u, v] := by
  match cs, hl with
  | [a, b], _ => simp at h0 h1; rw [h0, h1]
theorem edge_of (h : DataW.trod enc Tryd.prog W 0 (fun _ => true) true fuel 73 cs = some x) : ∃ y : Ed, cs = EEd.enc y ∧ True := by
  obtain ⟨y0, y1, y2, n, _, hl, h0, h1, h2⟩ := trod_struct3 Tryd.underlying73 h
  dsimp only at h0 h1 h2
  rw [cellsInt] at h0 h1 h2
  rw [cellsEd] at hl
  obtain ⟨d, e0, _⟩ := int_of h0
  obtain ⟨a, e1, _⟩ := int_of h1
  obtain ⟨b, e2, _⟩ := int_of h2
  refine ⟨⟨d, a, b⟩, ?_, trivial⟩
  match cs, hl with
  | [c0, c1, c2], _ => simp at e0 e1 e2; rw [e0, e1, e2]; rfl
theorem open_I (h : DataW.trod enc Tryd.prog W 0 (fun _ => true) true fuel 22 cs = some x) :
    ∃ (A : Option Addr) (xs : List Int) (c : Nat), cs = [.slice A xs.length c] ∧ Ints W W.heap.size A xs ∧ xs.length ≤ c ∧ c ≤ maxLen := by
  obtain ⟨A, xs, c, e, hR, _, h1, h2⟩ := open_E EInt (fun _ => True) 3 22 Tryd.underlying22 cellsInt (by decide) (fun fuel cs x h => by obtain ⟨n, e, _⟩ := int_of h; exact ⟨n, e, trivial⟩) h
  exact ⟨A, xs, c, e, hR, h1, h2⟩
/-- a graph among the arguments -/
theorem open_G (h : DataW.trod enc Tryd.prog W 0 (fun _ => true) true fuel 25 cs = some x) :
    ∃ (g : Gr) (An : Option Addr) (cn : Nat) (Ae : Option Addr) (ce : Nat), cs = [.slice An g.ns.length cn, .slice Ae g.es.length ce] ∧ GrAt W An cn Ae ce g := by
  obtain ⟨y0, y1, n, hx, hl, h0, h1⟩ := trod_struct2 Tryd.underlying25 h
  dsimp only at h0 h1
  rw [cellsInts] at h0
  rw [cellsEds] at h1
  rw [cellsGr] at hl
  obtain ⟨An, ns, cn, e0, hN, hn1, hn2⟩ := open_I h0
  obtain ⟨Ae, es, ce, e1, hE, _, he1, he2⟩ := open_E EEd (fun _ => True) 73 23 Tryd.underlying23 cellsEd (by decide) (fun fuel cs x h => edge_of h) h1
  exact ⟨⟨ns, es⟩, An, cn, Ae, ce, two_of hl e0 e1, ⟨hN, hE, ⟨hn1, hn2⟩, ⟨he1, he2⟩⟩⟩
end

end Go.Proofs.YthnhacncnhknnaaDoor

/-
  Drafts: what numbers describe a graph, as plain data and in memory.
-/
namespace Go.Proofs.YthnhacncnhknnaaDoor
open Go.RowKit

abbrev B3 := Nat × Nat × Nat
/-! in memory -/
section
open Go.ChangeShapes Go.WideShapes Go.Deep
variable {H : Type} {enc : TypeId × Value → H} {W : World} {fuel : Nat} {cs : List Value} {x : DataW H × List MemPlace}
end

end Go.Proofs.YthnhacncnhknnaaDoor

/-
  edgeMaps: the lists of images that edges can have, for given images of the nodes.
-/
namespace Go.Proofs.YthnhacncnhknnaaDoor
open Go.RowKit Go.Shelf

/-- three stores into a structure of three cells -/
theorem set3R {W : World} {g : Nat} {a b c x y z : Value} {t : TypeId} (h : W.heap[g]? = some (.cells #[a, b, c] t (0, 0))) :
    (((W.setCell ⟨g, 0, none⟩ x).setCell ⟨g, 1, none⟩ y).setCell ⟨g, 2, none⟩ z).heap[g]? = some (.cells #[x, y, z] t (0, 0)) := by
  have h1 := heap_setCell_same W g 0 _ _ x h
  have h2 := heap_setCell_same _ g 1 _ _ y h1
  exact heap_setCell_same _ g 2 _ _ z h2
theorem set3_other {W : World} {g k : Nat} (x y z : Value) (h : k ≠ g) : (((W.setCell ⟨g, 0, none⟩ x).setCell ⟨g, 1, none⟩ y).setCell ⟨g, 2, none⟩ z).heap[k]? = W.heap[k]? :=
  (heap_setCell_other _ _ _ _ h).trans ((heap_setCell_other _ _ _ _ h).trans (heap_setCell_other _ _ _ _ h))

set_option maxHeartbeats 2000000 in
theorem moveEndsM_any (x : Ed) (l : List Int) (Nn : Option Addr) (cn : Nat) (w : World) (B : Nat) (hN : Ints w B Nn l) (h1 : 0 ≤ x.fr ∧ x.fr < l.length) (h2 : 0 ≤ x.tq ∧ x.tq < l.length) :
    Calls Tryd.prog 86 #[.agg #[.int .i64 x.ty, .int .i64 x.fr, .int .i64 x.tq], .slice Nn l.length cn] w fun e w' => e = .returned (.agg #[.int .i64 x.ty, .int .i64 (l.getD x.fr.toNat 0), .int .i64 (l.getD x.tq.toNat 0)]) ∧ Below w.heap.size w w' := by
  obtain ⟨ty, fr, tt⟩ := x
  dsimp only at h1 h2
  obtain ⟨f, rfl⟩ : ∃ f : Nat, fr = (f : Int) := ⟨fr.toNat, by omega⟩
  obtain ⟨t, rfl⟩ : ∃ t : Nat, tt = (t : Int) := ⟨tt.toNat, by omega⟩
  obtain ⟨b, off, rfl, hb, hc⟩ := Ints.cells hN (k := f) (by omega)
  have cf := hc f (by omega)
  have ct := hc t (by omega)
  have f0 : (0 : Int) ≤ (f : Int) := by omega
  have f1 : (f : Int) < (l.length : Int) := by omega
  have f2 : ((f : Int)).toNat = f := by omega
  have t0 : (0 : Int) ≤ (t : Int) := by omega
  have t1 : (t : Int) < (l.length : Int) := by omega
  have t2 : ((t : Int)).toNat = t := by omega
  have hbl : b < w.heap.size := World.block_lt_of_cell? w _ cf
  dsimp only
  rw [f2, t2]
  generalize l.getD f 0 = x at *
  generalize l.getD t 0 = y at *
  clear hc hN
  go_enter Tryd.func86, Tryd.ntmps86
  go_upto_region 1 with fail
  generalize hW1 : (w.alloc _).alloc _ = W1
  have hB : Below w.heap.size w W1 := by rw [← hW1]; exact ((Below.refl _ _).alloc (Nat.le_refl _) _).alloc (by simp) _
  have he : W1.heap[w.heap.size]? = some (.cells #[.int .i64 ty, .int .i64 (f : Int), .int .i64 (t : Int)] 73 (0, 0)) := by rw [← hW1]; exact heap_two _ _ _
  have hr : W1.heap[w.heap.size + 1]? = some (.cells #[.int .i64 0, .int .i64 0, .int .i64 0] 73 (0, 0)) := by rw [← hW1]; exact heap_two' _ _ _
  have cf1 : W1.cell? ⟨b, off + f, none⟩ = some (.int .i64 x) := (hB.cell (p := ⟨b, off + f, none⟩) hbl).trans cf
  have ct1 : W1.cell? ⟨b, off + t, none⟩ = some (.int .i64 y) := (hB.cell (p := ⟨b, off + t, none⟩) hbl).trans ct
  clear hW1 cf ct
  obtain ⟨e0, e1, e2⟩ := cell3 he
  obtain ⟨r0, r1, r2⟩ := cell3 hr
  have rf : ∀ j, W1.frozen? ⟨w.heap.size + 1, j, none⟩ = false := fun j => frozen_of_row _ _ _ _ _ hr
  have rf0 := rf 0
  have rf1 := rf 1
  have rf2 := rf 2
  have HS : Hid ((fun u : World => u.cell? ⟨w.heap.size, 0, none⟩ = some (.int .i64 ty) ∧ u.cell? ⟨w.heap.size, 1, none⟩ = some (.int .i64 (f : Int)) ∧ u.cell? ⟨w.heap.size, 2, none⟩ = some (.int .i64 (t : Int)) ∧ u.cell? ⟨b, off + f, none⟩ = some (.int .i64 x) ∧ u.cell? ⟨b, off + t, none⟩ = some (.int .i64 y)) W1.drew) := Lib.hid ⟨e0, e1, e2, cf1, ct1⟩
  have HB := Lib.hid hB
  have n1 : b ≠ w.heap.size + 1 := by omega
  have hlr := heap_lt hr
  have hW2 : ∃ W2 : World, W2 = (((W1.setCell ⟨w.heap.size + 1, 0, none⟩ (.int .i64 ty)).setCell ⟨w.heap.size + 1, 1, none⟩ (.int .i64 x)).setCell ⟨w.heap.size + 1, 2, none⟩ (.int .i64 y)).drew := ⟨_, rfl⟩
  obtain ⟨W2, hW2⟩ := hW2
  have k2 : ∀ k, k ≠ w.heap.size + 1 → W2.heap[k]? = W1.heap[k]? := fun k hk => by rw [hW2]; exact set3_other _ _ _ hk
  have HR2 : Hid (W2.heap[w.heap.size + 1]? = some (.cells #[.int .i64 ty, .int .i64 x, .int .i64 y] 73 (0, 0))) := Lib.hid (by rw [hW2]; exact set3R hr)
  have HS2 : Hid ((fun u : World => u.cell? ⟨w.heap.size, 0, none⟩ = some (.int .i64 ty) ∧ u.cell? ⟨w.heap.size, 1, none⟩ = some (.int .i64 (f : Int)) ∧ u.cell? ⟨w.heap.size, 2, none⟩ = some (.int .i64 (t : Int)) ∧ u.cell? ⟨b, off + f, none⟩ = some (.int .i64 x) ∧ u.cell? ⟨b, off + t, none⟩ = some (.int .i64 y)) W2) := by
    have g0 := cell3 ((k2 _ (by omega)).trans he)
    exact Lib.hid ⟨g0.1, g0.2.1, g0.2.2, (cell_heap (p := ⟨b, off + f, none⟩) (k2 b n1)).trans cf1, (cell_heap (p := ⟨b, off + t, none⟩) (k2 b n1)).trans ct1⟩
  have HB2 : Hid (Below w.heap.size w W2) := Lib.hid (by
    rw [hW2]
    exact (((HB.out.setCell (p := ⟨w.heap.size + 1, 0, none⟩) (show w.heap.size ≤ w.heap.size + 1 by omega) _).setCell (p := ⟨w.heap.size + 1, 1, none⟩) (show w.heap.size ≤ w.heap.size + 1 by omega) _).setCell (p := ⟨w.heap.size + 1, 2, none⟩) (show w.heap.size ≤ w.heap.size + 1 by omega) _).drew)
  have HW2 := Lib.hid hW2
  clear he rf e0 e1 e2 cf1 ct1 hB hr k2 hW2
  refine wp_region_noPanic ?_
  refine wp_region_held_drew (S := (fun u : World => u.cell? ⟨w.heap.size, 0, none⟩ = some (.int .i64 ty) ∧ u.cell? ⟨w.heap.size, 1, none⟩ = some (.int .i64 (f : Int)) ∧ u.cell? ⟨w.heap.size, 2, none⟩ = some (.int .i64 (t : Int)) ∧ u.cell? ⟨b, off + f, none⟩ = some (.int .i64 x) ∧ u.cell? ⟨b, off + t, none⟩ = some (.int .i64 y))) (by kernel_rfl) (HS.out) (fun hHeld => ?_)
  refine wpAnyH_take (i := 0) (v := ?_) (oper_at (r := _) rfl) (by kernel_rfl) (by kernel_rfl) (by kernel_rfl) (fun _ _ _ h => h) (Or.inl ⟨by rfl, ?_⟩) (by assumption) ?_
  rotate_left
  · intro w hSw; try dsimp only at hSw
    go_simp
    try with_reducible rfl
  try simp only [Act.put, List.setIfInBounds_toArray, List.set_cons_zero, List.set_cons_succ]
  refine wpAnyH_take (i := 1) (v := ?_) (oper_at (r := _) rfl) (by kernel_rfl) (by kernel_rfl) (by kernel_rfl) (fun _ _ _ h => h) (Or.inl ⟨by rfl, ?_⟩) (by assumption) ?_
  rotate_left
  · intro w hSw; try dsimp only at hSw
    go_simp
    try with_reducible rfl
  try simp only [Act.put, List.setIfInBounds_toArray, List.set_cons_zero, List.set_cons_succ]
  refine wpAnyH_take (i := 2) (v := ?_) (oper_at (r := _) rfl) (by kernel_rfl) (by kernel_rfl) (by kernel_rfl) (fun _ _ _ h => h) (Or.inl ⟨by rfl, ?_⟩) (by assumption) ?_
  rotate_left
  · intro w hSw; try dsimp only at hSw
    go_simp
    try with_reducible rfl
  try simp only [Act.put, List.setIfInBounds_toArray, List.set_cons_zero, List.set_cons_succ]
  refine wpAnyH_take (i := 3) (v := ?_) (oper_at (r := _) rfl) (by kernel_rfl) (by kernel_rfl) (by kernel_rfl) (fun _ _ _ h => h) (Or.inl ⟨by rfl, ?_⟩) (by assumption) ?_
  rotate_left
  · intro w hSw; try dsimp only at hSw
    go_simp
    try with_reducible rfl
  try simp only [Act.put, List.setIfInBounds_toArray, List.set_cons_zero, List.set_cons_succ]
  refine wpAnyH_take (i := 4) (v := ?_) (oper_at (r := _) rfl) (by kernel_rfl) (by kernel_rfl) (by kernel_rfl) (fun _ _ _ h => h) (Or.inl ⟨by rfl, ?_⟩) (by assumption) ?_
  rotate_left
  · intro w hSw; try dsimp only at hSw
    go_simp
    try with_reducible rfl
  try simp only [Act.put, List.setIfInBounds_toArray, List.set_cons_zero, List.set_cons_succ]
  refine wpAnyH_take (i := 5) (v := ?_) (oper_at (r := _) rfl) (by kernel_rfl) (by kernel_rfl) (by kernel_rfl) (fun _ _ _ h => h) (Or.inl ⟨by rfl, ?_⟩) (by assumption) ?_
  rotate_left
  · intro w hSw; try dsimp only at hSw
    go_simp
    try with_reducible rfl
  try simp only [Act.put, List.setIfInBounds_toArray, List.set_cons_zero, List.set_cons_succ]
  refine wpAnyH_take (i := 6) (v := ?_) (oper_at (r := _) rfl) (by kernel_rfl) (by kernel_rfl) (by kernel_rfl) (fun _ _ _ h => h) (Or.inl ⟨by rfl, ?_⟩) (by assumption) ?_
  rotate_left
  · intro w hSw; try dsimp only at hSw
    go_simp
    try with_reducible rfl
  try simp only [Act.put, List.setIfInBounds_toArray, List.set_cons_zero, List.set_cons_succ]
  refine wpAnyH_take (i := 7) (v := ?_) (oper_at (r := _) rfl) (by kernel_rfl) (by kernel_rfl) (by kernel_rfl) (fun _ _ _ h => h) (Or.inl ⟨by rfl, ?_⟩) (by assumption) ?_
  rotate_left
  · intro w hSw; try dsimp only at hSw
    go_simp
    try with_reducible rfl
  try simp only [Act.put, List.setIfInBounds_toArray, List.set_cons_zero, List.set_cons_succ]
  refine wpAnyH_take (i := 8) (v := ?_) (oper_at (r := _) rfl) (by kernel_rfl) (by kernel_rfl) (by kernel_rfl) (fun _ _ _ h => h) (Or.inl ⟨by rfl, ?_⟩) (by assumption) ?_
  rotate_left
  · intro w hSw; try dsimp only at hSw
    go_simp
    try with_reducible rfl
  try simp only [Act.put, List.setIfInBounds_toArray, List.set_cons_zero, List.set_cons_succ]
  refine wpAnyH_take (i := 9) (v := ?_) (oper_at (r := _) rfl) (by kernel_rfl) (by kernel_rfl) (by kernel_rfl) (fun _ _ _ h => h) (Or.inl ⟨by rfl, ?_⟩) (by assumption) ?_
  rotate_left
  · intro w hSw; try dsimp only at hSw
    go_simp
    try with_reducible rfl
  try simp only [Act.put, List.setIfInBounds_toArray, List.set_cons_zero, List.set_cons_succ]
  refine wpAnyH_take (i := 10) (v := ?_) (oper_at (r := _) rfl) (by kernel_rfl) (by kernel_rfl) (by kernel_rfl) (fun _ _ _ h => h) (Or.inl ⟨by rfl, ?_⟩) (by assumption) ?_
  rotate_left
  · intro w hSw; try dsimp only at hSw
    go_simp
    try with_reducible rfl
  try simp only [Act.put, List.setIfInBounds_toArray, List.set_cons_zero, List.set_cons_succ]
  refine wpAnyH_take (i := 11) (v := ?_) (oper_at (r := _) rfl) (by kernel_rfl) (by kernel_rfl) (by kernel_rfl) (fun _ _ _ h => h) (Or.inl ⟨by rfl, ?_⟩) (by assumption) ?_
  rotate_left
  · intro w hSw; try dsimp only at hSw
    go_simp
    try with_reducible rfl
  try simp only [Act.put, List.setIfInBounds_toArray, List.set_cons_zero, List.set_cons_succ]
  refine wpAnyH_take (i := 12) (v := ?_) (oper_at (r := _) rfl) (by kernel_rfl) (by kernel_rfl) (by kernel_rfl) (fun _ _ _ h => h) (Or.inl ⟨by rfl, ?_⟩) (by assumption) ?_
  rotate_left
  · intro w hSw; try dsimp only at hSw
    go_simp
    try with_reducible rfl
  try simp only [Act.put, List.setIfInBounds_toArray, List.set_cons_zero, List.set_cons_succ]
  refine wpAnyH_ready (rs := [13]) (by kernel_rfl) (by simp) ?_
  refine AllReadyH.cons (oper_at (r := _) rfl) (fun K hK => ?_) AllReadyH.nil
  go_simp
  rw [← HW2.out]
  refine hK.out _ _ (HS2.out) (fun _ => ?_)
  clear hK K
  try simp only [Act.put, List.setIfInBounds_toArray, List.set_cons_zero, List.set_cons_succ]
  obtain ⟨z0, z1, z2⟩ := cell3 HR2.out
  refine wpAnyH_done (by kernel_rfl) ?_ _
  refine NoPanic.normal ?_
  go_wp2
  refine bodyPost_ret (v := .agg #[.int .i64 ty, .int .i64 x, .int .i64 y]) (by simp [results, Tryd.results86, go_sem, z0, z1, z2]) rfl ?_
  exact ⟨rfl, HB2.out⟩

end Go.Proofs.YthnhacncnhknnaaDoor

/-
  Graphs, the program: the checks of AddNode, AddEdge, Union, Incident.
-/
namespace Go.Proofs.YthnhacncnhknnaaDoor
open Go.RowKit

theorem ne_beq {a b : Int} (h : a ≠ b) : (a == b) = false := beq_eq_false_iff_ne.2 h

end Go.Proofs.YthnhacncnhknnaaDoor

/-
  The program's Valid.
-/
namespace Go.Proofs.YthnhacncnhknnaaDoor
open Go.RowKit Go.Shelf

/-- the three boxes of a call that is given two graphs and a morphism -/
def VS (B : Nat) (v1 v2 v3 v4 v5 v6 : Value) (w u : World) : Prop :=
  u.heap[B]? = some (.cells #[v1, v2] 25 (0, 0)) ∧ u.heap[B + 1]? = some (.cells #[v3, v4] 25 (0, 0)) ∧ u.heap[B + 2]? = some (.cells #[v5, v6] 42 (0, 0)) ∧ Below w.heap.size w u ∧ B = w.heap.size
theorem VS.up {B : Nat} {v1 v2 v3 v4 v5 v6 : Value} {w u u' : World} (h : VS B v1 v2 v3 v4 v5 v6 w u) (hb : Below u.heap.size u u') : VS B v1 v2 v3 v4 v5 v6 w u' :=
  ⟨heap_up hb h.1, heap_up hb h.2.1, heap_up hb h.2.2.1, h.2.2.2.1.trans (hb.mono h.2.2.2.1.size), h.2.2.2.2⟩
theorem VS.cells {B : Nat} {v1 v2 v3 v4 v5 v6 : Value} {w u : World} (h : VS B v1 v2 v3 v4 v5 v6 w u) : u.cell? ⟨B, 0, none⟩ = some v1 ∧ u.cell? ⟨B, 1, none⟩ = some v2 ∧ u.cell? ⟨B + 1, 0, none⟩ = some v3 ∧ u.cell? ⟨B + 1, 1, none⟩ = some v4 ∧ u.cell? ⟨B + 2, 0, none⟩ = some v5 ∧ u.cell? ⟨B + 2, 1, none⟩ = some v6 :=
  ⟨(cell2 h.1).1, (cell2 h.1).2, (cell2 h.2.1).1, (cell2 h.2.1).2, (cell2 h.2.2.1).1, (cell2 h.2.2.1).2⟩
theorem VS.new (w : World) (v1 v2 v3 v4 v5 v6 : Value) : VS w.heap.size v1 v2 v3 v4 v5 v6 w (((w.alloc (.cells #[v1, v2] 25 (0, 0))).alloc (.cells #[v3, v4] 25 (0, 0))).alloc (.cells #[v5, v6] 42 (0, 0))) := by
  refine ⟨?_, ?_, ?_, ?_, rfl⟩
  · simp only [at_alloc, size_alloc]; repeat (first | rfl | (split; · (first | rfl | omega)))
  · simp only [at_alloc, size_alloc]; repeat (first | rfl | (split; · (first | rfl | omega)))
  · simp only [at_alloc, size_alloc]; repeat (first | rfl | (split; · (first | rfl | omega)))
  · refine Below.alloc (Below.alloc (Below.alloc (Below.refl _ _) ?_ _) ?_ _) ?_ _ <;> simp <;> omega

set_option maxRecDepth 100000 in
set_option maxHeartbeats 4000000 in
theorem validM_any (a b : Gr) (m : Mo) (An : Option Addr) (cn : Nat) (Ae : Option Addr) (ce : Nat) (Bn : Option Addr) (dn : Nat) (Be : Option Addr) (de : Nat) (Mn : Option Addr) (mn : Nat) (Me : Option Addr) (me : Nat) (w : World)
    (hT : GrAt w An cn Ae ce a) (hU : GrAt w Bn dn Be de b) (hM : Ints w w.heap.size Mn m.ns) (hN : Ints w w.heap.size Me m.es) (hl1 : m.ns.length ≤ 1000) (hl2 : m.es.length ≤ 1000) :
    Calls Tryd.prog 57 #[gval An a.ns.length cn Ae a.es.length ce, gval Bn b.ns.length dn Be b.es.length de, gval Mn m.ns.length mn Me m.es.length me] w fun e w' => e = .returned (.int .i64 (morE a b m)) ∧ Below w.heap.size w w' := by
  obtain ⟨B, hB⟩ : ∃ B, B = w.heap.size := ⟨_, rfl⟩
  have hV0 := VS.new w (.slice An a.ns.length cn) (.slice Ae a.es.length ce) (.slice Bn b.ns.length dn) (.slice Be b.es.length de) (.slice Mn m.ns.length mn) (.slice Me m.es.length me)
  rw [← hB] at hV0
  have HV0 := Lib.hid hV0
  have HC := Lib.hid (fun (u : World) (hu : Below w.heap.size w u) => chkM_any a b An cn Ae ce Bn dn Be de u (hT.up hu) (hU.up hu))
  have HR : Hid (morE a b m = if chkE a b ≠ 0 then chkE a b else if m.ns.length ≠ a.ns.length ∨ m.es.length ≠ a.es.length then 20
      else if fstN (mnAt a b m) 0 a.ns.length ≠ 0 then fstN (mnAt a b m) 0 a.ns.length else fstN (meAt a b m) 0 a.es.length) := Lib.hid (by
    unfold morE chkE
    by_cases h1 : validE a = 0
    · simp [h1]
    · simp [h1])
  have HCZ := Lib.hid (fun h => valid_zero (g := a) h)
  have HCV : Hid (chkE a b = 0 → validE a = 0) := Lib.hid (by unfold chkE; split <;> intro h <;> omega)
  have HT := Lib.hid hT
  have HU := Lib.hid hU
  have HM := Lib.hid hM
  have HN := Lib.hid hN
  have HVE := Lib.hid (fun (h : validE a = 0) i (hi : i < a.es.length) => valid_at h hi)
  clear hT hU hM hN hV0
  generalize morE a b m = R at HR ⊢
  generalize chkE a b = z at *
  have HBW := Lib.hid hB
  go_enter Tryd.func57, Tryd.ntmps57
  go_wp2_with fail
  refine (HC.out _ HV0.out.2.2.2.1).mono ?_
  rintro e w1 ⟨rfl, hb1⟩
  have hV := HV0.out.up hb1
  clear hb1 HV0 HC
  have HV := Lib.hid hV
  have hp := hV.cells
  rw [hB] at hp
  obtain ⟨p1, p2, p3, p4, p5, p6⟩ := hp
  clear hV hB
  by_cases hz : z = 0
  case neg =>
    have HRR := Lib.hid (show R = z by rw [HR.out, if_pos hz])
    have t1 : ((z : Int) != 0) = true := by simp; omega
    clear hz
    go_wp2_with fail
    go_ret
    exact ⟨ret_int (by rw [HRR.out]), HV.out.2.2.2.1⟩
  subst hz
  have HR1 := Lib.hid (show R = if m.ns.length ≠ a.ns.length ∨ m.es.length ≠ a.es.length then 20 else if fstN (mnAt a b m) 0 a.ns.length ≠ 0 then fstN (mnAt a b m) 0 a.ns.length else fstN (meAt a b m) 0 a.es.length by rw [HR.out, if_neg (fun h => h rfl)])
  clear HR
  by_cases h1 : m.ns.length = a.ns.length
  case neg =>
    have HRR := Lib.hid (show R = 20 by rw [HR1.out, if_pos (.inl h1)])
    have t1 : ((m.ns.length : Int) != (a.ns.length : Int)) = true := by simp; omega
    clear h1
    go_wp2_with fail
    go_ret
    exact ⟨ret_int (by rw [HRR.out]; rfl), HV.out.2.2.2.1⟩
  by_cases h2 : m.es.length = a.es.length
  case neg =>
    have HRR := Lib.hid (show R = 20 by rw [HR1.out, if_pos (.inr h2)])
    have t1 : ((m.ns.length : Int) != (a.ns.length : Int)) = false := by simp; omega
    have t2 : ((m.es.length : Int) != (a.es.length : Int)) = true := by simp; omega
    clear h1 h2
    go_wp2_with fail
    go_ret
    exact ⟨ret_int (by rw [HRR.out]; rfl), HV.out.2.2.2.1⟩
  have HR2 := Lib.hid (show R = if fstN (mnAt a b m) 0 a.ns.length ≠ 0 then fstN (mnAt a b m) 0 a.ns.length else fstN (meAt a b m) 0 a.es.length by rw [HR1.out, if_neg (fun h => h.elim (fun h => h h1) (fun h => h h2))])
  have t1 : ((m.ns.length : Int) != (a.ns.length : Int)) = false := by simp; omega
  have t2 : ((m.es.length : Int) != (a.es.length : Int)) = false := by simp; omega
  have HL1 := Lib.hid h1
  have HL2 := Lib.hid h2
  have HVA := Lib.hid (HVE.out (HCV.out rfl))
  obtain ⟨n40, e80, _⟩ := HCZ.out (HCV.out rfl)
  clear HR1 HCZ HCV HVE h1 h2
  have HHIT := Lib.hid (fun k (h : k < a.ns.length) hf => fstN_hit (f := mnAt a b m) h hf)
  have HPASS := Lib.hid (fun k (h : k < a.ns.length) hf => fstN_pass (f := mnAt a b m) h hf)
  have HEND := Lib.hid (fun k (h : a.ns.length ≤ k) => fstN_end (f := mnAt a b m) h)
  have HF : Hid (∀ k, mnAt a b m k = if idxB (m.ns.getD k 0) b.ns.length = false then 6 else if b.ns.getD (m.ns.getD k 0).toNat 0 ≠ a.ns.getD k 0 then 13 else 0) := Lib.hid fun k => rfl
  have HS0 : Hid (fstN (mnAt a b m) 0 a.ns.length = fstN (mnAt a b m) 0 (a.ns.length - 0)) := Lib.hid rfl
  obtain ⟨S, hS⟩ : ∃ S, S = fstN (mnAt a b m) 0 a.ns.length := ⟨_, rfl⟩
  rw [← hS] at HR2 HS0
  clear hS
  generalize mnAt a b m = f at *
  go_wp2_with fail
  clear t1 t2 p1 p2 p3 p4 p5 p6
  go_loopw [37] (fun v wr => ∃ k q : Nat, k ≤ m.ns.length ∧ v = .int .i64 (k : Int) ∧ S = fstN f k (a.ns.length - k) ∧ wr = w1.drewN q) (fun v _ => m.ns.length - (intOf v).toNat)
  case atStart => exact ⟨0, 0, Nat.zero_le _, rfl, HS0.out, rfl⟩
  case round =>
    obtain ⟨k, q, hk, rfl, hSk, rfl⟩ := hrel
    have HSK := Lib.hid hSk
    clear hSk
    have hp := HV.out.cells
    rw [HBW.out] at hp
    obtain ⟨p1, p2, p3, p4, p5, p6⟩ := hp
    by_cases hlt : k < m.ns.length
    · have hla : k < a.ns.length := by rw [← HL1.out]; exact hlt
      obtain ⟨g1, o1, rfl, hg1, hc1⟩ := Ints.cells (HM.out.below HV.out.2.2.2.1) hlt
      obtain ⟨g2, o2, rfl, hg2, hc2⟩ := Ints.cells (HT.out.ns.below HV.out.2.2.2.1) hla
      have c1 := hc1 k hlt
      have c2 := hc2 k hla
      have HFK := Lib.hid (HF.out k)
      have HCI := Lib.hid (fun u => isIndexM_any (m.ns.getD k 0) b.ns.length u)
      by_cases hi : idxB (m.ns.getD k 0) b.ns.length = true
      case neg =>
        have hi' : idxB (m.ns.getD k 0) b.ns.length = false := by simpa using hi
        have hf6 : f k = 6 := by rw [HFK.out, if_pos hi']
        have HRR := Lib.hid (show R = 6 by rw [HR2.out, HSK.out, HHIT.out k hla (by omega), hf6]; rfl)
        rw [hi'] at HCI
        clear hi hi' hf6 hc1 hc2 hla
        generalize m.ns.getD k 0 = x at *
        go_wp2_with fail
        refine (HCI.out _).mono ?_
        rintro e w' ⟨rfl, rfl⟩
        go_wp2_with fail
        go_ret
        exact ⟨ret_int (by rw [HRR.out]; rfl), below_draws HV.out.2.2.2.1 _⟩
      have hx := idxB_iff.1 hi
      obtain ⟨j, hj⟩ : ∃ j : Nat, m.ns.getD k 0 = (j : Int) := ⟨(m.ns.getD k 0).toNat, by omega⟩
      rw [hi] at HCI
      rw [hj] at c1 HCI hx hi HFK
      rw [Int.toNat_natCast] at HFK
      have hjl : j < b.ns.length := by omega
      obtain ⟨g3, o3, rfl, hg3, hc3⟩ := Ints.cells (HU.out.ns.below HV.out.2.2.2.1) hjl
      have c3 := hc3 j hjl
      have k0 : (0 : Int) ≤ (k : Int) := by omega
      have k1 : (k : Int) < (m.ns.length : Int) := by omega
      have k1' : (k : Int) < (a.ns.length : Int) := by omega
      have k2 : ((k : Int)).toNat = k := by omega
      have j0 : (0 : Int) ≤ (j : Int) := by omega
      have j1 : (j : Int) < (b.ns.length : Int) := by omega
      have j2 : ((j : Int)).toNat = j := by omega
      have HLA := Lib.hid hla
      have HI := Lib.hid hi
      clear hc1 hc2 hc3 hla hx hj hi
      by_cases he : b.ns.getD j 0 = a.ns.getD k 0
      case neg =>
        have hf : f k = 13 := by rw [HFK.out, if_neg (by rw [HI.out]; simp), if_pos he]
        have HRR := Lib.hid (show R = 13 by rw [HR2.out, HSK.out, HHIT.out k HLA.out (by omega), hf]; rfl)
        have t : (b.ns.getD j 0 != a.ns.getD k 0) = true := bne_iff_ne.2 he
        clear hf he
        generalize b.ns.getD j 0 = y at *
        generalize a.ns.getD k 0 = y2 at *
        go_wp2_with fail
        refine (HCI.out _).mono ?_
        rintro e w' ⟨rfl, rfl⟩
        go_wp2_with fail
        go_quiet (fail)
        go_wp2_with fail
        go_ret
        exact ⟨ret_int (by rw [HRR.out]; rfl), below_draws (below_draws HV.out.2.2.2.1 _) _⟩
      have hf : f k = 0 := by rw [HFK.out, if_neg (by rw [HI.out]; simp), if_neg (fun h => h he)]
      have HE := Lib.hid (show S = fstN f (k + 1) (a.ns.length - (k + 1)) by rw [HSK.out, HPASS.out k HLA.out hf])
      have t : (b.ns.getD j 0 != a.ns.getD k 0) = false := by rw [he]; exact bne_self_eq_false _
      clear hf he
      generalize b.ns.getD j 0 = y at *
      generalize a.ns.getD k 0 = y2 at *
      have HM2 : Hid (m.ns.length - ((k : Int) + 1).toNat < m.ns.length - ((k : Int)).toNat) := Lib.hid (by omega)
      go_wp2_with fail
      refine (HCI.out _).mono ?_
      rintro e w' ⟨rfl, rfl⟩
      go_wp2_with fail
      go_quiet (fail)
      go_wp2_with fail
      go_roundw
      case rel => exact ⟨k + 1, _, by omega, by go_num, HE.out, rfl⟩
      case measure => exact HM2.out
    · obtain rfl : k = m.ns.length := by omega
      have hS0 : S = 0 := by rw [HSK.out]; exact HEND.out _ (by rw [HL1.out]; exact Nat.le_refl _)
      have HR3 := Lib.hid (show R = fstN (meAt a b m) 0 a.es.length by rw [HR2.out, hS0]; simp)
      have HVD : Hid (VS B (.slice An a.ns.length cn) (.slice Ae a.es.length ce) (.slice Bn b.ns.length dn) (.slice Be b.es.length de) (.slice Mn m.ns.length mn) (.slice Me m.es.length me) w (w1.drewN q)) := Lib.hid (HV.out.up (below_draws (Below.refl _ _) q))
      have HB0 := Lib.hid HBW.out
      clear HR2 HSK HHIT HPASS HEND HF HS0 hS0 hlt hk HV
      have HHIT := Lib.hid (fun k (h : k < a.es.length) hf => fstN_hit (f := meAt a b m) h hf)
      have HPASS := Lib.hid (fun k (h : k < a.es.length) hf => fstN_pass (f := meAt a b m) h hf)
      have HEND := Lib.hid (fun k (h : a.es.length ≤ k) => fstN_end (f := meAt a b m) h)
      have HF : Hid (∀ k, meAt a b m k = if idxB (m.es.getD k 0) b.es.length = false then 6
          else if (a.es.getD k default).ty ≠ (b.es.getD (m.es.getD k 0).toNat default).ty then 13
          else if m.ns.getD (a.es.getD k default).fr.toNat 0 ≠ (b.es.getD (m.es.getD k 0).toNat default).fr ∨ m.ns.getD (a.es.getD k default).tq.toNat 0 ≠ (b.es.getD (m.es.getD k 0).toNat default).tq then 11 else 0) := Lib.hid fun k => rfl
      have HS0 : Hid (R = fstN (meAt a b m) 0 (a.es.length - 0)) := Lib.hid HR3.out
      clear HR3
      generalize meAt a b m = f at *
      go_wp2_with fail
      clear p1 p2 p3 p4 p5 p6
      go_loopw [65] (fun v wr => ∃ k : Nat, k ≤ m.es.length ∧ v = .int .i64 (k : Int) ∧ R = fstN f k (a.es.length - k) ∧ VS B (.slice An a.ns.length cn) (.slice Ae a.es.length ce) (.slice Bn b.ns.length dn) (.slice Be b.es.length de) (.slice Mn m.ns.length mn) (.slice Me m.es.length me) w wr) (fun v _ => m.es.length - (intOf v).toNat)
      case atStart => exact ⟨0, Nat.zero_le _, rfl, HS0.out, HVD.out⟩
      case round =>
        obtain ⟨k, hk, rfl, hRk, hV⟩ := hrel
        have HRK := Lib.hid hRk
        have HV := Lib.hid hV
        have hp := hV.cells
        have hbel := hV.2.2.2.1
        rw [HB0.out] at hp
        obtain ⟨p1, p2, p3, p4, p5, p6⟩ := hp
        clear hRk HS0 HVD hV
        by_cases hlt : k < m.es.length
        · have hla : k < a.es.length := by rw [← HL2.out]; exact hlt
          obtain ⟨g1, o1, rfl, hg1, hc1⟩ := Ints.cells (HN.out.below hbel) hlt
          obtain ⟨g2, o2, rfl, hg2, hc2⟩ := Eds.cells (HT.out.es.below hbel) hla
          have c1 := hc1 k hlt
          obtain ⟨d1, d2, d3⟩ := hc2 k hla
          have HFK := Lib.hid (HF.out k)
          have HCI := Lib.hid (fun u => isIndexM_any (m.es.getD k 0) b.es.length u)
          have hva := HVA.out k hla
          have HME := Lib.hid (fun (u : World) (hu : Below w.heap.size w u) => moveEndsM_any (a.es.getD k default) m.ns Mn mn u w.heap.size (HM.out.below hu) (by have := HL1.out; omega) (by have := HL1.out; omega))
          by_cases hi : idxB (m.es.getD k 0) b.es.length = true
          case neg =>
            have hi' : idxB (m.es.getD k 0) b.es.length = false := by simpa using hi
            have hf6 : f k = 6 := by rw [HFK.out, if_pos hi']
            have HRR := Lib.hid (show R = 6 by rw [HRK.out, HHIT.out k hla (by omega), hf6])
            rw [hi'] at HCI
            clear hi hi' hf6 hc1 hc2 hla hbel hva
            generalize m.es.getD k 0 = x at *
            go_wp2_with fail
            refine (HCI.out _).mono ?_
            rintro e w' ⟨rfl, rfl⟩
            go_wp2_with fail
            go_ret
            exact ⟨ret_int (by rw [HRR.out]; rfl), HV.out.2.2.2.1⟩
          have hx := idxB_iff.1 hi
          obtain ⟨j, hj⟩ : ∃ j : Nat, m.es.getD k 0 = (j : Int) := ⟨(m.es.getD k 0).toNat, by omega⟩
          rw [hi] at HCI
          rw [hj] at c1 HCI hx hi HFK
          rw [Int.toNat_natCast] at HFK
          have hjl : j < b.es.length := by omega
          obtain ⟨g3, o3, rfl, hg3, hc3⟩ := Eds.cells (HU.out.es.below hbel) hjl
          obtain ⟨e1, e2, e3⟩ := hc3 j hjl
          have k0 : (0 : Int) ≤ (k : Int) := by omega
          have k1 : (k : Int) < (m.es.length : Int) := by omega
          have k1' : (k : Int) < (a.es.length : Int) := by omega
          have k2 : ((k : Int)).toNat = k := by omega
          have j0 : (0 : Int) ≤ (j : Int) := by omega
          have j1 : (j : Int) < (b.es.length : Int) := by omega
          have j2 : ((j : Int)).toNat = j := by omega
          have HLA := Lib.hid hla
          have HI := Lib.hid hi
          clear hc1 hc2 hc3 hla hx hj hi hva
          generalize a.es.getD k default = xa at *
          generalize b.es.getD j default = xb at *
          obtain ⟨ty, fr, tt⟩ := xa
          obtain ⟨ty2, fr2, tt2⟩ := xb
          dsimp only at *
          by_cases he : ty = ty2
          case neg =>
            have hf : f k = 13 := by rw [HFK.out, if_neg (by rw [HI.out]; simp), if_pos he]
            have HRR := Lib.hid (show R = 13 by rw [HRK.out, HHIT.out k HLA.out (by omega), hf])
            have t : (ty2 != ty) = true := bne_iff_ne.2 fun h => he h.symm
            clear hf he hbel
            go_wp2_with fail
            refine (HCI.out _).mono ?_
            rintro e w' ⟨rfl, rfl⟩
            go_wp2_with fail
            go_quiet (fail)
            go_wp2_with fail
            go_ret
            exact ⟨ret_int (by rw [HRR.out]; rfl), below_draws HV.out.2.2.2.1 _⟩
          subst he
          have t : (ty != ty) = false := bne_self_eq_false _
          go_wp2_with fail
          refine (HCI.out _).mono ?_
          rintro e w' ⟨rfl, rfl⟩
          go_wp2_with fail
          go_quiet (fail)
          go_wp2_with fail
          clear p1 p2 p3 p4 p5 p6
          generalize hwx : wr.drewN _ = wx
          have hbx : Below wr.heap.size wr wx := by rw [← hwx]; exact below_draws (Below.refl _ _) _
          have HBX : Hid (Below w.heap.size w wx.drew) := Lib.hid (hbel.trans ((hbx.drew).mono (hbel.size)))
          have hVX := HV.out.up hbx.drew
          have HVX := Lib.hid hVX
          have hp := hVX.cells
          rw [HB0.out] at hp
          obtain ⟨p1, p2, p3, p4, p5, p6⟩ := hp
          have cx : ∀ {g o : Nat} {v : Value}, wr.cell? ⟨g, o, none⟩ = some v → wx.drew.cell? ⟨g, o, none⟩ = some v := fun {g o v} h => (hbx.drew.cell (p := ⟨g, o, none⟩) (World.block_lt_of_cell? wr _ h)).trans h
          have HS : Hid ((fun u : World => u.cell? ⟨w.heap.size + 1, 1, none⟩ = some (.slice (some ⟨g3, o3, none⟩) b.es.length de) ∧ u.cell? ⟨g3, o3 + j * 3, none⟩ = some (.int .i64 ty) ∧ u.cell? ⟨g3, o3 + j * 3 + 1, none⟩ = some (.int .i64 fr2) ∧ u.cell? ⟨g3, o3 + j * 3 + 2, none⟩ = some (.int .i64 tt2) ∧
            u.cell? ⟨w.heap.size, 1, none⟩ = some (.slice (some ⟨g2, o2, none⟩) a.es.length ce) ∧ u.cell? ⟨g2, o2 + k * 3, none⟩ = some (.int .i64 ty) ∧ u.cell? ⟨g2, o2 + k * 3 + 1, none⟩ = some (.int .i64 fr) ∧ u.cell? ⟨g2, o2 + k * 3 + 2, none⟩ = some (.int .i64 tt) ∧
            u.cell? ⟨w.heap.size + 1 + 1, 0, none⟩ = some (.slice Mn m.ns.length mn)) wx.drew) := Lib.hid ⟨p4, cx e1, cx e2, cx e3, p2, cx d1, cx d2, cx d3, p5⟩
          have HMX := Lib.hid (HME.out wx.drew HBX.out)
          have HSK : Hid (∀ w3, Below wx.drew.heap.size wx.drew w3 → (fun u : World => u.cell? ⟨w.heap.size + 1, 1, none⟩ = some (.slice (some ⟨g3, o3, none⟩) b.es.length de) ∧ u.cell? ⟨g3, o3 + j * 3, none⟩ = some (.int .i64 ty) ∧ u.cell? ⟨g3, o3 + j * 3 + 1, none⟩ = some (.int .i64 fr2) ∧ u.cell? ⟨g3, o3 + j * 3 + 2, none⟩ = some (.int .i64 tt2) ∧
            u.cell? ⟨w.heap.size, 1, none⟩ = some (.slice (some ⟨g2, o2, none⟩) a.es.length ce) ∧ u.cell? ⟨g2, o2 + k * 3, none⟩ = some (.int .i64 ty) ∧ u.cell? ⟨g2, o2 + k * 3 + 1, none⟩ = some (.int .i64 fr) ∧ u.cell? ⟨g2, o2 + k * 3 + 2, none⟩ = some (.int .i64 tt) ∧
            u.cell? ⟨w.heap.size + 1 + 1, 0, none⟩ = some (.slice Mn m.ns.length mn)) w3) := Lib.hid fun w3 hb => by
            have up : ∀ {g o : Nat} {v : Value}, wx.drew.cell? ⟨g, o, none⟩ = some v → w3.cell? ⟨g, o, none⟩ = some v := fun {g o v} h => (hb.cell (p := ⟨g, o, none⟩) (World.block_lt_of_cell? _ _ h)).trans h
            exact ⟨up p4, up (cx e1), up (cx e2), up (cx e3), up p2, up (cx d1), up (cx d2), up (cx d3), up p5⟩
          have HM2 : Hid (m.es.length - ((k : Int) + 1).toNat < m.es.length - ((k : Int)).toNat) := Lib.hid (by omega)
          clear hwx hbx hVX p1 p2 p3 p4 p5 p6 c1 d1 d2 d3 e1 e2 e3 hbel HME t cx
          generalize m.ns.getD fr.toNat 0 = y1 at *
          generalize m.ns.getD tt.toNat 0 = y2 at *
          refine wp_region_noPanic ?_
          refine wp_region_held_drew (S := (fun u : World => u.cell? ⟨w.heap.size + 1, 1, none⟩ = some (.slice (some ⟨g3, o3, none⟩) b.es.length de) ∧ u.cell? ⟨g3, o3 + j * 3, none⟩ = some (.int .i64 ty) ∧ u.cell? ⟨g3, o3 + j * 3 + 1, none⟩ = some (.int .i64 fr2) ∧ u.cell? ⟨g3, o3 + j * 3 + 2, none⟩ = some (.int .i64 tt2) ∧ u.cell? ⟨w.heap.size, 1, none⟩ = some (.slice (some ⟨g2, o2, none⟩) a.es.length ce) ∧ u.cell? ⟨g2, o2 + k * 3, none⟩ = some (.int .i64 ty) ∧ u.cell? ⟨g2, o2 + k * 3 + 1, none⟩ = some (.int .i64 fr) ∧ u.cell? ⟨g2, o2 + k * 3 + 2, none⟩ = some (.int .i64 tt) ∧ u.cell? ⟨w.heap.size + 1 + 1, 0, none⟩ = some (.slice Mn m.ns.length mn))) (by kernel_rfl) (HS.out) (fun hHeld => ?_)
          refine wpAnyH_take (i := 0) (v := ?_) (oper_at (r := _) rfl) (by kernel_rfl) (by kernel_rfl) (by kernel_rfl) (fun _ _ _ h => h) (Or.inl ⟨by rfl, ?_⟩) (by assumption) ?_
          rotate_left
          · intro w hSw; try dsimp only at hSw
            go_simp
            try with_reducible rfl
          try simp only [Act.put, List.setIfInBounds_toArray, List.set_cons_zero, List.set_cons_succ]
          refine wpAnyH_take (i := 1) (v := ?_) (oper_at (r := _) rfl) (by kernel_rfl) (by kernel_rfl) (by kernel_rfl) (fun _ _ _ h => h) (Or.inl ⟨by rfl, ?_⟩) (by assumption) ?_
          rotate_left
          · intro w hSw; try dsimp only at hSw
            go_simp
            try with_reducible rfl
          try simp only [Act.put, List.setIfInBounds_toArray, List.set_cons_zero, List.set_cons_succ]
          refine wpAnyH_take (i := 2) (v := ?_) (oper_at (r := _) rfl) (by kernel_rfl) (by kernel_rfl) (by kernel_rfl) (fun _ _ _ h => h) (Or.inl ⟨by rfl, ?_⟩) (by assumption) ?_
          rotate_left
          · intro w hSw; try dsimp only at hSw
            go_simp
            try with_reducible rfl
          try simp only [Act.put, List.setIfInBounds_toArray, List.set_cons_zero, List.set_cons_succ]
          refine wpAnyH_take (i := 3) (v := ?_) (oper_at (r := _) rfl) (by kernel_rfl) (by kernel_rfl) (by kernel_rfl) (fun _ _ _ h => h) (Or.inl ⟨by rfl, ?_⟩) (by assumption) ?_
          rotate_left
          · intro w hSw; try dsimp only at hSw
            go_simp
            try with_reducible rfl
          try simp only [Act.put, List.setIfInBounds_toArray, List.set_cons_zero, List.set_cons_succ]
          refine wpAnyH_take (i := 4) (v := ?_) (oper_at (r := _) rfl) (by kernel_rfl) (by kernel_rfl) (by kernel_rfl) (fun _ _ _ h => h) (Or.inl ⟨by rfl, ?_⟩) (by assumption) ?_
          rotate_left
          · intro w hSw; try dsimp only at hSw
            go_simp
            try with_reducible rfl
          try simp only [Act.put, List.setIfInBounds_toArray, List.set_cons_zero, List.set_cons_succ]
          refine wpAnyH_take (i := 5) (v := ?_) (oper_at (r := _) rfl) (by kernel_rfl) (by kernel_rfl) (by kernel_rfl) (fun _ _ _ h => h) (Or.inl ⟨by rfl, ?_⟩) (by assumption) ?_
          rotate_left
          · intro w hSw; try dsimp only at hSw
            go_simp
            try with_reducible rfl
          try simp only [Act.put, List.setIfInBounds_toArray, List.set_cons_zero, List.set_cons_succ]
          refine wpAnyH_take (i := 6) (v := ?_) (oper_at (r := _) rfl) (by kernel_rfl) (by kernel_rfl) (by kernel_rfl) (fun _ _ _ h => h) (Or.inl ⟨by rfl, ?_⟩) (by assumption) ?_
          rotate_left
          · intro w hSw; try dsimp only at hSw
            go_simp
            try with_reducible rfl
          try simp only [Act.put, List.setIfInBounds_toArray, List.set_cons_zero, List.set_cons_succ]
          refine wpAnyH_take (i := 7) (v := ?_) (oper_at (r := _) rfl) (by kernel_rfl) (by kernel_rfl) (by kernel_rfl) (fun _ _ _ h => h) (Or.inl ⟨by rfl, ?_⟩) (by assumption) ?_
          rotate_left
          · intro w hSw; try dsimp only at hSw
            go_simp
            try with_reducible rfl
          try simp only [Act.put, List.setIfInBounds_toArray, List.set_cons_zero, List.set_cons_succ]
          refine wpAnyH_take (i := 8) (v := ?_) (oper_at (r := _) rfl) (by kernel_rfl) (by kernel_rfl) (by kernel_rfl) (fun _ _ _ h => h) (Or.inl ⟨by rfl, ?_⟩) (by assumption) ?_
          rotate_left
          · intro w hSw; try dsimp only at hSw
            go_simp
            try with_reducible rfl
          try simp only [Act.put, List.setIfInBounds_toArray, List.set_cons_zero, List.set_cons_succ]
          refine wpAnyH_take (i := 9) (v := ?_) (oper_at (r := _) rfl) (by kernel_rfl) (by kernel_rfl) (by kernel_rfl) (fun _ _ _ h => h) (Or.inl ⟨by rfl, ?_⟩) (by assumption) ?_
          rotate_left
          · intro w hSw; try dsimp only at hSw
            go_simp
            try with_reducible rfl
          try simp only [Act.put, List.setIfInBounds_toArray, List.set_cons_zero, List.set_cons_succ]
          refine wpAnyH_take (i := 10) (v := ?_) (oper_at (r := _) rfl) (by kernel_rfl) (by kernel_rfl) (by kernel_rfl) (fun _ _ _ h => h) (Or.inl ⟨by rfl, ?_⟩) (by assumption) ?_
          rotate_left
          · intro w hSw; try dsimp only at hSw
            go_simp
            try with_reducible rfl
          try simp only [Act.put, List.setIfInBounds_toArray, List.set_cons_zero, List.set_cons_succ]
          refine wpAnyH_take (i := 11) (v := ?_) (oper_at (r := _) rfl) (by kernel_rfl) (by kernel_rfl) (by kernel_rfl) (fun _ _ _ h => h) (Or.inl ⟨by rfl, ?_⟩) (by assumption) ?_
          rotate_left
          · intro w hSw; try dsimp only at hSw
            go_simp
            try with_reducible rfl
          try simp only [Act.put, List.setIfInBounds_toArray, List.set_cons_zero, List.set_cons_succ]
          refine wpAnyH_ready (rs := [12]) (by kernel_rfl) (by simp) ?_
          refine AllReadyH.cons (oper_at (r := _) rfl) (fun K hK => ?_) AllReadyH.nil
          go_simp
          refine HMX.out.mono ?_
          rintro e w3 ⟨rfl, hb3⟩
          have HS3 := Lib.hid (HSK.out w3 hb3)
          have HV3 := Lib.hid (HVX.out.up hb3)
          clear hb3
          go_wp2_with fail
          refine hK.out _ _ (HS3.out) (fun _ => ?_)
          clear hK K
          try simp only [Act.put, List.setIfInBounds_toArray, List.set_cons_zero, List.set_cons_succ]
          by_cases hy : fr2 = y1
          · subst hy
            by_cases hy2 : tt2 = y2
            · subst hy2
              have hf : f k = 0 := by rw [HFK.out, if_neg (by rw [HI.out]; simp), if_neg (fun h => h rfl), if_neg (by simp)]
              have HE := Lib.hid (show R = fstN f (k + 1) (a.es.length - (k + 1)) by rw [HRK.out, HPASS.out k HLA.out hf])
              clear hf
              refine wpAnyH_take (i := 13) (v := ?_) (oper_at (r := _) rfl) (by kernel_rfl) (by kernel_rfl) (by kernel_rfl) (fun _ _ _ h => h) (Or.inl ⟨by rfl, ?_⟩) (by assumption) ?_
              rotate_left
              · intro w hSw; try dsimp only at hSw
                go_simp
                try with_reducible rfl
              try simp only [Act.put, List.setIfInBounds_toArray, List.set_cons_zero, List.set_cons_succ]
              refine wpAnyH_take (i := 14) (v := ?_) (oper_at (r := _) rfl) (by kernel_rfl) (by kernel_rfl) (by kernel_rfl) (fun _ _ _ h => h) (Or.inl ⟨by rfl, ?_⟩) (by assumption) ?_
              rotate_left
              · intro w hSw; try dsimp only at hSw
                go_simp
                try with_reducible rfl
              try simp only [Act.put, List.setIfInBounds_toArray, List.set_cons_zero, List.set_cons_succ]
              refine wpAnyH_done (by kernel_rfl) ?_ _
              refine NoPanic.normal ?_
              go_wp2_with fail
              go_roundw
              case rel => exact ⟨k + 1, by omega, by go_num, HE.out, HV3.out⟩
              case measure => exact HM2.out
            · have hf : f k = 11 := by rw [HFK.out, if_neg (by rw [HI.out]; simp), if_neg (fun h => h rfl), if_pos (.inr fun h => hy2 h.symm)]
              have HRR := Lib.hid (show R = 11 by rw [HRK.out, HHIT.out k HLA.out (by omega), hf])
              have t : (tt2 == y2) = false := ne_beq hy2
              clear hf
              refine wpAnyH_take (i := 13) (v := ?_) (oper_at (r := _) rfl) (by kernel_rfl) (by kernel_rfl) (by kernel_rfl) (fun _ _ _ h => h) (Or.inl ⟨by rfl, ?_⟩) (by assumption) ?_
              rotate_left
              · intro w hSw; try dsimp only at hSw
                go_simp
                try with_reducible rfl
              try simp only [Act.put, List.setIfInBounds_toArray, List.set_cons_zero, List.set_cons_succ]
              refine wpAnyH_take (i := 14) (v := ?_) (oper_at (r := _) rfl) (by kernel_rfl) (by kernel_rfl) (by kernel_rfl) (fun _ _ _ h => h) (Or.inl ⟨by rfl, ?_⟩) (by assumption) ?_
              rotate_left
              · intro w hSw; try dsimp only at hSw
                go_simp
                try with_reducible rfl
              try simp only [Act.put, List.setIfInBounds_toArray, List.set_cons_zero, List.set_cons_succ]
              refine wpAnyH_done (by kernel_rfl) ?_ _
              refine NoPanic.normal ?_
              go_wp2_with fail
              go_ret
              exact ⟨ret_int (by rw [HRR.out]; rfl), HV3.out.2.2.2.1⟩
          · have hf : f k = 11 := by rw [HFK.out, if_neg (by rw [HI.out]; simp), if_neg (fun h => h rfl), if_pos (.inl fun h => hy h.symm)]
            have HRR := Lib.hid (show R = 11 by rw [HRK.out, HHIT.out k HLA.out (by omega), hf])
            have t : (fr2 == y1) = false := ne_beq hy
            clear hf
            refine wpAnyH_take (i := 13) (v := ?_) (oper_at (r := _) rfl) (by kernel_rfl) (by kernel_rfl) (by kernel_rfl) (fun _ _ _ h => h) (Or.inl ⟨by rfl, ?_⟩) (by assumption) ?_
            rotate_left
            · intro w hSw; try dsimp only at hSw
              go_simp
              try with_reducible rfl
            try simp only [Act.put, List.setIfInBounds_toArray, List.set_cons_zero, List.set_cons_succ]
            refine wpAnyH_take (i := 14) (v := ?_) (oper_at (r := _) rfl) (by kernel_rfl) (by kernel_rfl) (by kernel_rfl) (fun _ _ _ h => h) (Or.inl ⟨by rfl, ?_⟩) (by assumption) ?_
            rotate_left
            · intro w hSw; try dsimp only at hSw
              go_simp
              try with_reducible rfl
            try simp only [Act.put, List.setIfInBounds_toArray, List.set_cons_zero, List.set_cons_succ]
            refine wpAnyH_done (by kernel_rfl) ?_ _
            refine NoPanic.normal ?_
            go_wp2_with fail
            go_ret
            exact ⟨ret_int (by rw [HRR.out]; rfl), HV3.out.2.2.2.1⟩
        · obtain rfl : k = m.es.length := by omega
          have HRR := Lib.hid (show R = 0 by rw [HRK.out]; exact HEND.out _ (by rw [HL2.out]; exact Nat.le_refl _))
          clear hbel
          go_wp2_with fail
          go_ret
          exact ⟨ret_int (by rw [HRR.out]; rfl), HV.out.2.2.2.1⟩

end Go.Proofs.YthnhacncnhknnaaDoor

/-
  Slices of structures that hold slices: what they read as, by an element's relation tq its cells.
-/
namespace Go.Proofs.YthnhacncnhknnaaDoor
open Go.RowKit

/-- how an element lies in cells, where some of the cells lead on into memory below B -/
structure DEl (α : Type) where
  size : Nat
  rel : World → Nat → α → List Value → Prop
  len : ∀ {w B x cs}, rel w B x cs → cs.length = size
  below : ∀ {w w' B x cs}, rel w B x cs → Below B w w' → rel w' B x cs
  mono : ∀ {w B B' x cs}, rel w B x cs → B ≤ B' → rel w B' x cs

section
variable {α : Type} {D : DEl α}
/-- the slice at A reads as xs, in blocks below B -/
def DReads (D : DEl α) (w : World) (B : Nat) (A : Option Addr) (xs : List α) : Prop :=
  xs = [] ∨ ∃ b off, A = some ⟨b, off, none⟩ ∧ b < B ∧ ∀ i x, xs[i]? = some x → ∃ cs, D.rel w B x cs ∧ ∀ j u, cs[j]? = some u → w.cell? ⟨b, off + i * D.size + j, none⟩ = some u
theorem DReads.below {w w' : World} {B : Nat} {A : Option Addr} {xs : List α} (h : DReads D w B A xs) (hb : Below B w w') : DReads D w' B A xs := by
  rcases h with h | ⟨b, off, h1, h2, h3⟩
  · exact .inl h
  · refine .inr ⟨b, off, h1, h2, fun i x hx => ?_⟩
    obtain ⟨cs, k1, k2⟩ := h3 i x hx
    exact ⟨cs, D.below k1 hb, fun j u hu => (hb.cell (p := ⟨b, off + i * D.size + j, none⟩) h2).trans (k2 j u hu)⟩
theorem DReads.mono {w : World} {B B' : Nat} {A : Option Addr} {xs : List α} (h : DReads D w B A xs) (hb : B ≤ B') : DReads D w B' A xs := by
  rcases h with h | ⟨b, off, h1, h2, h3⟩
  · exact .inl h
  · refine .inr ⟨b, off, h1, by omega, fun i x hx => ?_⟩
    obtain ⟨cs, k1, k2⟩ := h3 i x hx
    exact ⟨cs, D.mono k1 hb, k2⟩
theorem DReads.up {w w' : World} {A : Option Addr} {xs : List α} (h : DReads D w w.heap.size A xs) (hb : Below w.heap.size w w') : DReads D w' w'.heap.size A xs := (h.below hb).mono hb.size
theorem DReads.at {w : World} {B : Nat} {A : Option Addr} {xs : List α} (h : DReads D w B A xs) {k : Nat} (hk : k < xs.length) :
    ∃ b off cs, A = some ⟨b, off, none⟩ ∧ b < B ∧ D.rel w B xs[k] cs ∧ ∀ j u, cs[j]? = some u → w.cell? ⟨b, off + k * D.size + j, none⟩ = some u := by
  rcases h with h | ⟨b, off, h1, h2, h3⟩
  · subst h; simp at hk
  · obtain ⟨cs, k1, k2⟩ := h3 k xs[k] (List.getElem?_eq_getElem hk)
    exact ⟨b, off, cs, h1, h2, k1, k2⟩
theorem DReads.take {w : World} {B : Nat} {A : Option Addr} {xs : List α} (h : DReads D w B A xs) (k : Nat) : DReads D w B A (xs.take k) := by
  rcases h with h | ⟨b, off, h1, h2, h3⟩
  · exact .inl (by rw [h]; simp)
  · refine .inr ⟨b, off, h1, h2, fun i x hx => h3 i x ?_⟩
    rw [List.getElem?_take] at hx
    split at hx
    · exact hx
    · cases hx
/-- a plain element -/
def El.deep (E : El α) : DEl α := ⟨E.size, fun _ _ x cs => cs = E.enc x, fun h => by rw [h]; exact E.len _, fun h _ => h, fun h _ => h⟩
theorem Reads.deep {E : El α} {w : World} {B : Nat} {A : Option Addr} {xs : List α} (h : Reads E w B A xs) : DReads E.deep w B A xs := by
  rcases h with h | ⟨b, off, h1, h2, h3⟩
  · exact .inl h
  · exact .inr ⟨b, off, h1, h2, fun i x hx => ⟨E.enc x, rfl, h3 i x hx⟩⟩
theorem DReads.plain {E : El α} {w : World} {B : Nat} {A : Option Addr} {xs : List α} (h : DReads E.deep w B A xs) : Reads E w B A xs := by
  rcases h with h | ⟨b, off, h1, h2, h3⟩
  · exact .inl h
  · refine .inr ⟨b, off, h1, h2, fun i x hx j u hu => ?_⟩
    obtain ⟨cs, k1, k2⟩ := h3 i x hx
    have k1 : cs = E.enc x := k1
    subst k1
    exact k2 j u hu

/-- raw elements that read as elements -/
theorem Reads.lift {β : Type} {E : El β} {w : World} {B : Nat} {A : Option Addr} {ys : List β} {xs : List α} (h : Reads E w B A ys) (hs : E.size = D.size) (hl : xs.length = ys.length) (hr : ∀ (i : Nat) (x : α) (y : β), xs[i]? = some x → ys[i]? = some y → D.rel w B x (E.enc y)) : DReads D w B A xs := by
  rcases h with h | ⟨b, off, h1, h2, h3⟩
  · subst h
    exact .inl (List.eq_nil_of_length_eq_zero hl)
  · refine .inr ⟨b, off, h1, h2, fun i x hx => ?_⟩
    have hi : i < ys.length := by
      obtain ⟨h4, _⟩ := List.getElem?_eq_some_iff.1 hx
      omega
    have hy : ys[i]? = some ys[i] := List.getElem?_eq_getElem hi
    exact ⟨E.enc ys[i], hr i x _ hx hy, fun j u hu => by rw [← hs]; exact h3 i _ hy j u hu⟩
end

section
open Go.ChangeShapes Go.WideShapes Go.Deep

end

end Go.Proofs.YthnhacncnhknnaaDoor

/-
  Parts in memory: what reads as a list of parts, and one that a call made, whose rows lie apart.
-/
namespace Go.Proofs.YthnhacncnhknnaaDoor
open Go.RowKit

def DPart : DEl Mo := ⟨2, fun w B x cs => ∃ A1 c1 A2 c2, cs = [.slice A1 x.ns.length c1, .slice A2 x.es.length c2] ∧ Ints w B A1 x.ns ∧ Ints w B A2 x.es,
  fun h => by obtain ⟨A1, c1, A2, c2, rfl, _⟩ := h; rfl, fun h hb => by obtain ⟨A1, c1, A2, c2, e, h1, h2⟩ := h; exact ⟨A1, c1, A2, c2, e, Reads.below h1 hb, Reads.below h2 hb⟩, fun h hb => by obtain ⟨A1, c1, A2, c2, e, h1, h2⟩ := h; exact ⟨A1, c1, A2, c2, e, h1.mono hb, h2.mono hb⟩⟩
abbrev Pts (w : World) (B : Nat) (A : Option Addr) (ps : List Mo) : Prop := DReads DPart w B A ps
def IsP (w : World) (v : Value) (ps : List Mo) : Prop := ∃ A c, v = .slice A ps.length c ∧ Pts w w.heap.size A ps
theorem IsP.up {w w' : World} {v : Value} {ps : List Mo} (h : IsP w v ps) (hb : Below w.heap.size w w') : IsP w' v ps := by
  obtain ⟨A, c, e, h⟩ := h
  exact ⟨A, c, e, h.up hb⟩
theorem isP_nil (w : World) : IsP w (.slice none 0 0) [] := ⟨none, 0, rfl, .inl rfl⟩
theorem infoPart : (Tryd.prog.info? 27).map (fun i => (i.zero, i.size, i.bytes)) = some (some (.agg #[.slice none 0 0, .slice none 0 0]), 2, 48) := by kernel_rfl

end Go.Proofs.YthnhacncnhknnaaDoor

/-
  Graphs: Valid of the reference.
-/
namespace Go.Proofs.YthnhacncnhknnaaDoor
open Go.RowKit

set_option maxRecDepth 100000 in
set_option maxHeartbeats 2000000 in
theorem validR_any (g : Gr) (An : Option Addr) (cn : Nat) (Ae : Option Addr) (ce : Nat) (w : World) (hT : GrAt w An cn Ae ce g) :
    Calls Tryd.prog 33 #[gval An g.ns.length cn Ae g.es.length ce] w fun e w' => e = .returned (.int .i64 (validE g)) ∧ Below w.heap.size w w' := by
  have hn1 := hT.cn
  have he1 := hT.ce
  unfold maxLen at hn1 he1
  have HT := Lib.hid hT
  have HL := Lib.hid (fun h => valid_long (g := g) h)
  have HN := Lib.hid (fun h1 h2 i hi h => valid_node (g := g) h1 h2 (i := i) hi h)
  have HE := Lib.hid (fun h1 h2 i hi h => valid_edge (g := g) h1 h2 (i := i) hi h)
  have HO := Lib.hid (fun h1 h2 h3 h4 => valid_ok (g := g) h1 h2 h3 h4)
  clear hT
  generalize validE g = R at HL HN HE HO ⊢
  by_cases h40 : 40 < g.ns.length
  · have HR := Lib.hid (HL.out (.inl h40))
    have t1 : decide (40 < (g.ns.length : Int)) = true := decide_eq_true (by omega)
    go_enter Tryd.func33, Tryd.ntmps33
    go_wp2_with fail
    go_ret
    exact ⟨ret_int (by rw [HR.out]; rfl), (Below.refl _ _).alloc (Nat.le_refl _) _⟩
  by_cases h80 : 80 < g.es.length
  · have HR := Lib.hid (HL.out (.inr h80))
    have t1 : decide (40 < (g.ns.length : Int)) = false := decide_eq_false (by omega)
    have t2 : decide (80 < (g.es.length : Int)) = true := decide_eq_true (by omega)
    go_enter Tryd.func33, Tryd.ntmps33
    go_wp2_with fail
    go_ret
    exact ⟨ret_int (by rw [HR.out]; rfl), (Below.refl _ _).alloc (Nat.le_refl _) _⟩
  have n40 : g.ns.length ≤ 40 := by omega
  have n80 : g.es.length ≤ 80 := by omega
  have HN' := Lib.hid (HN.out n40 n80)
  have HE' := Lib.hid (HE.out n40 n80)
  have HO' := Lib.hid (HO.out n40 n80)
  clear HL HN HE HO
  have t1 : decide (40 < (g.ns.length : Int)) = false := decide_eq_false (by omega)
  have t2 : decide (80 < (g.es.length : Int)) = false := decide_eq_false (by omega)
  clear h40 h80
  go_enter Tryd.func33, Tryd.ntmps33
  go_wp2_with fail
  clear t1 t2
  go_loop [3] (fun i => ∃ k : Nat, k ≤ g.ns.length ∧ i = .int .i64 k ∧ ∀ j, j < k → idxB (g.ns.getD j 0) 100 = true) (fun i => g.ns.length - (intOf i).toNat)
  case atStart => exact ⟨0, Nat.zero_le _, rfl, fun j hj => by omega⟩
  case round =>
    obtain ⟨k, hk, rfl, hok⟩ := hrel
    have HK := Lib.hid hok
    clear hok
    by_cases hlt : k < g.ns.length
    · obtain ⟨b, off, rfl, hb, hc⟩ := Ints.cells HT.out.ns hlt
      have ck := hc k hlt
      have HC : Hid (∀ u, Calls Tryd.prog 64 #[.int .i64 (g.ns.getD k 0)] u fun e w' => e = .returned (.bool (idxB (g.ns.getD k 0) 100)) ∧ u = w') := Lib.hid fun u => kind_any _ u
      clear hc
      by_cases h1 : idxB (g.ns.getD k 0) 100 = true
      · have HK2 : Hid (∀ j, j < k + 1 → idxB (g.ns.getD j 0) 100 = true) := Lib.hid fun j hj => by
          by_cases e : j = k
          · subst e; exact h1
          · exact HK.out j (by omega)
        rw [h1] at HC
        clear h1
        generalize g.ns.getD k 0 = x at ck HC
        go_wp2_with fail
        refine (HC.out _).mono ?_
        rintro e w' ⟨rfl, rfl⟩
        go_wp2_with fail
        go_round
        case rel => exact ⟨k + 1, by omega, by go_num, HK2.out⟩
        case measure => simp [intOf]; omega
      · have h1' : idxB (g.ns.getD k 0) 100 = false := by simpa using h1
        have HR := Lib.hid (HN'.out k hlt h1')
        rw [h1'] at HC
        clear h1 h1'
        generalize g.ns.getD k 0 = x at ck HC
        go_wp2_with fail
        refine (HC.out _).mono ?_
        rintro e w' ⟨rfl, rfl⟩
        go_wp2_with fail
        go_ret
        exact ⟨ret_int (by rw [HR.out]; rfl), (Below.refl _ _).alloc (Nat.le_refl _) _⟩
    · have HO2 := Lib.hid (HO'.out fun i hi => HK.out i (by omega))
      clear HO' HK
      go_wp2_with fail
      go_loopw [4] (fun i wr => ∃ k : Nat, k ≤ g.es.length ∧ i = .int .i64 k ∧ (∀ j, j < k → edB (g.es.getD j default) g.ns.length = true) ∧ Below (w.heap.size + 1) (w.alloc (.cells #[.slice An g.ns.length cn, .slice Ae g.es.length ce] 25 (0, 0))) wr) (fun i _ => g.es.length - (intOf i).toNat)
      case atStart => exact ⟨0, Nat.zero_le _, rfl, fun j hj => by omega, Below.refl _ _⟩
      case round =>
        obtain ⟨k, hk, rfl, hok, hbel⟩ := hrel
        obtain ⟨c0, c1⟩ := box_cell hbel
        have HB := Lib.hid hbel
        have HK := Lib.hid hok
        clear hok
        by_cases hlt : k < g.es.length
        · obtain ⟨b, off, rfl, hb, hc⟩ := Eds.cells HT.out.es hlt
          obtain ⟨k0, k1, k2⟩ := hc k hlt
          have HD : Hid (∀ u, Below (w.heap.size + 1) (w.alloc (.cells #[.slice An g.ns.length cn, .slice (some ⟨b, off, none⟩) g.es.length ce] 25 (0, 0))) u → u.cell? ⟨b, off + k * 3, none⟩ = some (.int .i64 (g.es.getD k default).ty) ∧ u.cell? ⟨b, off + k * 3 + 1, none⟩ = some (.int .i64 (g.es.getD k default).fr) ∧ u.cell? ⟨b, off + k * 3 + 2, none⟩ = some (.int .i64 (g.es.getD k default).tq)) := Lib.hid fun u hu =>
            ⟨((box_below hu).cell (p := ⟨b, _, none⟩) hb).trans k0, ((box_below hu).cell (p := ⟨b, _, none⟩) hb).trans k1, ((box_below hu).cell (p := ⟨b, _, none⟩) hb).trans k2⟩
          have HS : Hid (∀ u, Below (w.heap.size + 1) (w.alloc (.cells #[.slice An g.ns.length cn, .slice (some ⟨b, off, none⟩) g.es.length ce] 25 (0, 0))) u → (u.cell? ⟨w.heap.size, 0, none⟩ = some (.slice An g.ns.length cn) ∧ u.cell? ⟨w.heap.size, 1, none⟩ = some (.slice (some ⟨b, off, none⟩) g.es.length ce)) ∧ (u.cell? ⟨b, off + k * 3, none⟩ = some (.int .i64 (g.es.getD k default).ty) ∧ u.cell? ⟨b, off + k * 3 + 1, none⟩ = some (.int .i64 (g.es.getD k default).fr) ∧ u.cell? ⟨b, off + k * 3 + 2, none⟩ = some (.int .i64 (g.es.getD k default).tq)) ∧ Below (w.heap.size + 1) (w.alloc (.cells #[.slice An g.ns.length cn, .slice (some ⟨b, off, none⟩) g.es.length ce] 25 (0, 0))) u) := Lib.hid fun u hu => ⟨box_cell hu, HD.out u hu, hu⟩
          have HC : Hid (∀ u, Below (w.heap.size + 1) (w.alloc (.cells #[.slice An g.ns.length cn, .slice (some ⟨b, off, none⟩) g.es.length ce] 25 (0, 0))) u → Calls Tryd.prog 65 #[edv (g.es.getD k default), .int .i64 (g.ns.length : Int)] u fun e w' => e = .returned (.bool (edB (g.es.getD k default) g.ns.length)) ∧ ((w'.cell? ⟨w.heap.size, 0, none⟩ = some (.slice An g.ns.length cn) ∧ w'.cell? ⟨w.heap.size, 1, none⟩ = some (.slice (some ⟨b, off, none⟩) g.es.length ce)) ∧ (w'.cell? ⟨b, off + k * 3, none⟩ = some (.int .i64 (g.es.getD k default).ty) ∧ w'.cell? ⟨b, off + k * 3 + 1, none⟩ = some (.int .i64 (g.es.getD k default).fr) ∧ w'.cell? ⟨b, off + k * 3 + 2, none⟩ = some (.int .i64 (g.es.getD k default).tq)) ∧ Below (w.heap.size + 1) (w.alloc (.cells #[.slice An g.ns.length cn, .slice (some ⟨b, off, none⟩) g.es.length ce] 25 (0, 0))) w')) := Lib.hid fun u hu => by
            refine (right_any (g.es.getD k default) g.ns.length u).mono ?_
            rintro e w' ⟨rfl, hb⟩
            exact ⟨rfl, HS.out w' (hu.trans (hb.mono (by have := hu.size; simpa using this)))⟩
          have HS1 := Lib.hid (HS.out _ (Below.drew hbel))
          have i0 : (0 : Int) ≤ (k : Int) := by omega
          have i1 : (k : Int) < (g.es.length : Int) := by omega
          have i2 : ((k : Int)).toNat = k := by omega
          clear hc hbel k0 k1 k2 HD
          by_cases h1 : edB (g.es.getD k default) g.ns.length = true
          · have HK2 : Hid (∀ j, j < k + 1 → edB (g.es.getD j default) g.ns.length = true) := Lib.hid fun j hj => by
              by_cases e : j = k
              · subst e; exact h1
              · exact HK.out j (by omega)
            rw [h1] at HC
            clear h1
            generalize g.es.getD k default = x at HC HS HS1
            clear HS
            go_wp2_with fail
            go_region_held3 (fun u => (u.cell? ⟨w.heap.size, 0, none⟩ = some (.slice An g.ns.length cn) ∧ u.cell? ⟨w.heap.size, 1, none⟩ = some (.slice (some ⟨b, off, none⟩) g.es.length ce)) ∧ (u.cell? ⟨b, off + k * 3, none⟩ = some (.int .i64 x.ty) ∧ u.cell? ⟨b, off + k * 3 + 1, none⟩ = some (.int .i64 x.fr) ∧ u.cell? ⟨b, off + k * 3 + 2, none⟩ = some (.int .i64 x.tq)) ∧ Below (w.heap.size + 1) (w.alloc (.cells #[.slice An g.ns.length cn, .slice (some ⟨b, off, none⟩) g.es.length ce] 25 (0, 0))) u)
              (first | assumption | exact HS1.out)
              ((with_reducible refine (HC.out _ (by first | assumption | exact HS1.out.2.2)).mono ?_; rintro e w3 ⟨rfl, hs3⟩; have hq3 := hs3.2.2))
            all_goals
              have HB2 := Lib.hid (show Below (w.heap.size + 1) (w.alloc (.cells #[.slice An g.ns.length cn, .slice (some ⟨b, off, none⟩) g.es.length ce] 25 (0, 0))) _ by assumption)
              go_wp2_with fail
              go_roundw
              case rel => exact ⟨k + 1, by omega, by go_num, HK2.out, HB2.out⟩
              case measure => simp [intOf]; omega
          · have h1' : edB (g.es.getD k default) g.ns.length = false := by simpa using h1
            have HR := Lib.hid (HE'.out k hlt h1')
            rw [h1'] at HC
            clear h1 h1'
            generalize g.es.getD k default = x at HC HS HS1
            clear HS
            go_wp2_with fail
            go_region_held3 (fun u => (u.cell? ⟨w.heap.size, 0, none⟩ = some (.slice An g.ns.length cn) ∧ u.cell? ⟨w.heap.size, 1, none⟩ = some (.slice (some ⟨b, off, none⟩) g.es.length ce)) ∧ (u.cell? ⟨b, off + k * 3, none⟩ = some (.int .i64 x.ty) ∧ u.cell? ⟨b, off + k * 3 + 1, none⟩ = some (.int .i64 x.fr) ∧ u.cell? ⟨b, off + k * 3 + 2, none⟩ = some (.int .i64 x.tq)) ∧ Below (w.heap.size + 1) (w.alloc (.cells #[.slice An g.ns.length cn, .slice (some ⟨b, off, none⟩) g.es.length ce] 25 (0, 0))) u)
              (first | assumption | exact HS1.out)
              ((with_reducible refine (HC.out _ (by first | assumption | exact HS1.out.2.2)).mono ?_; rintro e w3 ⟨rfl, hs3⟩; have hq3 := hs3.2.2))
            all_goals
              have HB2 := Lib.hid (show Below (w.heap.size + 1) (w.alloc (.cells #[.slice An g.ns.length cn, .slice (some ⟨b, off, none⟩) g.es.length ce] 25 (0, 0))) _ by assumption)
              go_wp2_with fail
              go_ret
              exact ⟨ret_int (by rw [HR.out]; rfl), box_below HB2.out⟩
        · have HR := Lib.hid (HO2.out fun i hi => HK.out i (by omega))
          clear hbel
          go_wp2_with fail
          go_ret
          exact ⟨ret_int (by rw [HR.out]; rfl), box_below HB.out⟩

end Go.Proofs.YthnhacncnhknnaaDoor

/-
  Rows that grow beside one another: append of many, and where the new row lies; slices.Sort of a row.
-/
namespace Go.Proofs.YthnhacncnhknnaaDoor
open Go.RowKit

/-! slices.Sort -/
def srt (xs : List Int) : List Int := xs.mergeSort fun x y => decide (x ≤ y)
theorem srt_len (xs : List Int) : (srt xs).length = xs.length := List.length_mergeSort _
theorem sort_any (base : Nat) (v : Value) (xs : List Int) (w : World) (h : OwnI w base v xs) (hl : xs.length ≤ 1000000) :
    Calls Tryd.prog 101 #[v] w fun e w' => e = .returned (.tuple #[]) ∧ OwnI w' base v (srt xs) ∧ w.grownBy w' v.ownBlock := by
  have hc : cellsE EInt xs = xs.map (Value.int .i64) := cellsE_int xs
  have hc2 : cellsE EInt (srt xs) = (srt xs).map (Value.int .i64) := cellsE_int _
  have h0 := h
  rcases h0.2 with ⟨e, hn⟩ | ⟨g, cap, cur, e, hbg, hg, h1, h2, h3, h4⟩
  · have hx : xs = [] := List.eq_nil_of_length_eq_zero hn
    subst hx e
    refine (Tryd.slices_Sort_int_none none 0 w).mono ?_
    rintro e w' ⟨rfl, rfl⟩
    exact ⟨rfl, by rw [show srt [] = [] from List.mergeSort_nil]; exact h, grown_refl _ _⟩
  · subst e
    have hH := holds_of_blockI (ss := xs) hg (by rw [← hc, ← h4, show EInt.size = 1 from rfl, Nat.mul_one])
    refine (Tryd.slices_Sort_int g 0 cap xs w hH (Array.getElem?_eq_some_iff.1 hg).1 (by omega)).mono ?_
    rintro e w' ⟨rfl, n, os, rfl⟩
    refine ⟨rfl, ?_, grownBy_sortedI _⟩
    unfold OwnI OwnE
    rw [hc2, srt_len]
    exact ownsRow_sortedI (srt_len xs) hbg hg h1 h2 h3

end Go.Proofs.YthnhacncnhknnaaDoor

/-
  countImages: the number of different images.
-/
namespace Go.Proofs.YthnhacncnhknnaaDoor
open Go.RowKit Go.Shelf

attribute [local go_sem] Oper.semAt_some

/-- what slices.Values hands over -/
def RVal (x : Int) (G : Blks) (_ : World) (vs : Array Value) : Prop := (∀ b, ¬ G b) ∧ vs = #[.int .i64 x]
theorem take_next {xs : List Int} {k : Nat} (h : k < xs.length) : xs.take k ++ [xs.getD k 0] = xs.take (k + 1) := by
  rw [List.take_add_one, List.getElem?_eq_getElem h, List.getD_eq_getElem?_getD, List.getElem?_eq_getElem h]; rfl

set_option maxRecDepth 100000 in
set_option maxHeartbeats 2000000 in
theorem values_visits (xs : List Int) (hl : xs.length ≤ 1000) (vb : Nat) (A : Option Addr) (c : Nat) (w : World) (hb : Boxed w vb 22 (.slice A xs.length c)) (hA : Ints w w.heap.size A xs) :
    Visits Tryd.prog 102 #[] #[.pointer (some ⟨vb, 0, none⟩)] xs RVal (fun b => b = vb ∨ ∃ o, xs ≠ [] ∧ A = some ⟨b, o, none⟩) w := by
  intro l J Jx H W hW hJ hJx hO hY h0
  have HY := Lib.hid hY
  have HA := Lib.hid (Reads.up hA hW)
  have HO := Lib.hid hO
  have HLB : Hid (∀ b o, xs ≠ [] → A = some ⟨b, o, none⟩ → b < W.heap.size) := Lib.hid fun b o hn e => by
    rcases Reads.up hA hW with h | ⟨b2, o2, e2, hb2, _⟩
    · exact absurd h hn
    · rw [e] at e2; injection e2 with e2; injection e2 with e2; omega
  have c1 := (show Boxed W vb 22 (.slice A xs.length c) from heap_up hW hb).cell
  have hl0 : (xs.length : Int) ≤ 1000 := by omega
  clear hY hA hO hb hW
  refine (callsIn_wide (n := 3)).1 ?_
  refine callsIn_of_wp Tryd.func102 rfl trivial ?_ rfl
  simp only [Tryd.ntmps102, List.size_toArray, List.length_cons, List.length_nil, Nat.reduceAdd, Nat.reduceSub, Array.replicate_succ, Array.replicate_zero, List.push_toArray, List.append_toArray, List.nil_append, List.cons_append]
  gi_wp2
  clear c1
  gi_loopw [7] (fun v wr => ∃ (k : Nat) (H' : Blks), k ≤ xs.length ∧ v = .int .i64 (k : Int) ∧ J (xs.take k) H' wr ∧ Keeps H W wr ∧ ∀ b, H' b → H b ∨ W.heap.size ≤ b)
    (fun v _ => xs.length - (intOf v).toNat)
  case atStart => exact ⟨0, H, Nat.zero_le _, rfl, h0, Keeps.refl _ _, fun b h => .inl h⟩
  case round =>
    obtain ⟨k, H', hk, rfl, hj, hkp, hg⟩ := hrel
    by_cases hlt : k < xs.length
    · obtain ⟨b, off, hAe, hbl, hc⟩ := Ints.cells HA.out hlt
      have ck : wr.cell? ⟨b, off + k, none⟩ = some (.int .i64 (xs.getD k 0)) := (cell_heap (p := ⟨b, off + k, none⟩) (hkp.block b hbl (HO.out b (.inr ⟨off, (fun e => by rw [e] at hlt; simp at hlt), hAe⟩)))).trans (hc k hlt)
      obtain ⟨fn, tmps, assign, body, hy, hR⟩ := YieldAt.anyDepth rfl 2 (HY.out (xs.take k) (xs.getD k 0) H' wr (fun _ => False) #[.int .i64 (xs.getD k 0)] hj (by rw [take_next hlt]; exact List.take_prefix _ _) ⟨fun _ h => h, rfl⟩ (fun _ h => h.elim))
      rw [take_next hlt] at hR
      have HK := Lib.hid hkp
      have HG := Lib.hid hg
      have HLT := Lib.hid hlt
      have k0 : (0 : Int) ≤ (k : Int) := by omega
      have k1 : (k : Int) < (xs.length : Int) := by omega
      have k2 : ((k : Int)).toNat = k := by omega
      have HM : Hid (xs.length - ((k : Int) + 1).toNat < xs.length - ((k : Int)).toNat) := Lib.hid (by omega)
      clear hkp hg hj hc hbl
      subst hAe
      generalize xs.getD k 0 = x at *
      gi_wp2
      refine hR.mono ?_
      rintro e W3 ⟨hk3, H3, hg3, (⟨rfl, hj3⟩ | ⟨rfl, hj3⟩)⟩
      · obtain ⟨hk4, hg4⟩ := keeps_turn HK.out HG.out (G := fun _ => False) (fun _ h => h.elim) hk3 hg3
        clear hk3 hg3
        gi_wp2
        go_roundw
        case rel => exact ⟨k + 1, H3, HLT.out, by go_num, hj3, hk4, hg4⟩
        case measure => exact HM.out
      · obtain ⟨hk4, hg4⟩ := keeps_turn HK.out HG.out (G := fun _ => False) (fun _ h => h.elim) hk3 hg3
        clear hk3 hg3
        gi_wp2
        refine bodyPost_ret (results_none rfl _ _ _) rfl ?_
        exact ⟨⟨_, rfl⟩, hk4, H3, hg4, .inr hj3⟩
    · obtain rfl : k = xs.length := by omega
      rw [List.take_length] at hj
      gi_wp2
      go_end0
      exact ⟨⟨_, rfl⟩, hkp, H', hg, .inl hj⟩

theorem values_any (A : Option Addr) (n c : Nat) (w : World) : Calls Tryd.prog 80 #[.slice A n c] w fun e w' => e = .returned (.func (.func 102) #[] #[.pointer (some ⟨w.heap.size, 0, none⟩)]) ∧ w' = w.alloc (.cells #[.slice A n c] 22) := by
  go_enter Tryd.func80, Tryd.ntmps80
  go_wp2
  go_ret
  exact ⟨rfl, rfl⟩

/-- what the rounds of AppendSeq hold -/
def SeqJ (base sb : Nat) (pre : List Int) (H : Blks) (V : World) : Prop :=
  ∃ v, Boxed V sb 22 v ∧ OwnI V base v pre ∧ H sb ∧ (∀ b, v.ownBlock = some b → H b) ∧ (∀ b, H b → b < V.heap.size) ∧ (∀ b, H b → base ≤ b) ∧ v.ownBlock ≠ some sb
theorem SeqJ.foot {Rd : Blks} {base sb : Nat} {pre : List Int} : Foot Rd (SeqJ base sb pre) := by
  rintro H V ⟨v, h1, h2, h3, h4, h5, h6, h7⟩
  exact ⟨h5, fun V' hs hb => ⟨v, (hb _ (.inl h3)).trans h1, OwnE.same h2 fun g hg => hb g (.inl (h4 g hg)), h3, h4, fun b h => Nat.lt_of_lt_of_le (h5 b h) hs, h6, h7⟩⟩
theorem seq_next {base sb : Nat} {pre : List Int} {H : Blks} {U Wa w' : World} {v v' : Value} {x : Int} (h1 : Boxed U sb 22 v) (h3 : H sb) (h4 : ∀ b, v.ownBlock = some b → H b) (h5 : ∀ b, H b → b < U.heap.size) (h6 : ∀ b, H b → base ≤ b) (h7 : v.ownBlock ≠ some sb)
    (hW : Below U.heap.size U Wa) (ho : OwnI w' base v' (pre ++ [x])) (hgr : Wa.grownBy w' v.ownBlock) (hv' : v'.ownBlock = v.ownBlock ∨ ∃ h, v'.ownBlock = some h ∧ Wa.heap.size ≤ h) :
    Keeps (fun b => H b ∨ False) U (w'.setCell ⟨sb, 0, none⟩ v') ∧ ∃ H', (∀ b, H' b → (H b ∨ False) ∨ U.heap.size ≤ b) ∧ SeqJ base sb (pre ++ [x]) H' (w'.setCell ⟨sb, 0, none⟩ v') := by
  have s1 := hW.size
  have s2 := hgr.size
  have sz : (w'.setCell ⟨sb, 0, none⟩ v').heap.size = w'.heap.size := by simp [World.setCell]
  have hsl := h5 _ h3
  have hbx : w'.heap[sb]? = some (.cells #[v] 22 (0, 0)) := (hgr.block sb (by omega) (fun e => h7 e.symm)).trans ((hW.block sb hsl).trans h1)
  have h7' : v'.ownBlock ≠ some sb := by
    rcases hv' with e | ⟨h, e, hl⟩
    · rw [e]; exact h7
    · rw [e]; intro e2; injection e2 with e2; omega
  have hlt := OwnE.lt ho
  refine ⟨⟨hgr.os.trans hW.os, hgr.tape.trans hW.tape, hgr.output.trans hW.output, by omega, fun b hb hn => ?_⟩, fun b => H b ∨ v'.ownBlock = some b, fun b hb => ?_, v', heap_setCell_same w' sb 0 _ _ v' hbx, OwnE.same ho fun g hg => heap_setCell_other _ _ _ _ (fun e => h7' (by rw [hg]; exact congrArg some e)), .inl h3, fun b hb => .inr hb, fun b hb => ?_, fun b hb => ?_, h7'⟩
  · exact (heap_setCell_other _ _ _ _ (fun e => hn (.inl (by rw [show b = sb from e]; exact h3)))).trans ((hgr.block b (by omega) (fun e => hn (.inl (h4 b e.symm)))).trans (hW.block b hb))
  · rcases hb with hb | hb
    · exact .inl (.inl hb)
    · rcases hv' with e | ⟨h, e, hl⟩
      · exact .inl (.inl (h4 b (e ▸ hb)))
      · rw [e] at hb; injection hb with hb; exact .inr (by omega)
  · rcases hb with hb | hb
    · have := h5 b hb; omega
    · have := (hlt b hb).2; omega
  · rcases hb with hb | hb
    · exact h6 b hb
    · exact (hlt b hb).1

set_option maxRecDepth 100000 in
set_option maxHeartbeats 2000000 in
theorem appendSeq_any (xs : List Int) (hl : xs.length ≤ 1000) (gf : Nat) (lb : Array Value) (O : Blks) (w : World) (eg : ∀ args u, (callFunc gf args).run Tryd.prog u = .ok (.enter gf args) u) (hO : ∀ b, O b → b < w.heap.size) (hv : ∀ u, Below w.heap.size w u → Visits Tryd.prog gf #[] lb xs RVal O u) :
    Calls Tryd.prog 121 #[.slice none 0 0, .func (.func gf) #[] lb] w fun e w' => ∃ v, e = .returned v ∧ OwnI w' w.heap.size v xs ∧ Below w.heap.size w w' := by
  have HV := Lib.hid hv
  have HO := Lib.hid hO
  have HEG := Lib.hid eg
  clear hv hO eg
  refine (callsIn_wide (n := 6)).1 ?_
  refine callsIn_of_wp_marks Tryd.func121 rfl trivial ?_ rfl
  simp only [Tryd.ntmps121, List.size_toArray, List.length_cons, List.length_nil, Nat.reduceAdd, Nat.reduceSub, Array.replicate_succ, Array.replicate_zero, List.push_toArray, List.append_toArray, List.nil_append, List.cons_append]
  gi_upto_region 1 with fail
  generalize hW0 : w.alloc _ = W0
  have hB0 : Below w.heap.size w W0 := by rw [← hW0]; exact (Below.refl _ _).alloc (Nat.le_refl _) _
  have b0 : Boxed W0 w.heap.size 22 (.slice none 0 0) := by rw [← hW0]; exact Boxed.new w _ _
  have hs0 : W0.heap.size = w.heap.size + 1 := by rw [← hW0]; simp
  clear hW0
  have HB0 := Lib.hid hB0
  have HS0 := Lib.hid hs0
  obtain ⟨sb, hsb⟩ : ∃ sb, sb = w.heap.size := ⟨_, rfl⟩
  rw [← hsb] at b0
  have hJ0 : SeqJ w.heap.size sb [] (fun k => k = sb) W0 := ⟨_, b0, OwnE.nil _ _ _, rfl, fun k h => (by cases h), fun k h => by subst h; omega, fun k h => by subst h; omega, by simp [Value.ownBlock]⟩
  have HSB := Lib.hid hsb
  have HJ0 := Lib.hid hJ0
  clear hJ0 b0 hB0 hs0 hsb
  gi_wp2
  rw [← HSB.out]
  have hsb := HSB.out
  refine wpIn_visits (gf := gf) (ba := #[]) (lb := lb) rfl HEG.out (HV.out W0 HB0.out) (fun x G V vs h => by rw [h.2]; rfl)
    (SeqJ w.heap.size sb) (fun _ _ _ => False) (fun _ => SeqJ.foot) (fun _ => foot_false _) (fun k => k = sb) HJ0.out ?hO ?round ?done ?stop
  case hO => exact fun k h => ⟨fun h2 => by have := HO.out k h; omega, by have := HO.out k h; have := HS0.out; omega⟩
  case round =>
    rintro l pre x H G vs V K hl2 ⟨r0, hr⟩ hHl hGl ⟨v, h1, h2, h3, h4, h5, h6, h7⟩ hx ⟨hG0, rfl⟩ hGa hK
    clear hsb
    dsimp only
    gi_wp2
    refine hK _ _ (Keeps.refl _ _) fun r => ?_
    have hu : ∀ k, k ≠ l → (V.putObj l (.loop r)).heap[k]? = V.heap[k]? := fun k h => World.putObj_heap_other h
    have hsz : V.heap.size = (V.putObj l (.loop r)).heap.size := by simp
    have nl : ∀ k, H k → k ≠ l := fun k h e => hHl (e ▸ h)
    have g1 : Boxed (V.putObj l (.loop r)) sb 22 v := (hu sb (nl _ h3)).trans h1
    have g2 : OwnI (V.putObj l (.loop r)) w.heap.size v pre := OwnE.same h2 fun g hg => hu g (nl _ (h4 g hg))
    rw [hsz] at h5 ⊢
    generalize V.putObj l (.loop r) = U at *
    obtain ⟨rA, rc, hve⟩ := OwnE.slice g2
    have HH := Lib.hid (show Boxed U sb 22 v ∧ H sb ∧ (∀ b, v.ownBlock = some b → H b) ∧ (∀ b, H b → b < U.heap.size) ∧ (∀ b, H b → w.heap.size ≤ b) ∧ v.ownBlock ≠ some sb from ⟨g1, h3, h4, h5, h6, h7⟩)
    have hxl : pre.length < 1000 := by have := hx.length_le; simp at this; omega
    have HOA := Lib.hid (OwnE.alloc g2 (.cells #[.int .i64 x] 3))
    have HCA : Hid ((U.alloc (.cells #[.int .i64 x] 3)).cell? ⟨U.heap.size, 0, none⟩ = some (.int .i64 x)) := Lib.hid (cell_new _ _ _)
    have HBA : Hid (Below U.heap.size U (U.alloc (.cells #[.int .i64 x] 3))) := Lib.hid ((Below.refl _ _).alloc (Nat.le_refl _) _)
    have HWU : Hid (w.heap.size ≤ U.heap.size) := Lib.hid (by have := h5 _ h3; have := h6 _ h3; omega)
    have HXL := Lib.hid hxl
    subst hve
    have x1 := g1.cell
    have x1f := g1.frozen
    have HG0 : Hid (G = fun _ => False) := Lib.hid (by funext k; exact propext ⟨fun h => hG0 k h, fun h => h.elim⟩)
    clear h1 h2 h3 h4 h5 h6 h7 g1 g2 hu nl hsz hx hr hHl hGl hGa hK hl2 hxl hG0
    gi_wp2_with (first | (with_reducible refine wpListIn_append_both rfl _ _ rfl w.heap.size (.slice rA pre.length rc) pre rfl HOA.out U.heap.size 1 x rfl HCA.out (by have := HXL.out; omega) (Nat.le_trans HWU.out HBA.out.size) ?_) | (intro v' w2 r1 r2 r3 r4; have q7 : Boxed w2 sb 22 (.slice rA pre.length rc) := (r3.block sb (Nat.lt_of_lt_of_le (HH.out.2.2.2.1 _ HH.out.2.1) HBA.out.size) (fun e => HH.out.2.2.2.2.2 e.symm)).trans ((HBA.out.block sb (HH.out.2.2.2.1 _ HH.out.2.1)).trans HH.out.1); have q7c := q7.cell; have q7f := q7.frozen; have HEND := Lib.hid (seq_next HH.out.1 HH.out.2.1 HH.out.2.2.1 HH.out.2.2.2.1 HH.out.2.2.2.2.1 HH.out.2.2.2.2.2 HBA.out r1 r3 (r4.imp And.left (fun ⟨h, e1, e2⟩ => ⟨h, e1, by rw [size_alloc]; exact e2⟩))); obtain ⟨a6, c6, hv6⟩ := OwnE.slice r1; subst hv6; clear r1 r2 r3 r4 q7))
    have hE := HEND.out
    rw [show (pre ++ [x]).length = pre.length + 1 by simp] at hE
    rw [HG0.out]
    exact hE
  case done =>
    rintro D H Wf hD hHD hg ⟨v, h1, h2, h3, h4, h5, h6, h7⟩ hk hKd
    have x1 := h1.cell
    have nD : ∀ k, H k → k ≠ D := fun k h e => hHD (by rw [← e]; exact h)
    have HKD := Lib.hid hKd
    have HB : Hid (Below w.heap.size w (Wf.putObj D (.deferred none))) := by
      have h1 : Below w.heap.size w Wf := HB0.out.trans (hk.below HB0.out.size fun i hi h => by omega)
      exact Lib.hid (h1.trans ⟨rfl, rfl, rfl, by simp, fun k hk => World.putObj_heap_other (by have := HB0.out.size; omega)⟩)
    have HOW : Hid (OwnI (Wf.putObj D (.deferred none)) w.heap.size v xs) := Lib.hid (OwnE.same h2 fun g hg => World.putObj_heap_other (nD _ (h4 g hg)))
    clear h1 h2 h3 h4 h5 h6 h7 hk hKd hg hHD nD hsb
    obtain ⟨rA, rc, hve⟩ := OwnE.slice HOW.out
    subst hve
    gi_wp2
    refine ⟨by simp, .inl ⟨_, _, rfl, run_takeDeferred HKD.out, ?_⟩⟩
    exact ⟨_, by simp [results, Tryd.results121, go_sem], _, rfl, HOW.out, HB.out⟩
  case stop => exact fun _ _ _ _ _ _ _ h => h.elim

theorem collect_any (xs : List Int) (hl : xs.length ≤ 1000) (gf : Nat) (lb : Array Value) (O : Blks) (w : World) (eg : ∀ args u, (callFunc gf args).run Tryd.prog u = .ok (.enter gf args) u) (hO : ∀ b, O b → b < w.heap.size) (hv : ∀ u, Below w.heap.size w u → Visits Tryd.prog gf #[] lb xs RVal O u) :
    Calls Tryd.prog 100 #[.func (.func gf) #[] lb] w fun e w' => ∃ v, e = .returned v ∧ OwnI w' w.heap.size v xs ∧ Below w.heap.size w w' := by
  have HA := Lib.hid (appendSeq_any xs hl gf lb O w eg hO hv)
  clear hv eg hO
  go_enter Tryd.func100, Tryd.ntmps100
  go_wp2_with (go_at_call 121; refine HA.out.mono ?_; rintro e w1 ⟨v, rfl, ho, hb⟩; obtain ⟨ao, c, rfl⟩ := OwnE.slice ho)
  go_ret
  exact ⟨_, rfl, ho, hb⟩

theorem sorted_any (xs : List Int) (hl : xs.length ≤ 1000) (gf : Nat) (lb : Array Value) (O : Blks) (w : World) (eg : ∀ args u, (callFunc gf args).run Tryd.prog u = .ok (.enter gf args) u) (hO : ∀ b, O b → b < w.heap.size) (hv : ∀ u, Below w.heap.size w u → Visits Tryd.prog gf #[] lb xs RVal O u) :
    Calls Tryd.prog 79 #[.func (.func gf) #[] lb] w fun e w' => ∃ v, e = .returned v ∧ OwnI w' w.heap.size v (srt xs) ∧ Below w.heap.size w w' := by
  have HA := Lib.hid (collect_any xs hl gf lb O w eg hO hv)
  clear hv eg hO
  go_enter Tryd.func79, Tryd.ntmps79
  go_wp2_with (go_at_call 100; refine HA.out.mono ?_; rintro e w1 ⟨v, rfl, ho, hb⟩; obtain ⟨ao, c, rfl⟩ := OwnE.slice ho)
  have HB := Lib.hid hb
  have HS := Lib.hid (sort_any _ _ xs w1 ho (by omega))
  have HO := Lib.hid ho
  clear ho hb
  go_wp2_with (go_at_call 101; refine HS.out.mono ?_; rintro e w2 ⟨rfl, h2, h3⟩)
  go_ret
  exact ⟨_, rfl, h2, HB.out.grown h3 HB.out.size (fun k hk => (OwnE.lt HO.out k hk).1)⟩

theorem compactTo_le (d : Array Int) (m : Nat) : (Lib.compactUpTo d m).length ≤ m := by
  induction m with
  | zero => simp [Lib.compactUpTo]
  | succ m ih =>
    rw [Lib.compactUpTo_succ, List.length_append]
    split <;> simp <;> omega
theorem compactO_any (base : Nat) (v : Value) (zs : List Int) (w : World) (h : OwnI w base v zs) (hl : zs.length ≤ 1000) :
    Calls Tryd.prog 78 #[v] w fun e w' => ∃ v', e = .returned v' ∧ OwnI w' base v' (Lib.compact zs) ∧ Below base w w' := by
  have hc : cellsE EInt zs = zs.map (Value.int .i64) := cellsE_int zs
  have hc2 : cellsE EInt (Lib.compact zs) = (Lib.compact zs).map (Value.int .i64) := cellsE_int _
  have h0 := h
  rcases h0.2 with ⟨e, hn⟩ | ⟨g, cap, cur, e, hbg, hg, h1, h2, h3, h4⟩
  · have hx : zs = [] := List.eq_nil_of_length_eq_zero hn
    subst hx e
    refine (Tryd.slices_Compact_int_empty none 0 w).mono ?_
    rintro e w' ⟨rfl, rfl⟩
    exact ⟨_, rfl, h, Below.refl _ _⟩
  · subst e
    have hH := holds_of_blockI (ss := zs) hg (by rw [← hc, ← h4, show EInt.size = 1 from rfl, Nat.mul_one])
    have hle : (Lib.compact zs).length ≤ zs.length := compactTo_le zs.toArray zs.length
    refine (Tryd.slices_Compact_int g 0 cap zs w hH (by omega) h1).mono ?_
    rintro e w' ⟨rfl, q, rfl⟩
    refine ⟨_, rfl, ?_, Lib.below_putRow (Below.refl _ _) hbg⟩
    have hb := heap_sortedI (n := q) (os := #[]) (Lib.compact zs ++ List.replicate (zs.length - (Lib.compact zs).length) 0).toArray hg
    rw [Sort.grow_empty] at hb
    have h3' : cur.size = cap := by rw [h3]; exact Nat.mul_one _
    have ht := take_putCellsI cur (Lib.compact zs ++ List.replicate (zs.length - (Lib.compact zs).length) 0) (by simp; omega)
    unfold OwnI OwnE
    rw [hc2]
    refine ⟨by simp [EInt], .inr ⟨g, cap, _, rfl, hbg, hb, Nat.le_trans hle h1, h2, by simp [Sort.putCells, h3], ?_⟩⟩
    rw [show EInt.size = 1 from rfl, Nat.mul_one]
    have e1 := congrArg (List.take (Lib.compact zs).length) ht
    rw [List.take_take, Nat.min_eq_left (by simp), ← List.map_take, List.take_left'  rfl] at e1
    exact e1

/-- index.Distinct: the numbers of a list, ascending and each of them once -/
theorem distinctG_any (xs : List Int) (A : Option Addr) (c : Nat) (w : World) (hl : xs.length ≤ 1000) (hA : Ints w w.heap.size A xs) :
    Calls Tryd.prog 48 #[.slice A xs.length c] w fun e w' => ∃ v, e = .returned v ∧ OwnI w' w.heap.size v (Lib.compact (srt xs)) ∧ Below w.heap.size w w' := by
  have hb0 : Below w.heap.size w (w.alloc (.cells #[.slice A xs.length c] 22)) := (Below.refl _ _).alloc (Nat.le_refl _) _
  have HB0 := Lib.hid hb0
  have HVA := Lib.hid (values_any A xs.length c w)
  have HS := Lib.hid (sorted_any xs hl 102 #[.pointer (some ⟨w.heap.size, 0, none⟩)] (fun b => b = w.heap.size ∨ ∃ o, xs ≠ [] ∧ A = some ⟨b, o, none⟩) (w.alloc (.cells #[.slice A xs.length c] 22)) (enters_of Tryd.func102 (by kernel_rfl) rfl) (fun b h => by
    rcases h with h | ⟨o, hn, h⟩
    · simp; omega
    · rcases hA with h2 | ⟨b2, o2, e2, hb2, _⟩
      · exact absurd h2 hn
      · rw [h] at e2; injection e2 with e2; injection e2 with e2; simp; omega) (fun u hu => values_visits xs hl w.heap.size A c u (heap_up hu (Boxed.new w _ _)) (Reads.up (Reads.up hA hb0) hu)))
  have HL := Lib.hid (srt_len xs)
  clear hA hb0
  go_enter Tryd.func48, Tryd.ntmps48
  go_wp2_with (first | (go_at_call 80; refine HVA.out.mono ?_; rintro e w1 ⟨rfl, rfl⟩) | (go_at_call 79; refine HS.out.mono ?_; rintro e w2 ⟨v, rfl, ho, hb⟩; have HB := Lib.hid (HB0.out.trans (hb.mono (by simp))); have HCC := Lib.hid (compactO_any _ v _ w2 ho (by have := HL.out; omega)); have HSZ := Lib.hid hb.size; obtain ⟨ao, c2, rfl⟩ := OwnE.slice ho; clear ho hb) | (go_at_call 78; refine HCC.out.mono ?_; rintro e w3 ⟨v3, rfl, ho3, hb3⟩; have HO3 := Lib.hid ho3; have HB3 := Lib.hid hb3; obtain ⟨ao3, c3, rfl⟩ := OwnE.slice ho3; clear ho3 hb3))
  go_ret
  exact ⟨_, rfl, OwnE.mono HO3.out (by simp), HB.out.trans (HB3.out.mono (by simp))⟩

end Go.Proofs.YthnhacncnhknnaaDoor

/-
  How many different elements a list has, and what that says.
-/
namespace Go.Proofs.YthnhacncnhknnaaDoor

theorem nodup_le {l k : List Int} (h : l.Nodup) (hs : ∀ x ∈ l, x ∈ k) : l.length ≤ k.length := by
  induction l generalizing k with
  | nil => simp
  | cons x l ih =>
    obtain ⟨h1, h2⟩ := List.nodup_cons.1 h
    have hx := hs x (by simp)
    have := ih (k := k.erase x) h2 fun y hy => (List.mem_erase_of_ne (fun e => h1 (by rw [← e]; exact hy))).2 (hs y (by simp [hy]))
    rw [List.length_erase_of_mem hx] at this
    have := List.length_pos_of_mem hx
    simp
    omega
/-- of an ascending list: what is left has no two equal elements, and the same ones -/
theorem compactUp (zs : List Int) (h : zs.Pairwise (· ≤ ·)) (m : Nat) (hm : m ≤ zs.length) :
    (Lib.compactUpTo zs.toArray m).Nodup ∧ (∀ x, x ∈ Lib.compactUpTo zs.toArray m ↔ x ∈ zs.take m) := by
  induction m with
  | zero => simp [Lib.compactUpTo]
  | succ m ih =>
    obtain ⟨h1, h2⟩ := ih (by omega)
    have hlt : m < zs.length := by omega
    have hg : zs.toArray[m]! = zs[m] := by simp [hlt]
    rw [Lib.compactUpTo_succ, hg]
    have ht : zs.take (m + 1) = zs.take m ++ [zs[m]] := by rw [List.take_add_one, List.getElem?_eq_getElem hlt]; rfl
    rw [ht]
    by_cases hk : Lib.keeps zs.toArray m = true
    · rw [if_pos hk]
      have hn : zs[m] ∉ zs.take m := fun hx => by
        obtain ⟨i, hi, e⟩ := List.mem_iff_getElem.1 hx
        have him : i < m := by simp at hi; omega
        rw [List.getElem_take] at e
        rcases of_decide_eq_true (by simpa [Lib.keeps] using hk : decide (m = 0 ∨ zs.toArray[m]! ≠ zs.toArray[m - 1]!) = true) with h0 | h0
        · omega
        · have hg2 : zs.toArray[m - 1]! = zs[m - 1]'(by omega) := by simp [show m - 1 < zs.length by omega]
          rw [hg, hg2] at h0
          have a1 : zs[m - 1]'(by omega) ≤ zs[m] := List.pairwise_iff_getElem.1 h (m - 1) m (by omega) hlt (by omega)
          have a2 : zs[i]'(by omega) ≤ zs[m - 1]'(by omega) := by
            rcases Nat.lt_or_ge i (m - 1) with h3 | h3
            · exact List.pairwise_iff_getElem.1 h i (m - 1) (by omega) (by omega) h3
            · have : i = m - 1 := by omega
              subst this
              exact Int.le_refl _
          omega
      refine ⟨?_, fun x => by rw [List.mem_append, List.mem_append, h2]⟩
      rw [List.nodup_append]
      refine ⟨h1, by simp, fun x hx y hy => ?_⟩
      simp at hy
      subst hy
      exact fun e => hn (by rw [← e]; exact (h2 x).1 hx)
    · rw [if_neg hk, List.append_nil]
      refine ⟨h1, fun x => ?_⟩
      have hk' : Lib.keeps zs.toArray m = false := by simpa using hk
      have hm0 : m ≠ 0 ∧ zs.toArray[m]! = zs.toArray[m - 1]! := by
        have := of_decide_eq_false (by simpa [Lib.keeps] using hk' : decide (m = 0 ∨ zs.toArray[m]! ≠ zs.toArray[m - 1]!) = false)
        exact ⟨fun e => this (.inl e), Classical.byContradiction fun e => this (.inr e)⟩
      have hg2 : zs.toArray[m - 1]! = zs[m - 1]'(by omega) := by simp [show m - 1 < zs.length by omega]
      rw [hg, hg2] at hm0
      rw [h2, List.mem_append, List.mem_singleton]
      refine ⟨.inl, fun hx => hx.elim id fun e => ?_⟩
      rw [e, hm0.2]
      exact List.mem_iff_getElem.2 ⟨m - 1, by simp; omega, by rw [List.getElem_take]⟩
theorem srt_asc (xs : List Int) : (srt xs).Pairwise (· ≤ ·) := by
  have := List.pairwise_mergeSort (le := fun x y : Int => decide (x ≤ y)) (fun a b c h1 h2 => by simp at *; omega) (fun a b => by simp; omega) xs
  unfold srt
  exact this.imp fun h => by simpa using h
end Go.Proofs.YthnhacncnhknnaaDoor

/-
  The boxes of a call: its arguments, one after another, two cells each; and a result.
-/
namespace Go.Proofs.YthnhacncnhknnaaDoor
open Go.RowKit Go.Shelf

abbrev Bx := Value × Value × TypeId
/-- since w: the boxes L in new blocks, one after another -/
def SR (w : World) (L : List Bx) (u : World) : Prop := Below w.heap.size w u ∧ ∀ (i : Nat) (x : Bx), L[i]? = some x → u.heap[w.heap.size + i]? = some (.cells #[x.1, x.2.1] x.2.2 (0, 0))
theorem SR.nil (w : World) : SR w [] w := ⟨Below.refl _ _, fun i x h => by simp at h⟩
theorem SR.push {w u : World} {L : List Bx} (h : SR w L u) (hs : u.heap.size = w.heap.size + L.length) (a b : Value) (t : TypeId) : SR w (L ++ [(a, b, t)]) (u.alloc (.cells #[a, b] t)) := by
  refine ⟨h.1.alloc (by omega) _, fun i x hx => ?_⟩
  by_cases hi : i < L.length
  · rw [List.getElem?_append_left hi] at hx
    rw [at_alloc, if_neg (by omega)]
    exact h.2 i x hx
  · rw [List.getElem?_append_right (by omega)] at hx
    have h0 : i - L.length = 0 := by
      rcases Nat.eq_zero_or_pos (i - L.length) with h | h
      · exact h
      · rw [List.getElem?_eq_none (by simp; omega)] at hx; cases hx
    rw [h0] at hx
    simp at hx
    subst hx
    rw [at_alloc, if_pos (by omega)]
theorem SR.up {w u u' : World} {L : List Bx} (h : SR w L u) (hb : Below u.heap.size u u') : SR w L u' := ⟨h.1.trans (hb.mono h.1.size), fun i x hx => heap_up hb (h.2 i x hx)⟩
theorem SR.cell {w u : World} {L : List Bx} (h : SR w L u) {i : Nat} {x : Bx} (hx : L[i]? = some x) : u.cell? ⟨w.heap.size + i, 0, none⟩ = some x.1 ∧ u.cell? ⟨w.heap.size + i, 1, none⟩ = some x.2.1 := cell2 (h.2 i x hx)
theorem SR.free {w u : World} {L : List Bx} (h : SR w L u) {i : Nat} {x : Bx} (hx : L[i]? = some x) (j : Nat) : u.frozen? ⟨w.heap.size + i, j, none⟩ = false := frozen_of_row _ _ _ _ _ (h.2 i x hx)
/-- both cells of a box written anew -/
theorem SR.set {w u : World} {L : List Bx} {i : Nat} {x : Bx} (h : SR w L u) (hx : L[i]? = some x) (a b : Value) : SR w (L.set i (a, b, x.2.2)) ((u.setCell ⟨w.heap.size + i, 0, none⟩ a).setCell ⟨w.heap.size + i, 1, none⟩ b) := by
  refine ⟨(h.1.setCell (p := ⟨w.heap.size + i, 0, none⟩) (by show w.heap.size ≤ w.heap.size + i; omega) a).setCell (p := ⟨w.heap.size + i, 1, none⟩) (by show w.heap.size ≤ w.heap.size + i; omega) b, fun k y hy => ?_⟩
  by_cases e : i = k
  · subst e
    have hl : i < L.length := (List.getElem?_eq_some_iff.1 hx).1
    rw [List.getElem?_set, if_pos rfl, if_pos hl] at hy
    injection hy with hy
    subst hy
    exact store2 (h := w.heap.size + i) ⟨_, _, h.2 i x hx⟩ a b
  · rw [List.getElem?_set, if_neg e] at hy
    exact (heap_setCell_other _ _ _ _ (by show w.heap.size + k ≠ w.heap.size + i; omega)).trans ((heap_setCell_other _ _ _ _ (by show w.heap.size + k ≠ w.heap.size + i; omega)).trans (h.2 k y hy))
theorem cell_up {u u' : World} {g o : Nat} {v : Value} (hb : Below u.heap.size u u') (h : u.cell? ⟨g, o, none⟩ = some v) : u'.cell? ⟨g, o, none⟩ = some v := (hb.cell (p := ⟨g, o, none⟩) (World.block_lt_of_cell? _ _ h)).trans h

/-! what the other functions answer, as plain data -/
noncomputable def injB (a b : Gr) (m : Mo) : Bool := @decide (morE a b m = 0 ∧ InjM m) (Classical.propDecidable _)
def cmpE (a b c : Gr) (m n : Mo) : Nat := if morE a b m ≠ 0 then morE a b m else morE b c n
def cmpR (a b c : Gr) (m n : Mo) : Mo := if cmpE a b c m n = 0 then compM m n else noM
theorem injB_iff {a b : Gr} {m : Mo} : injB a b m = true ↔ morE a b m = 0 ∧ InjM m := by unfold injB; exact @decide_eq_true_iff _ (Classical.propDecidable _)
end Go.Proofs.YthnhacncnhknnaaDoor
