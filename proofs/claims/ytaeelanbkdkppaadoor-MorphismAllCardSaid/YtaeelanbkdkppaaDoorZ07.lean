import Derived.Test.YtaeelanbkdkppaaDoorZ06
import Derived.Test.YtaeelanbkdkppaaDoorZ03
import Derived.Deep.RegionHeld3
import Derived.Deep.RegionLaw
import Derived.ArgAppend
import Derived.Outline
import Derived.Test.YtaeelanbkdkppaaDoorZ01
import Derived.ProofKit
import Derived.OpenShut
import Derived.Deep.Slices
import Derived.Deep.Strs
import Derived.SizedLaws
import Derived.Test.YtaeelanbkdkppaaDoorZ05
import Derived.Lib.SmallJoins
import Derived.Test.YtaeelanbkdkppaaDoorZ02
/-
  Graphs: append tq an empty literal; what regions that make memory keep; slices.Clip; moveEnds; Copied.
-/
namespace Go.Proofs.YtaeelanbkdkppaaDoor
open Go.RowKit

theorem below_al {wz x : World} (h : Below wz.heap.size wz x) (o : Obj) : Below wz.heap.size wz (x.alloc o) := h.alloc h.size o
theorem below_gr {wz x y : World} (h : Below wz.heap.size wz x) (hg : x.grownBy y none) : Below wz.heap.size wz y := h.grown hg h.size (by intro k hk; cases hk)
/-- a slice of the call's own, or an empty literal -/
def OwnZ {α : Type} (E : El α) (t : TypeId) (w : World) (base : Nat) (v : Value) (xs : List α) : Prop := OwnE E t w base v xs ∨ (xs = [] ∧ ∃ a, v = .slice (some a) 0 0)
section
variable {α : Type} {E : El α} {t : TypeId} {w w' : World} {base : Nat} {v : Value} {xs : List α}
theorem OwnZ.reads_cap (h : OwnZ E t w base v xs) : ∃ A c, v = .slice A xs.length c ∧ Reads E w w.heap.size A xs ∧ xs.length ≤ c ∧ c ≤ maxLen := by
  rcases h with h | ⟨rfl, a, rfl⟩
  · exact OwnE.reads_cap h
  · exact ⟨some a, 0, rfl, .inl rfl, Nat.le_refl _, by unfold maxLen; omega⟩
theorem OwnZ.slice (h : OwnZ E t w base v xs) : ∃ ao cap, v = .slice ao xs.length cap := by
  obtain ⟨A, c, e, _⟩ := h.reads_cap
  exact ⟨A, c, e⟩
theorem OwnZ.below {B : Nat} (h : OwnZ E t w base v xs) (hb : Below B w w') (hB : w.heap.size ≤ B) : OwnZ E t w' base v xs := h.imp (fun h => OwnE.below h hb hB) id
theorem OwnZ.stored {a : Addr} (h : OwnZ E t w base v xs) (ha : a.block < base) (u : Value) : OwnZ E t (w.setCell a u) base v xs := h.imp (fun h => ownsRow_setCell_below h ha u) id
theorem OwnZ.mono {base' : Nat} (h : OwnZ E t w base v xs) (hb : base' ≤ base) : OwnZ E t w base' v xs := h.imp (fun h => OwnE.mono h hb) id
theorem OwnZ.cast {ys : List α} (e : xs = ys) (h : OwnZ E t w base v xs) : OwnZ E t w base v ys := e ▸ h

theorem run_append_lit {P : Program} {w : World} (t ty e : TypeId) (i : TypeInfo) (g : Addr) (c : Nat) (ad : Option Addr) (ht : P.underlying t = some (.slice e)) (hi : P.info? e = some i) :
    (Builtin.append_ #[t, t] ty #[.slice (some g) 0 0, .slice ad 0 c]).run P w = .ok (.slice (some g) 0 0) w := by
  cases ad <;> simp [Builtin.append_, run_underlying ht, sizeOf, typeInfo, hi, Builtin.lenOf, Builtin.firstCells, storeCells, loadCells, loadCellsFrom]
end

section
variable {α : Type} {E : El α}
theorem wp_append_lit {w : World} {o : Oper} {a : Act} {K : Act → World → Prop} {Q : Exit → Act → World → Prop} (s x : Operand) (T t : TypeId)
    (ho : o.op = .call { callee := .builtin .append, args := #[s, x], argTypes := #[T, T] }) {z : Value} {bytes : Nat}
    (hT : Tryd.prog.underlying T = some (.slice t)) (hinfo : (Tryd.prog.info? t).map (fun i => (i.zero, i.size, i.bytes)) = some (some z, E.size, bytes)) (hzc : z.cells.size = E.size) (hpos : 0 < E.size) (hby : bytes ≤ 1000)
    (g : Addr) (hs : a.eval s = .slice (some g) 0 0) (A : Option Addr) (m c B : Nat) (ys : List α) (hx : a.eval x = .slice A m c) (hm : m = ys.length) (hR : Reads E w B A ys) (hl2 : m ≤ 100000)
    (hK : ∀ v' w', OwnZ E t w' w.heap.size v' ys → w.grownBy w' none → K (a.put o.dst v') w') : o.wp Tryd.prog a w K Q := by
  obtain ⟨i0, hi, hz0, hz1, hz2⟩ := info_parts hinfo
  subst hm
  have lit : ∀ ad, a.eval x = .slice ad 0 c → ys = [] → o.wp Tryd.prog a w K Q := fun ad hx hy => by
    have hr := run_append_lit (P := Tryd.prog) (w := w) T o.type t i0 g c ad hT hi
    unfold Oper.wp execOp
    simp only [ho, resolve, invoke, builtin, Sem.run_bind, Sem.run_pure, Result.andThen_ok, List.map_toArray, List.map_cons, List.map_nil, hs, hx, hr]
    exact hK _ w (.inr ⟨hy, g, rfl⟩) (grown_refl w _)
  rcases Nat.eq_zero_or_pos ys.length with h0 | hp
  · rw [h0] at hx
    exact lit _ hx (List.eq_nil_of_length_eq_zero h0)
  · rcases hR with h | ⟨b, off, rfl, _, h3⟩
    · rw [h] at hp; simp at hp
    · have hb : ys.length * bytes ≤ 100000 * 1000 := Nat.mul_le_mul (by omega) hby
      obtain ⟨v', w', hrun, r1, r2⟩ := run_append_arg_grows (P := Tryd.prog) w T o.type t i0 z E.size bytes hT hi hz0 hz1 hz2 hzc hpos g 0 0 [] (by simp) (fun j u h => by simp at h) ⟨b, off, none⟩ ys.length c (cellsE E ys) (cellsE_length E ys) (by
          intro j u hj
          obtain ⟨hj1, _⟩ := List.getElem?_eq_some_iff.1 hj
          rw [cellsE_length] at hj1
          have hi2 : j / E.size < ys.length := (Nat.div_lt_iff_lt_mul hpos).2 hj1
          have hq := List.getElem?_eq_getElem hi2
          have hlt : j % E.size < (E.enc ys[j / E.size]).length := by rw [E.len]; exact Nat.mod_lt _ hpos
          have hu := cellsE_get E hq (List.getElem?_eq_getElem hlt)
          have ej : j / E.size * E.size + j % E.size = j := by rw [Nat.mul_comm]; exact Nat.div_add_mod j E.size
          rw [ej, hj] at hu
          have := h3 _ _ hq _ _ (List.getElem?_eq_getElem hlt)
          rw [addr_plain, show off + j = off + j / E.size * E.size + j % E.size by rw [Nat.add_assoc, ej], this, hu]) (by omega) (by unfold maxLen; omega) (by rw [Nat.zero_add]; omega)
      unfold Oper.wp execOp
      simp only [ho, resolve, invoke, builtin, Sem.run_bind, Sem.run_pure, Result.andThen_ok, List.map_toArray, List.map_cons, List.map_nil, hs, hx, hrun]
      refine hK v' w' (.inl ?_) r2
      unfold OwnE
      rw [Nat.zero_add, List.nil_append] at r1
      exact r1
/-- w' is w with more memory; what may have changed is of type t, from base on -/
def Grow (t : TypeId) (base : Nat) (w w' : World) : Prop := Below base w w' ∧ ∀ (i : Nat) (cs : Array Value) (t' : TypeId), t' ≠ t → w.heap[i]? = some (.cells cs t' (0, 0)) → w'.heap[i]? = some (.cells cs t' (0, 0))
theorem Grow.own {t : TypeId} {base : Nat} {w w' : World} {v : Value} {xs : List α} (hown : OwnE E t w base v xs) (hg : w.grownBy w' v.ownBlock) (hb : Below base w w') : Grow t base w w' :=
  ⟨hb, fun i _ _ ht h => (hg.block i (Array.getElem?_eq_some_iff.1 h).1 (fun e => own_far hown h (fun e2 => ht e2.symm) e.symm)).trans h⟩
theorem Grow.of {t : TypeId} {base : Nat} {w w' : World} (hb : Below w.heap.size w w') (hB : base ≤ w.heap.size) : Grow t base w w' := ⟨hb.mono hB, fun i _ _ _ h => (hb.block i (Array.getElem?_eq_some_iff.1 h).1).trans h⟩
theorem Grow.trans {t : TypeId} {base : Nat} {a b c : World} (h : Grow t base a b) (k : Grow t base b c) : Grow t base a c := ⟨h.1.trans k.1, fun i cs t' ht hh => k.2 i cs t' ht (h.2 i cs t' ht hh)⟩
theorem Grow.refl (t : TypeId) (base : Nat) (w : World) : Grow t base w w := ⟨Below.refl _ _, fun _ _ _ _ h => h⟩
theorem Grow.row {β : Type} {G : El β} {t t' : TypeId} {base b2 : Nat} {w w' : World} {v : Value} {xs : List β} (hg : Grow t base w w') (ht : t' ≠ t) (h : OwnE G t' w b2 v xs) : OwnE G t' w' b2 v xs := by
  refine ⟨h.1, ?_⟩
  rcases h.2 with hn | ⟨g, cap, cur, hv, hbg, hh, rest⟩
  · exact .inl hn
  · exact .inr ⟨g, cap, cur, hv, hbg, hg.2 g _ _ ht hh, rest⟩
theorem Grow.rowZ {β : Type} {G : El β} {t t' : TypeId} {base b2 : Nat} {w w' : World} {v : Value} {xs : List β} (hg : Grow t base w w') (ht : t' ≠ t) (h : OwnZ G t' w b2 v xs) : OwnZ G t' w' b2 v xs := h.imp (hg.row ht) id
theorem wp_append_Z {w : World} {o : Oper} {a : Act} {K : Act → World → Prop} {Q : Exit → Act → World → Prop} (s x : Operand) (T t : TypeId)
    (ho : o.op = .call { callee := .builtin .append, args := #[s, x], argTypes := #[T, T] }) {z : Value} {bytes : Nat}
    (hT : Tryd.prog.underlying T = some (.slice t)) (hinfo : (Tryd.prog.info? t).map (fun i => (i.zero, i.size, i.bytes)) = some (some z, E.size, bytes)) (hzc : z.cells.size = E.size) (hpos : 0 < E.size) (hby : bytes ≤ 1000)
    (base : Nat) (v : Value) (xs : List α) (hs : a.eval s = v) (hown : OwnZ E t w base v xs) (A : Option Addr) (m c B : Nat) (ys : List α) (hx : a.eval x = .slice A m c) (hm : m = ys.length) (hR : Reads E w B A ys) (hl : xs.length ≤ 100000) (hl2 : m ≤ 100000) (hbase : base ≤ w.heap.size)
    (hK : ∀ v' w', OwnZ E t w' base v' (xs ++ ys) → Grow t base w w' → K (a.put o.dst v') w') : o.wp Tryd.prog a w K Q := by
  rcases hown with hown | ⟨rfl, g, rfl⟩
  · exact wp_append_many s x T t ho hT hinfo hzc hpos hby base v xs hs hown A m c B ys hx hm hR hl hl2 hbase fun v' w' h2 h3 h4 _ => hK v' w' (.inl h2) (Grow.own hown h3 h4)
  · exact wp_append_lit s x T t ho hT hinfo hzc hpos hby g hs A m c B ys hx hm hR hl2 fun v' w' h2 h3 => hK v' w' (by rw [List.nil_append]; exact h2.mono hbase) (Grow.of ((Below.refl _ w).grown h3 (Nat.le_refl _) (by intro k hk; cases hk)) hbase)
theorem wpList_append_Z {w : World} {ops : Array Oper} {rest : List Oper} {o : Oper} {a : Act} {Q : Exit → Act → World → Prop} (hgd : o.guard = none) (s x : Operand) (T t : TypeId)
    (ho : o.op = .call { callee := .builtin .append, args := #[s, x], argTypes := #[T, T] }) {z : Value} {bytes : Nat}
    (hT : Tryd.prog.underlying T = some (.slice t)) (hinfo : (Tryd.prog.info? t).map (fun i => (i.zero, i.size, i.bytes)) = some (some z, E.size, bytes)) (hzc : z.cells.size = E.size) (hpos : 0 < E.size) (hby : bytes ≤ 1000)
    (base : Nat) (v : Value) (xs : List α) (hs : a.eval s = v) (hown : OwnZ E t w base v xs) (A : Option Addr) (m c B : Nat) (ys : List α) (hx : a.eval x = .slice A m c) (hm : m = ys.length) (hR : Reads E w B A ys) (hl : xs.length ≤ 100000) (hl2 : m ≤ 100000) (hbase : base ≤ w.heap.size)
    (hK : ∀ v' w', OwnZ E t w' base v' (xs ++ ys) → Grow t base w w' → wpList Tryd.prog ops Q rest (a.put o.dst v') w') : wpList Tryd.prog ops Q (o :: rest) a w :=
  wpList_plain hgd fun _ hK2 => wp_append_Z s x T t ho hT hinfo hzc hpos hby base v xs hs hown A m c B ys hx hm hR hl hl2 hbase fun v' w' h2 h3 => hK2 _ _ (hK v' w' h2 h3)
theorem step_append_lit {w : World} {ops : Array Oper} {o : Oper} {a : Act} {K : Act → World → Prop} {Q : Exit → Act → World → Prop} {X : Prop} (hgd : o.guard = none) (s x : Operand) (T t : TypeId)
    (ho : o.op = .call { callee := .builtin .append, args := #[s, x], argTypes := #[T, T] }) {z : Value} {bytes : Nat}
    (hT : Tryd.prog.underlying T = some (.slice t)) (hinfo : (Tryd.prog.info? t).map (fun i => (i.zero, i.size, i.bytes)) = some (some z, E.size, bytes)) (hzc : z.cells.size = E.size) (hpos : 0 < E.size) (hby : bytes ≤ 1000)
    (g : Addr) (hs : a.eval s = .slice (some g) 0 0) (A : Option Addr) (m c B : Nat) (ys : List α) (hx : a.eval x = .slice A m c) (hm : m = ys.length) (hR : Reads E w B A ys) (hl2 : m ≤ 100000)
    (hK : ∀ v' w', OwnZ E t w' w.heap.size v' ys → w.grownBy w' none → K (a.put o.dst v') w') : if Region.wanted o (yielded ops a.tmps) = true then Oper.wp Tryd.prog o a w K Q else X := by
  have hw : Region.wanted o (yielded ops a.tmps) = true := by simp [Region.wanted, hgd]
  rw [if_pos hw]
  exact wp_append_lit s x T t ho hT hinfo hzc hpos hby g hs A m c B ys hx hm hR hl2 hK
end

/-! slices.Clip -/
/-! moveEnds -/
/-! what regions keep -/
theorem below_a (u : World) (o : Obj) : Below u.heap.size u (u.alloc o) := (Below.refl _ _).alloc (Nat.le_refl _) o
theorem below_ad (u : World) (o : Obj) : Below u.heap.size u (u.alloc o).drew := Below.drew (below_a u o)
theorem below_d (u : World) : Below u.heap.size u u.drew := Below.drew (Below.refl _ _)
theorem below_g {u x : World} (hg : u.grownBy x none) : Below u.heap.size u x := (Below.refl _ u).grown hg (Nat.le_refl _) (by intro k hk; cases hk)
/-- the value in a cell -/
def valAt (W : World) (h j : Nat) : Value := (W.cell? ⟨h, j, none⟩).getD (.bool false)
/-- a variable of two cells -/
def Blk (h : Nat) (t : TypeId) (W : World) : Prop := ∃ x y, W.heap[h]? = some (.cells #[x, y] t (0, 0))
abbrev Sto (h : Nat) (W : World) : Prop := (W.cell? ⟨h, 0, none⟩ = some (valAt W h 0) ∧ W.cell? ⟨h, 1, none⟩ = some (valAt W h 1)) ∧ (W.frozen? ⟨h, 0, none⟩ = false ∧ W.frozen? ⟨h, 1, none⟩ = false)
theorem Blk.sto {h : Nat} {t : TypeId} {W : World} (hb : Blk h t W) : Sto h W := by
  obtain ⟨x, y, hh⟩ := hb
  obtain ⟨c0, c1⟩ := cell2 hh
  refine ⟨⟨?_, ?_⟩, frozen_of_row _ _ _ _ _ hh, frozen_of_row _ _ _ _ _ hh⟩
  · unfold valAt; rw [c0]; rfl
  · unfold valAt; rw [c1]; rfl
theorem Blk.up {h : Nat} {t : TypeId} {W W' : World} (hb : Blk h t W) (hu : Below W.heap.size W W') : Blk h t W' := by
  obtain ⟨x, y, hh⟩ := hb
  exact ⟨x, y, heap_up hu hh⟩
theorem store2 {W : World} {h : Nat} {t : TypeId} (hb : Blk h t W) (a b : Value) : ((W.setCell ⟨h, 0, none⟩ a).setCell ⟨h, 1, none⟩ b).heap[h]? = some (.cells #[a, b] t (0, 0)) := by
  obtain ⟨x, y, hh⟩ := hb
  exact heap_setCell_same _ h 1 _ _ b (heap_setCell_same W h 0 _ _ a hh)
theorem Blk.store {h : Nat} {t : TypeId} {W : World} (hb : Blk h t W) (a b : Value) : Blk h t ((W.setCell ⟨h, 0, none⟩ a).setCell ⟨h, 1, none⟩ b) := ⟨a, b, store2 hb a b⟩
/-- a box that is read, a variable that is written -/
abbrev One (g : Nat) (u v : Value) (h : Nat) (t : TypeId) (wz W : World) : Prop :=
  (W.cell? ⟨g, 0, none⟩ = some u ∧ W.cell? ⟨g, 1, none⟩ = some v) ∧ Sto h W ∧ Blk h t W ∧ Below (g + 1) wz W ∧ g + 1 ≤ W.heap.size
theorem one_of {g h : Nat} {u v : Value} {t t' : TypeId} {wz W : World} (h1 : wz.heap[g]? = some (.cells #[u, v] t' (0, 0))) (h2 : Blk h t W) (hb : Below (g + 1) wz W) (hs : g + 1 ≤ W.heap.size) : One g u v h t wz W :=
  ⟨cell2 ((hb.block g (Nat.lt_succ_self _)).trans h1), h2.sto, h2, hb, hs⟩
theorem One.up {g h : Nat} {u v : Value} {t t' : TypeId} {wz W W' : World} (h1 : wz.heap[g]? = some (.cells #[u, v] t' (0, 0))) (ho : One g u v h t wz W) (hb : Below W.heap.size W W') : One g u v h t wz W' :=
  one_of h1 (ho.2.2.1.up hb) (ho.2.2.2.1.trans (hb.mono ho.2.2.2.2)) (Nat.le_trans ho.2.2.2.2 hb.size)
theorem One.store {g h : Nat} {u v : Value} {t t' : TypeId} {wz W : World} (h1 : wz.heap[g]? = some (.cells #[u, v] t' (0, 0))) (hgh : g < h) (ho : One g u v h t wz W) (a b : Value) : One g u v h t wz ((W.setCell ⟨h, 0, none⟩ a).setCell ⟨h, 1, none⟩ b) :=
  one_of h1 (ho.2.2.1.store a b) ((ho.2.2.2.1.setCell (p := ⟨h, 0, none⟩) hgh a).setCell (p := ⟨h, 1, none⟩) hgh b) (by simpa using ho.2.2.2.2)

/-! Copied -/
set_option maxRecDepth 100000 in
set_option maxHeartbeats 4000000 in
theorem copied_any (g : Gr) (An : Option Addr) (cn : Nat) (Ae : Option Addr) (ce : Nat) (w : World) (hf : g.ns.length ≤ 1000 ∧ g.es.length ≤ 1000) (hT : GrAt w An cn Ae ce g) :
    Calls Tryd.prog 37 #[gval An g.ns.length cn Ae g.es.length ce] w fun e w' => (∃ v u, e = .returned (.agg #[v, u]) ∧ OwnZ EInt 3 w' w.heap.size v g.ns ∧ OwnZ EEd 65 w' w.heap.size u g.es) ∧ Below w.heap.size w w' := by
  obtain ⟨wz, hwz⟩ : ∃ wz, wz = (w.alloc (.cells #[.slice An g.ns.length cn, .slice Ae g.es.length ce] 25 (0, 0))).alloc (.cells #[.slice none 0 0, .slice none 0 0] 25 (0, 0)) := ⟨_, rfl⟩
  have hb0 : Below w.heap.size w wz := by rw [hwz]; exact ((Below.refl _ _).alloc (Nat.le_refl _) _).alloc (by simp) _
  have hh1 : wz.heap[w.heap.size]? = some (.cells #[.slice An g.ns.length cn, .slice Ae g.es.length ce] 25 (0, 0)) := by rw [hwz]; exact heap_two _ _ _
  have hh2 : Blk (w.heap.size + 1) 25 wz := ⟨_, _, by rw [hwz]; exact heap_two' _ _ _⟩
  have hzs : wz.heap.size = w.heap.size + 2 := by rw [hwz]; simp
  have hs1 : One w.heap.size (.slice An g.ns.length cn) (.slice Ae g.es.length ce) (w.heap.size + 1) 25 wz wz := one_of hh1 hh2 (Below.refl _ _) (by omega)
  have HU := Lib.hid (fun W W' h hb => One.up (h := w.heap.size + 1) (t := 25) (W := W) (W' := W') hh1 h hb)
  have HST := Lib.hid (fun W h a b => One.store (t := 25) (W := W) hh1 (Nat.lt_succ_self w.heap.size) h a b)
  have HBW : Hid (∀ W, One w.heap.size (.slice An g.ns.length cn) (.slice Ae g.es.length ce) (w.heap.size + 1) 25 wz W → Below w.heap.size w W) := Lib.hid fun W h => hb0.trans (h.2.2.2.1.mono (Nat.le_succ _))
  have HBZ : Hid (∀ W, One w.heap.size (.slice An g.ns.length cn) (.slice Ae g.es.length ce) (w.heap.size + 1) 25 wz W → w.heap.size + 2 ≤ W.heap.size) := Lib.hid fun W h => heap_lt h.2.2.1.choose_spec.choose_spec
  have HN := Lib.hid (fun W h => Reads.below hT.ns (HBW.out W h))
  have HE := Lib.hid (fun W h => Reads.below hT.es (HBW.out W h))
  have HS1 := Lib.hid hs1
  obtain ⟨l1, l2⟩ := hf
  have HZ := Lib.hid hzs
  clear hb0 hh1 hh2 hT hzs hs1
  go_enter Tryd.func37, Tryd.ntmps37
  go_wp2_with fail
  rw [← hwz]
  clear hwz
  go_region_held3 (One w.heap.size (.slice An g.ns.length cn) (.slice Ae g.es.length ce) (w.heap.size + 1) 25 wz)
    (first | assumption | exact HS1.out | exact HU.out _ _ (by first | assumption | exact HS1.out) (by first | exact below_a _ _ | exact below_ad _ _ | exact below_d _ | exact below_g (by assumption)) | exact HST.out _ (by assumption) _ _)
    ((first
      | (refine step_append_lit (E := EInt) (by rfl) _ _ 22 3 (by rfl) Tryd.underlying22 infoInt rfl (by decide) (by decide) _ (by rfl) An g.ns.length cn w.heap.size g.ns (by rfl) rfl (HN.out _ (by assumption)) (by omega) ?_; intro v1 w1 ho1 hg1; have hq1 := HU.out _ _ (by first | assumption | exact HS1.out) (below_g hg1); obtain ⟨ao1, cap1, rfl⟩ := ho1.slice)
      | (refine step_append_lit (E := EEd) (by rfl) _ _ 23 65 (by rfl) Tryd.underlying23 infoEd rfl (by decide) (by decide) _ (by rfl) Ae g.es.length ce w.heap.size g.es (by rfl) rfl (HE.out _ (by assumption)) (by omega) ?_; intro v2 w2 ho2 hg2; have hq2 := HU.out _ _ (by first | assumption | exact HS1.out) (below_g hg2); obtain ⟨ao2, cap2, rfl⟩ := ho2.slice)))
  all_goals
    have hb12 : Below w1.heap.size w1 w2 := by
      first
        | exact below_g hg2
        | exact (below_a _ _).trans ((below_g hg2).mono (by simp))
        | exact (below_ad _ _).trans ((below_g hg2).mono (by simp))
    have hs1 := (HBZ.out _ hq1)
    have hz := HZ.out
    have HO1 := Lib.hid ((ho1.below hb12 (Nat.le_refl _)).mono (base' := w.heap.size + 2) (by first | (simp; omega) | omega))
    have HO2 := Lib.hid (ho2.mono (base' := w.heap.size + 2) (by first | (simp; omega) | omega))
    have hh := store2 hq2.2.2.1 (.slice ao1 g.ns.length cap1) (.slice ao2 g.es.length cap2)
    obtain ⟨r0, r1⟩ := cell2 hh
    have HBF := Lib.hid (HBW.out _ hq2)
    clear hb12 hs1 hz hh ho1 ho2 hg1 hg2 hq1 hq2
    go_wp2_with fail
    refine bodyPost_ret (v := gval ao1 g.ns.length cap1 ao2 g.es.length cap2) (by simp [results, Tryd.results37, go_sem, r0, r1]) rfl ?_
    exact ⟨⟨_, _, rfl, ((HO1.out.stored (by simp) _).stored (by simp) _).mono (by omega), ((HO2.out.stored (by simp) _).stored (by simp) _).mono (by omega)⟩, (HBF.out.setCell (by simp) _).setCell (by simp) _⟩

end Go.Proofs.YtaeelanbkdkppaaDoor

/-
  Graphs: a function's box and its result variable; append tq a clipped slice.
-/
namespace Go.Proofs.YtaeelanbkdkppaaDoor
open Go.RowKit

/-- block g holds an edge -/
def EdIs (g : Nat) (x : Ed) (W : World) : Prop := W.heap[g]? = some (.cells #[.int .i64 x.ty, .int .i64 x.fr, .int .i64 x.tq] 65 (0, 0))
/-- block g is a box of two cells -/
def BoxIs (g : Nat) (u v : Value) (t : TypeId) (W : World) : Prop := W.heap[g]? = some (.cells #[u, v] t (0, 0))
theorem BoxIs.up {g : Nat} {u v : Value} {t : TypeId} {W W' : World} (h : BoxIs g u v t W) (hb : Below W.heap.size W W') : BoxIs g u v t W' := heap_up hb h
theorem BoxIs.cells {g : Nat} {u v : Value} {t : TypeId} {W : World} (h : BoxIs g u v t W) : W.cell? ⟨g, 0, none⟩ = some u ∧ W.cell? ⟨g, 1, none⟩ = some v := cell2 h
theorem BoxIs.set {g : Nat} {u v : Value} {t : TypeId} {W : World} (h : BoxIs g u v t W) {p : Addr} (hp : p.block ≠ g) (x : Value) : BoxIs g u v t (W.setCell p x) := (Below.heap_setCell W p x g (fun e => hp e.symm)).trans h
theorem Blk.set {g : Nat} {t : TypeId} {W : World} (h : Blk g t W) {p : Addr} (hp : p.block ≠ g) (x : Value) : Blk g t (W.setCell p x) := by
  obtain ⟨a, b, hh⟩ := h
  exact ⟨a, b, (Below.heap_setCell W p x g (fun e => hp e.symm)).trans hh⟩
theorem BoxIs.grow {g : Nat} {u v : Value} {t t0 : TypeId} {base : Nat} {W W' : World} (h : BoxIs g u v t W) (ht : t ≠ t0) (hg : Grow t0 base W W') : BoxIs g u v t W' := hg.2 g _ _ ht h
theorem Blk.grow {g : Nat} {t t0 : TypeId} {base : Nat} {W W' : World} (h : Blk g t W) (ht : t ≠ t0) (hg : Grow t0 base W W') : Blk g t W' := by
  obtain ⟨a, b, hh⟩ := h
  exact ⟨a, b, hg.2 g _ _ ht hh⟩
/-- the box w.size is read, the variable behind it is written -/
abbrev S1 (w : World) (u v : Value) (t' t : TypeId) (W : World) : Prop :=
  (W.cell? ⟨w.heap.size, 0, none⟩ = some u ∧ W.cell? ⟨w.heap.size, 1, none⟩ = some v) ∧ Sto (w.heap.size + 1) W ∧ BoxIs w.heap.size u v t' W ∧ Blk (w.heap.size + 1) t W ∧ Below w.heap.size w W
theorem S1.mk {w W : World} {u v : Value} {t' t : TypeId} (h1 : BoxIs w.heap.size u v t' W) (h2 : Blk (w.heap.size + 1) t W) (h3 : Below w.heap.size w W) : S1 w u v t' t W := ⟨h1.cells, h2.sto, h1, h2, h3⟩
theorem S1.up {w W W' : World} {u v : Value} {t' t : TypeId} (h : S1 w u v t' t W) (hb : Below W.heap.size W W') : S1 w u v t' t W' := S1.mk (h.2.2.1.up hb) (h.2.2.2.1.up hb) (h.2.2.2.2.trans (hb.mono h.2.2.2.2.size))
theorem S1.grow {w W W' : World} {u v : Value} {t' t t0 : TypeId} {base : Nat} (h : S1 w u v t' t W) (ht : t' ≠ t0) (ht2 : t ≠ t0) (hb : w.heap.size ≤ base) (hg : Grow t0 base W W') : S1 w u v t' t W' := S1.mk (h.2.2.1.grow ht hg) (h.2.2.2.1.grow ht2 hg) (h.2.2.2.2.trans (hg.1.mono hb))
theorem S1.store {w W : World} {u v : Value} {t' t : TypeId} (h : S1 w u v t' t W) (a b : Value) : S1 w u v t' t ((W.setCell ⟨w.heap.size + 1, 0, none⟩ a).setCell ⟨w.heap.size + 1, 1, none⟩ b) :=
  S1.mk ((h.2.2.1.set (by simp) _).set (by simp) _) (h.2.2.2.1.store a b) ((h.2.2.2.2.setCell (p := ⟨w.heap.size + 1, 0, none⟩) (Nat.le_succ _) a).setCell (p := ⟨w.heap.size + 1, 1, none⟩) (Nat.le_succ _) b)
theorem S1.start (w : World) (u v x y : Value) (t' t : TypeId) : S1 w u v t' t ((w.alloc (.cells #[u, v] t' (0, 0))).alloc (.cells #[x, y] t (0, 0))) :=
  S1.mk (heap_two _ _ _) ⟨x, y, heap_two' _ _ _⟩ (((Below.refl _ _).alloc (Nat.le_refl _) _).alloc (by simp) _)
theorem S1.lt {w W : World} {u v : Value} {t' t : TypeId} (h : S1 w u v t' t W) : w.heap.size < W.heap.size ∧ w.heap.size + 1 < W.heap.size := by
  have := heap_lt h.2.2.2.1.choose_spec.choose_spec
  omega
theorem S1.res {w W : World} {u v : Value} {t' t : TypeId} (h : S1 w u v t' t W) (a b : Value) : ((W.setCell ⟨w.heap.size + 1, 0, none⟩ a).setCell ⟨w.heap.size + 1, 1, none⟩ b).cell? ⟨w.heap.size + 1, 0, none⟩ = some a ∧ ((W.setCell ⟨w.heap.size + 1, 0, none⟩ a).setCell ⟨w.heap.size + 1, 1, none⟩ b).cell? ⟨w.heap.size + 1, 1, none⟩ = some b := cell2 (store2 h.2.2.2.1 a b)

theorem S1.res0 {w W : World} {u v : Value} {t' t : TypeId} (h : S1 w u v t' t W) (a : Value) : (W.setCell ⟨w.heap.size + 1, 0, none⟩ a).cell? ⟨w.heap.size + 1, 0, none⟩ = some a := by
  obtain ⟨x, y, hh⟩ := h.2.2.2.1
  exact (cell2 (heap_setCell_same W _ 0 _ _ a hh)).1

section
variable {α : Type} {E : El α}
theorem app_clip {w : World} (T t ty : TypeId) {z : Value} {bytes : Nat}
    (hT : Tryd.prog.underlying T = some (.slice t)) (hinfo : (Tryd.prog.info? t).map (fun i => (i.zero, i.size, i.bytes)) = some (some z, E.size, bytes)) (hzc : z.cells.size = E.size) (hpos : 0 < E.size) (hby : bytes ≤ 1000)
    (A : Option Addr) (n B : Nat) (xs : List α) (hn : n = xs.length) (hR : Reads E w B A xs) (ad : Addr) (c : Nat) (m : α)
    (hc : ∀ j u, (E.enc m)[j]? = some u → w.cell? (ad.add j) = some u) (hl : xs.length ≤ 100000) :
    ∃ v' w', (Builtin.append_ #[T, T] ty #[.slice A n n, .slice (some ad) 1 c]).run Tryd.prog w = .ok v' w' ∧ OwnE E t w' w.heap.size v' (xs ++ [m]) ∧ w.grownBy w' none := by
  obtain ⟨i0, hi, hz0, hz1, hz2⟩ := info_parts hinfo
  subst hn
  have hb : (xs.length + 1) * bytes ≤ 100001 * 1000 := Nat.mul_le_mul (by omega) hby
  cases A with
  | none =>
    have e : xs = [] := by
      rcases hR with h | ⟨b, off, h, _⟩
      · exact h
      · cases h
    subst e
    have h0 := World.ownsRow_nil w w.heap.size t E.size
    obtain ⟨v', w', hr, h2, h3, _⟩ := run_append_own (P := Tryd.prog) w w.heap.size T ty t i0 z E.size bytes hT hi hz0 hz1 hz2 hzc hpos _ 0 [] h0 ad 1 c (E.enc m) (by rw [E.len]; omega) hc (E.one m) (by unfold maxLen; omega) (by simp only [List.length_nil] at hb; omega) (Nat.le_refl _)
    exact ⟨v', w', hr, by simpa [OwnE, cellsE] using h2, h3⟩
  | some b =>
    obtain ⟨v', w', hr, h2, h3⟩ := run_append_arg_grows (P := Tryd.prog) w T ty t i0 z E.size bytes hT hi hz0 hz1 hz2 hzc hpos b xs.length xs.length (cellsE E xs) (cellsE_length E xs) (by
      intro j u hu
      rcases hR with h | ⟨g, off, h, _, h3⟩
      · subst h; simp [cellsE] at hu
      · cases h
        rw [addr_plain]
        exact reads_cells hpos h3 j u hu) ad 1 c (E.enc m) (by rw [E.len]; omega) hc (by omega) (by unfold maxLen; omega) (by omega)
    refine ⟨v', w', hr, ?_, h3⟩
    unfold OwnE
    rw [cellsE_snoc, List.length_append]
    exact h2
theorem wpList_append_clip {w : World} {ops : Array Oper} {rest : List Oper} {o : Oper} {a : Act} {Q : Exit → Act → World → Prop} (hgd : o.guard = none) (s x : Operand) (T t : TypeId)
    (ho : o.op = .call { callee := .builtin .append, args := #[s, x], argTypes := #[T, T] }) {z : Value} {bytes : Nat}
    (hT : Tryd.prog.underlying T = some (.slice t)) (hinfo : (Tryd.prog.info? t).map (fun i => (i.zero, i.size, i.bytes)) = some (some z, E.size, bytes)) (hzc : z.cells.size = E.size) (hpos : 0 < E.size) (hby : bytes ≤ 1000)
    (A : Option Addr) (n B : Nat) (xs : List α) (hs : a.eval s = .slice A n n) (hn : n = xs.length) (hR : Reads E w B A xs) (ad : Addr) (c : Nat) (m : α) (hx : a.eval x = .slice (some ad) 1 c)
    (hc : ∀ j u, (E.enc m)[j]? = some u → w.cell? (ad.add j) = some u) (hl : xs.length ≤ 100000)
    (hK : ∀ v' w', OwnE E t w' w.heap.size v' (xs ++ [m]) → w.grownBy w' none → wpList Tryd.prog ops Q rest (a.put o.dst v') w') : wpList Tryd.prog ops Q (o :: rest) a w := by
  refine wpList_plain hgd fun _ hK2 => ?_
  obtain ⟨v', w', hr, h2, h3⟩ := app_clip (w := w) T t o.type hT hinfo hzc hpos hby A n B xs hn hR ad c m hc hl
  unfold Oper.wp execOp
  simp only [ho, resolve, invoke, builtin, Sem.run_bind, Sem.run_pure, Result.andThen_ok, List.map_toArray, List.map_cons, List.map_nil, hs, hx, hr]
  exact hK2 _ _ (hK v' w' h2 h3)
theorem step_append_clip {w : World} {ops : Array Oper} {o : Oper} {a : Act} {K : Act → World → Prop} {Q : Exit → Act → World → Prop} {X : Prop} (hgd : o.guard = none) (s x : Operand) (T t : TypeId)
    (ho : o.op = .call { callee := .builtin .append, args := #[s, x], argTypes := #[T, T] }) {z : Value} {bytes : Nat}
    (hT : Tryd.prog.underlying T = some (.slice t)) (hinfo : (Tryd.prog.info? t).map (fun i => (i.zero, i.size, i.bytes)) = some (some z, E.size, bytes)) (hzc : z.cells.size = E.size) (hpos : 0 < E.size) (hby : bytes ≤ 1000)
    (A : Option Addr) (n B : Nat) (xs : List α) (hs : a.eval s = .slice A n n) (hn : n = xs.length) (hR : Reads E w B A xs) (ad : Addr) (c : Nat) (m : α) (hx : a.eval x = .slice (some ad) 1 c)
    (hc : ∀ j u, (E.enc m)[j]? = some u → w.cell? (ad.add j) = some u) (hl : xs.length ≤ 100000)
    (hK : ∀ v' w', OwnE E t w' w.heap.size v' (xs ++ [m]) → w.grownBy w' none → K (a.put o.dst v') w') : if Region.wanted o (yielded ops a.tmps) = true then Oper.wp Tryd.prog o a w K Q else X := by
  have hw : Region.wanted o (yielded ops a.tmps) = true := by simp [Region.wanted, hgd]
  rw [if_pos hw]
  obtain ⟨v', w', hr, h2, h3⟩ := app_clip (w := w) T t o.type hT hinfo hzc hpos hby A n B xs hn hR ad c m hc hl
  unfold Oper.wp execOp
  simp only [ho, resolve, invoke, builtin, Sem.run_bind, Sem.run_pure, Result.andThen_ok, List.map_toArray, List.map_cons, List.map_nil, hs, hx, hr]
  exact hK v' w' h2 h3
end
/-- a new block of one int, or of one edge -/
theorem new_int {w : World} {g : Nat} {m : Int} {t : TypeId} (h : w.heap[g]? = some (.cells #[.int .i64 m] t (0, 0))) : ∀ j u, (EInt.enc m)[j]? = some u → w.cell? ((⟨g, 0, none⟩ : Addr).add j) = some u := news_of (E := EInt) h rfl
theorem new_ed {w : World} {g : Nat} {m : Ed} {t : TypeId} (h : w.heap[g]? = some (.cells #[.int .i64 m.ty, .int .i64 m.fr, .int .i64 m.tq] t (0, 0))) : ∀ j u, (EEd.enc m)[j]? = some u → w.cell? ((⟨g, 0, none⟩ : Addr).add j) = some u := news_of (E := EEd) h rfl

theorem reads_one {α : Type} {E : El α} {w : World} {g B : Nat} {m : α} (h : ∀ j u, (E.enc m)[j]? = some u → w.cell? ((⟨g, 0, none⟩ : Addr).add j) = some u) (hb : g < B) : Reads E w B (some ⟨g, 0, none⟩) [m] := by
  refine .inr ⟨g, 0, rfl, hb, fun i x hx j u hu => ?_⟩
  cases i with
  | zero =>
    simp only [List.getElem?_cons_zero, Option.some.injEq] at hx
    subst hx
    have := h j u hu
    rw [addr_plain] at this
    rw [Nat.zero_mul, Nat.add_zero]
    exact this
  | succ i => simp at hx
theorem BoxIs.free {g : Nat} {u v : Value} {t : TypeId} {W : World} (h : BoxIs g u v t W) (j : Nat) : W.frozen? ⟨g, j, none⟩ = false := frozen_of_row _ _ _ _ _ h
theorem BoxIs.set0 {g : Nat} {u v : Value} {t : TypeId} {W : World} (h : BoxIs g u v t W) (x : Value) : BoxIs g x v t (W.setCell ⟨g, 0, none⟩ x) := heap_setCell_same W g 0 _ _ x h
theorem BoxIs.set1 {g : Nat} {u v : Value} {t : TypeId} {W : World} (h : BoxIs g u v t W) (x : Value) : BoxIs g u x t (W.setCell ⟨g, 1, none⟩ x) := heap_setCell_same W g 1 _ _ x h
theorem S1.set {w W : World} {u v : Value} {t' t : TypeId} (h : S1 w u v t' t W) {p : Addr} (hp : w.heap.size + 2 ≤ p.block) (x : Value) : S1 w u v t' t (W.setCell p x) :=
  S1.mk (h.2.2.1.set (by omega) x) (h.2.2.2.1.set (by omega) x) (h.2.2.2.2.setCell (by omega) x)
theorem OwnZ.set {α : Type} {E : El α} {t t' : TypeId} {w : World} {base g : Nat} {v a b x : Value} {xs : List α} (h : OwnZ E t w base v xs) (hb : BoxIs g a b t' w) (ht : t ≠ t') (j : Nat) : OwnZ E t (w.setCell ⟨g, j, none⟩ x) base v xs := by
  refine h.imp (fun h => ?_) id
  refine ⟨h.1, ?_⟩
  rcases h.2 with hn | ⟨g2, cap, cur, hv, hbg, hh, rest⟩
  · exact .inl hn
  · refine .inr ⟨g2, cap, cur, hv, hbg, (Below.heap_setCell w ⟨g, j, none⟩ x g2 (fun e => ?_)).trans hh, rest⟩
    have e : g2 = g := e
    subst e
    unfold BoxIs at hb
    rw [hb] at hh
    simp only [Option.some.injEq, Obj.cells.injEq] at hh
    exact ht hh.2.1.symm
theorem isI_resZ {w W : World} {v : Value} {xs : List Int} (h : OwnZ EInt 3 W (w.heap.size + 2) v xs) (a b : Value) : IsI ((W.setCell ⟨w.heap.size + 1, 0, none⟩ a).setCell ⟨w.heap.size + 1, 1, none⟩ b) v xs :=
  ((h.stored (a := ⟨w.heap.size + 1, 0, none⟩) (Nat.lt_succ_self _) a).stored (a := ⟨w.heap.size + 1, 1, none⟩) (Nat.lt_succ_self _) b).reads_cap
theorem isE_resZ {w W : World} {v : Value} {xs : List Ed} (h : OwnZ EEd 65 W (w.heap.size + 2) v xs) (a b : Value) : IsE ((W.setCell ⟨w.heap.size + 1, 0, none⟩ a).setCell ⟨w.heap.size + 1, 1, none⟩ b) v xs :=
  ((h.stored (a := ⟨w.heap.size + 1, 0, none⟩) (Nat.lt_succ_self _) a).stored (a := ⟨w.heap.size + 1, 1, none⟩) (Nat.lt_succ_self _) b).reads_cap
theorem isI_res {w W : World} {v : Value} {xs : List Int} (h : OwnI W (w.heap.size + 2) v xs) (a b : Value) : IsI ((W.setCell ⟨w.heap.size + 1, 0, none⟩ a).setCell ⟨w.heap.size + 1, 1, none⟩ b) v xs :=
  isI_own (base := w.heap.size + 2) (ownsRow_setCell_below (ownsRow_setCell_below h (a := ⟨w.heap.size + 1, 0, none⟩) (Nat.lt_succ_self _) a) (a := ⟨w.heap.size + 1, 1, none⟩) (Nat.lt_succ_self _) b)
theorem isE_res {w W : World} {v : Value} {xs : List Ed} (h : OwnEd W (w.heap.size + 2) v xs) (a b : Value) : IsE ((W.setCell ⟨w.heap.size + 1, 0, none⟩ a).setCell ⟨w.heap.size + 1, 1, none⟩ b) v xs :=
  isE_own (base := w.heap.size + 2) (ownsRow_setCell_below (ownsRow_setCell_below h (a := ⟨w.heap.size + 1, 0, none⟩) (Nat.lt_succ_self _) a) (a := ⟨w.heap.size + 1, 1, none⟩) (Nat.lt_succ_self _) b)

end Go.Proofs.YtaeelanbkdkppaaDoor

/-
  Graphs: a function's box and its two result variables.
-/
namespace Go.Proofs.YtaeelanbkdkppaaDoor
open Go.RowKit

/-- the box w.size is read, the two variables behind it are written -/
abbrev S2 (w : World) (u v : Value) (t' t t2 : TypeId) (W : World) : Prop :=
  (W.cell? ⟨w.heap.size, 0, none⟩ = some u ∧ W.cell? ⟨w.heap.size, 1, none⟩ = some v) ∧ (Sto (w.heap.size + 1) W ∧ Sto (w.heap.size + 2) W) ∧ BoxIs w.heap.size u v t' W ∧ Blk (w.heap.size + 1) t W ∧ Blk (w.heap.size + 2) t2 W ∧ Below w.heap.size w W
section
variable {w W W' : World} {u v : Value} {t' t t2 : TypeId}
theorem S2.mk (h1 : BoxIs w.heap.size u v t' W) (h2 : Blk (w.heap.size + 1) t W) (h3 : Blk (w.heap.size + 2) t2 W) (h4 : Below w.heap.size w W) : S2 w u v t' t t2 W := ⟨h1.cells, ⟨h2.sto, h3.sto⟩, h1, h2, h3, h4⟩
theorem S2.be (h : S2 w u v t' t t2 W) : Below w.heap.size w W := h.2.2.2.2.2
theorem S2.up (h : S2 w u v t' t t2 W) (hb : Below W.heap.size W W') : S2 w u v t' t t2 W' := S2.mk (h.2.2.1.up hb) (h.2.2.2.1.up hb) (h.2.2.2.2.1.up hb) (h.be.trans (hb.mono h.be.size))
theorem S2.grow {t0 : TypeId} {base : Nat} (h : S2 w u v t' t t2 W) (ht : t' ≠ t0) (ht2 : t ≠ t0) (ht3 : t2 ≠ t0) (hb : w.heap.size ≤ base) (hg : Grow t0 base W W') : S2 w u v t' t t2 W' := S2.mk (h.2.2.1.grow ht hg) (h.2.2.2.1.grow ht2 hg) (h.2.2.2.2.1.grow ht3 hg) (h.be.trans (hg.1.mono hb))
theorem S2.set (h : S2 w u v t' t t2 W) {p : Addr} (hp : w.heap.size + 3 ≤ p.block) (x : Value) : S2 w u v t' t t2 (W.setCell p x) :=
  S2.mk (h.2.2.1.set (by omega) x) (h.2.2.2.1.set (by omega) x) (h.2.2.2.2.1.set (by omega) x) (h.be.setCell (by omega) x)
theorem S2.start (w : World) (u v a b c d : Value) (t' t t2 : TypeId) : S2 w u v t' t t2 (((w.alloc (.cells #[u, v] t' (0, 0))).alloc (.cells #[a, b] t (0, 0))).alloc (.cells #[c, d] t2 (0, 0))) := by
  have h0 := heap_two w (.cells #[u, v] t' (0, 0)) (.cells #[a, b] t (0, 0))
  have h1 := heap_two' w (.cells #[u, v] t' (0, 0)) (.cells #[a, b] t (0, 0))
  have h2 := heap_alloc_new ((w.alloc (.cells #[u, v] t' (0, 0))).alloc (.cells #[a, b] t (0, 0))) (.cells #[c, d] t2 (0, 0))
  exact S2.mk (heap_up (below_a _ _) h0) ⟨a, b, heap_up (below_a _ _) h1⟩ ⟨c, d, by simpa using h2⟩ ((((Below.refl _ _).alloc (Nat.le_refl _) _).alloc (by simp) _).alloc (by simp; omega) _)
theorem S2.lt (h : S2 w u v t' t t2 W) : w.heap.size < W.heap.size ∧ w.heap.size + 1 < W.heap.size ∧ w.heap.size + 2 < W.heap.size := by
  have := heap_lt h.2.2.2.2.1.choose_spec.choose_spec
  omega
/-- both results are written, in this order or the other -/
abbrev set4 (W : World) (g h : Nat) (a b c d : Value) : World := (((W.setCell ⟨g, 0, none⟩ a).setCell ⟨g, 1, none⟩ b).setCell ⟨h, 0, none⟩ c).setCell ⟨h, 1, none⟩ d
theorem S2.store (h : S2 w u v t' t t2 W) (a b c d : Value) : Below w.heap.size w (set4 W (w.heap.size + 1) (w.heap.size + 2) a b c d) ∧ (set4 W (w.heap.size + 1) (w.heap.size + 2) a b c d).heap[w.heap.size + 1]? = some (.cells #[a, b] t (0, 0)) ∧ (set4 W (w.heap.size + 1) (w.heap.size + 2) a b c d).heap[w.heap.size + 2]? = some (.cells #[c, d] t2 (0, 0)) := by
  have h1 := store2 h.2.2.2.1 a b
  have k : Blk (w.heap.size + 2) t2 ((W.setCell ⟨w.heap.size + 1, 0, none⟩ a).setCell ⟨w.heap.size + 1, 1, none⟩ b) := (h.2.2.2.2.1.set (by simp) _).set (by simp) _
  exact ⟨(((h.be.setCell (by simp) _).setCell (by simp) _).setCell (by simp) _).setCell (by simp) _, (Below.heap_setCell _ _ _ _ (by simp)).trans ((Below.heap_setCell _ _ _ _ (by simp)).trans h1), store2 k c d⟩
theorem S2.store' (h : S2 w u v t' t t2 W) (a b c d : Value) : Below w.heap.size w (set4 W (w.heap.size + 2) (w.heap.size + 1) c d a b) ∧ (set4 W (w.heap.size + 2) (w.heap.size + 1) c d a b).heap[w.heap.size + 1]? = some (.cells #[a, b] t (0, 0)) ∧ (set4 W (w.heap.size + 2) (w.heap.size + 1) c d a b).heap[w.heap.size + 2]? = some (.cells #[c, d] t2 (0, 0)) := by
  have h1 := store2 h.2.2.2.2.1 c d
  have k : Blk (w.heap.size + 1) t ((W.setCell ⟨w.heap.size + 2, 0, none⟩ c).setCell ⟨w.heap.size + 2, 1, none⟩ d) := (h.2.2.2.1.set (by simp) _).set (by simp) _
  exact ⟨(((h.be.setCell (by simp) _).setCell (by simp) _).setCell (by simp) _).setCell (by simp) _, store2 k a b, (Below.heap_setCell _ _ _ _ (by simp)).trans ((Below.heap_setCell _ _ _ _ (by simp)).trans h1)⟩
end
theorem OwnE.setBox {α : Type} {E : El α} {t t' : TypeId} {w : World} {base g : Nat} {v a b x : Value} {xs : List α} (h : OwnE E t w base v xs) (hb : BoxIs g a b t' w) (ht : t ≠ t') (j : Nat) : OwnE E t (w.setCell ⟨g, j, none⟩ x) base v xs := by
  refine ⟨h.1, ?_⟩
  rcases h.2 with hn | ⟨g2, cap, cur, hv, hbg, hh, rest⟩
  · exact .inl hn
  · refine .inr ⟨g2, cap, cur, hv, hbg, (Below.heap_setCell w ⟨g, j, none⟩ x g2 (fun e => ?_)).trans hh, rest⟩
    have e : g2 = g := e
    subst e
    unfold BoxIs at hb
    rw [hb] at hh
    simp only [Option.some.injEq, Obj.cells.injEq] at hh
    exact ht hh.2.1.symm
/-- a row is kept by stores into blocks below its base -/
theorem OwnE.set4 {α : Type} {E : El α} {t : TypeId} {W : World} {base g h : Nat} {v : Value} {xs : List α} (ho : OwnE E t W base v xs) (hg : g < base) (hh : h < base) (a b c d : Value) : OwnE E t (Go.Proofs.YtaeelanbkdkppaaDoor.set4 W g h a b c d) base v xs :=
  ownsRow_setCell_below (ownsRow_setCell_below (ownsRow_setCell_below (ownsRow_setCell_below ho (a := ⟨g, 0, none⟩) hg a) (a := ⟨g, 1, none⟩) hg b) (a := ⟨h, 0, none⟩) hh c) (a := ⟨h, 1, none⟩) hh d
theorem OwnE.store2 {α : Type} {E : El α} {t t' : TypeId} {W : World} {base g : Nat} {v : Value} {xs : List α} (h : OwnE E t W base v xs) (hb : Blk g t' W) (ht : t ≠ t') (a b : Value) : OwnE E t ((W.setCell ⟨g, 0, none⟩ a).setCell ⟨g, 1, none⟩ b) base v xs := by
  obtain ⟨x, y, hh⟩ := hb
  have hh : BoxIs g x y t' W := hh
  exact (h.setBox hh ht 0).setBox (hh.set0 a) ht 1
theorem step_append_G {α : Type} {E : El α} {w : World} {ops : Array Oper} {o : Oper} {a : Act} {K : Act → World → Prop} {Q : Exit → Act → World → Prop} {X : Prop} (hgd : o.guard = none) (s x : Operand) (T t : TypeId)
    (ho : o.op = .call { callee := .builtin .append, args := #[s, x], argTypes := #[T, T] }) {z : Value} {bytes : Nat}
    (hT : Tryd.prog.underlying T = some (.slice t)) (hinfo : (Tryd.prog.info? t).map (fun i => (i.zero, i.size, i.bytes)) = some (some z, E.size, bytes)) (hzc : z.cells.size = E.size) (hpos : 0 < E.size) (hby : bytes ≤ 1000)
    (base : Nat) (v : Value) (xs : List α) (hs : a.eval s = v) (hown : OwnE E t w base v xs) (ad : Addr) (c : Nat) (m : α) (hx : a.eval x = .slice (some ad) 1 c)
    (hc : ∀ j u, (E.enc m)[j]? = some u → w.cell? (ad.add j) = some u) (hl : xs.length ≤ 1000000) (hbase : base ≤ w.heap.size)
    (hK : ∀ v' w', OwnE E t w' base v' (xs ++ [m]) → Grow t base w w' → K (a.put o.dst v') w') : if Region.wanted o (yielded ops a.tmps) = true then Oper.wp Tryd.prog o a w K Q else X :=
  step_append_E hgd s x T t ho hT hinfo hzc hpos hby base v xs hs hown ad c m hx hc hl hbase fun v' w' h1 h2 h3 => hK v' w' h1 (Grow.own hown h2 h3)
theorem bcell {W w1 : World} (hb : Below W.heap.size W w1) : (∀ b o, b < W.heap.size → w1.cell? ⟨b, o, none⟩ = W.cell? ⟨b, o, none⟩) ∧ (∀ b o, b < W.heap.size → w1.frozen? ⟨b, o, none⟩ = W.frozen? ⟨b, o, none⟩) :=
  ⟨fun b o h => hb.cell (p := ⟨b, o, none⟩) h, fun b o h => hb.frozen (p := ⟨b, o, none⟩) h⟩

end Go.Proofs.YtaeelanbkdkppaaDoor

/-
  Arguments: a slice of plain elements, opened.
-/
namespace Go.Proofs.YtaeelanbkdkppaaDoor
open Go.RowKit

theorem laidOut : laidOutB Tryd.prog = true := by kernel_rfl
theorem ownNone : ownKnob Tryd.prog.godebug = none := by kernel_rfl
section
open Go.ChangeShapes Go.WideShapes Go.Deep

theorem open_E {α : Type} (E : El α) (G : α → Prop) (t T : TypeId) (hT : Tryd.prog.underlying T = some (.slice t)) (hc : Tryd.prog.cellsOf t = E.size) (hp : 0 < E.size) [Inhabited α]
    {H : Type} {enc : TypeId × Value → H} {W : World} (hdec : ∀ (fuel : Nat) (cs : List Value) (x : DataW H × List MemPlace), DataW.trod enc Tryd.prog W 0 (fun _ => true) true fuel t cs = some x → ∃ y, cs = E.enc y ∧ G y)
    {fuel : Nat} {cs : List Value} {x : DataW H × List MemPlace} (h : DataW.trod enc Tryd.prog W 0 (fun _ => true) true fuel T cs = some x) :
    ∃ (A : Option Addr) (xs : List α) (c : Nat), cs = [.slice A xs.length c] ∧ Reads E W W.heap.size A xs ∧ (∀ y ∈ xs, G y) ∧ xs.length ≤ c ∧ c ≤ maxLen := by
  rcases open_slice hT h with ⟨rfl, rfl⟩ | ⟨a, len, cap, m, n, D, Pl, rfl, _, hlc, hcm, hm, rfl, hi⟩
  · exact ⟨none, [], 0, rfl, .inl rfl, fun y hy => by simp at hy, by simp, by simp⟩
  · simp only [if_true] at hm
    subst hm
    have hget : ∀ i, ∃ y : α, i < len → G y ∧ ∀ j u, (E.enc y)[j]? = some u → W.cell? (a.add (i * E.size + j)) = some u := by
      intro i
      by_cases hil : i < len
      · obtain ⟨cs', hcs, ht⟩ := hi i (by omega)
        rw [hc] at hcs
        obtain ⟨_, hl2, hat⟩ := World.cells?_some hcs
        obtain ⟨y, rfl, hg⟩ := hdec _ _ _ ht
        refine ⟨y, fun _ => ⟨hg, fun j u hu => ?_⟩⟩
        have hj : j < E.size := by
          rw [← E.len y]
          rcases Nat.lt_or_ge j (E.enc y).length with h1 | h1
          · exact h1
          · rw [List.getElem?_eq_none h1] at hu; cases hu
        have := hat j hj
        rw [Addr.add_add] at this
        rw [this, hu]
      · exact ⟨default, fun h => absurd h hil⟩
    obtain ⟨f, hf⟩ := Classical.axiomOfChoice hget
    have hlf : ((List.range len).map f).length = len := by simp
    refine ⟨some a, (List.range len).map f, m, by rw [hlf], ?_, ?_, by omega, hcm⟩
    · by_cases h0 : len = 0
      · subst h0; exact .inl rfl
      · obtain ⟨b, off, spot⟩ := a
        obtain ⟨u, hu⟩ : ∃ u, (E.enc (f 0))[0]? = some u := ⟨_, List.getElem?_eq_getElem (by rw [E.len]; exact hp)⟩
        have hc0 := (hf 0 (by omega)).2 0 u hu
        have hspot : spot = none := by simpa [Addr.add] using World.cell?_spot hc0
        subst hspot
        have hb : b < W.heap.size := by
          have := World.block_lt_of_cell? W _ hc0
          simpa [Addr.add] using this
        refine .inr ⟨b, off, rfl, hb, fun i y hy j u hu => ?_⟩
        rw [List.getElem?_map, Option.map_eq_some_iff] at hy
        obtain ⟨i', hi', rfl⟩ := hy
        rw [List.getElem?_eq_some_iff] at hi'
        obtain ⟨h1, h2⟩ := hi'
        rw [List.getElem_range] at h2
        rw [List.length_range] at h1
        subst h2
        have := (hf i h1).2 j u hu
        rw [addr_plain] at this
        rw [show off + i * E.size + j = off + (i * E.size + j) by omega]
        exact this
    · intro y hy
      rw [List.mem_map] at hy
      obtain ⟨i, hi1, rfl⟩ := hy
      exact (hf i (by simpa using hi1)).1

end

end Go.Proofs.YtaeelanbkdkppaaDoor

/-
  Graphs: a graph, an edge, a list of numbers as an argument, opened.
-/
namespace Go.Proofs.YtaeelanbkdkppaaDoor
open Go.RowKit

section
open Go.ChangeShapes Go.WideShapes Go.Deep
variable {H : Type} {enc : TypeId × Value → H} {W : World} {fuel : Nat} {cs : List Value} {x : DataW H × List MemPlace}

theorem cellsInt : Tryd.prog.cellsOf 3 = 1 := by kernel_rfl
theorem cellsInts : Tryd.prog.cellsOf 22 = 1 := by kernel_rfl
theorem cellsEds : Tryd.prog.cellsOf 23 = 1 := by kernel_rfl
theorem cellsEd : Tryd.prog.cellsOf 65 = 3 := by kernel_rfl
theorem cellsGr : Tryd.prog.cellsOf 25 = 2 := by kernel_rfl
theorem int_of (h : DataW.trod enc Tryd.prog W 0 (fun _ => true) true fuel 3 cs = some x) : ∃ n, cs = [.int .i64 n] ∧ I64 n := by
  obtain ⟨n, e, _, hw⟩ := DataW.trod_int Tryd.underlying3 h
  exact ⟨n, e, bounds_i64 hw⟩
theorem agg_of {cs : Array Value} {l : List Value} (h : (Value.agg cs).cells.toList = l) : cs = l.toArray := by
  have h2 : (Value.agg cs).cells = cs := rfl
  rw [h2] at h
  rw [← h]
theorem two_of {cs : List Value} (hl : cs.length = 2) {u v : Value} (h0 : (cs.drop 0).take 1 = [u]) (h1 : (cs.drop 1).take 1 = [v]) : cs = [u, v] := by
  match cs, hl with
  | [a, b], _ => simp at h0 h1; rw [h0, h1]
theorem edge_of (h : DataW.trod enc Tryd.prog W 0 (fun _ => true) true fuel 65 cs = some x) : ∃ y : Ed, cs = EEd.enc y ∧ True := by
  obtain ⟨y0, y1, y2, n, _, hl, h0, h1, h2⟩ := trod_struct3 Tryd.underlying65 h
  dsimp only at h0 h1 h2
  rw [cellsInt] at h0 h1 h2
  rw [cellsEd] at hl
  obtain ⟨d, e0, _⟩ := int_of h0
  obtain ⟨a, e1, _⟩ := int_of h1
  obtain ⟨b, e2, _⟩ := int_of h2
  refine ⟨⟨d, a, b⟩, ?_, trivial⟩
  match cs, hl with
  | [c0, c1, c2], _ => simp at e0 e1 e2; rw [e0, e1, e2]; rfl
theorem open_I (h : DataW.trod enc Tryd.prog W 0 (fun _ => true) true fuel 22 cs = some x) :
    ∃ (A : Option Addr) (xs : List Int) (c : Nat), cs = [.slice A xs.length c] ∧ Ints W W.heap.size A xs ∧ xs.length ≤ c ∧ c ≤ maxLen := by
  obtain ⟨A, xs, c, e, hR, _, h1, h2⟩ := open_E EInt (fun _ => True) 3 22 Tryd.underlying22 cellsInt (by decide) (fun fuel cs x h => by obtain ⟨n, e, _⟩ := int_of h; exact ⟨n, e, trivial⟩) h
  exact ⟨A, xs, c, e, hR, h1, h2⟩
/-- a graph among the arguments -/
theorem open_G (h : DataW.trod enc Tryd.prog W 0 (fun _ => true) true fuel 25 cs = some x) :
    ∃ (g : Gr) (An : Option Addr) (cn : Nat) (Ae : Option Addr) (ce : Nat), cs = [.slice An g.ns.length cn, .slice Ae g.es.length ce] ∧ GrAt W An cn Ae ce g := by
  obtain ⟨y0, y1, n, hx, hl, h0, h1⟩ := trod_struct2 Tryd.underlying25 h
  dsimp only at h0 h1
  rw [cellsInts] at h0
  rw [cellsEds] at h1
  rw [cellsGr] at hl
  obtain ⟨An, ns, cn, e0, hN, hn1, hn2⟩ := open_I h0
  obtain ⟨Ae, es, ce, e1, hE, _, he1, he2⟩ := open_E EEd (fun _ => True) 65 23 Tryd.underlying23 cellsEd (by decide) (fun fuel cs x h => edge_of h) h1
  exact ⟨⟨ns, es⟩, An, cn, Ae, ce, two_of hl e0 e1, ⟨hN, hE, ⟨hn1, hn2⟩, ⟨he1, he2⟩⟩⟩
end

end Go.Proofs.YtaeelanbkdkppaaDoor

/-
  Drafts: what numbers describe a graph, as plain data and in memory.
-/
namespace Go.Proofs.YtaeelanbkdkppaaDoor
open Go.RowKit

abbrev B3 := Nat × Nat × Nat
structure Dr where
  ns : List Nat
  es : List B3
/-- every number is a byte -/
def Dr.ok (d : Dr) : Prop := (∀ i, d.ns.getD i 0 < 256) ∧ ∀ i, (d.es.getD i (0, 0, 0)).1 < 256 ∧ (d.es.getD i (0, 0, 0)).2.1 < 256 ∧ (d.es.getD i (0, 0, 0)).2.2 < 256
def drN (d : Dr) : Nat := min d.ns.length 8
def drM (d : Dr) : Nat := if drN d = 0 then 0 else min d.es.length 10
def ndM (d : Dr) (i : Nat) : Int := ((d.ns.getD i 0 % 3 : Nat) : Int)
def edM (d : Dr) (j : Nat) : Ed := ⟨((d.es.getD j (0, 0, 0)).1 % 2 : Nat), ((d.es.getD j (0, 0, 0)).2.1 % drN d : Nat), ((d.es.getD j (0, 0, 0)).2.2 % drN d : Nat)⟩
def nsT (d : Dr) (k : Nat) : List Int := coll (fun i => [ndM d i]) k
def esT (d : Dr) (k : Nat) : List Ed := coll (fun j => [edM d j]) k
def madeG (d : Dr) : Gr := ⟨nsT d (drN d), esT d (drM d)⟩
theorem nsT_len (d : Dr) (k : Nat) : (nsT d k).length = k := coll_len _ _
theorem esT_len (d : Dr) (k : Nat) : (esT d k).length = k := coll_len _ _
theorem made_lens (d : Dr) : (madeG d).ns.length = drN d ∧ (madeG d).es.length = drM d := ⟨nsT_len _ _, esT_len _ _⟩
theorem drN_le (d : Dr) : drN d ≤ 8 ∧ drN d ≤ d.ns.length := by unfold drN; omega
theorem drM_le (d : Dr) : drM d ≤ 10 ∧ drM d ≤ d.es.length := by unfold drM; split <;> omega
theorem made_valid (d : Dr) : validE (madeG d) = 0 := by
  obtain ⟨l1, l2⟩ := made_lens d
  have h1 := drN_le d
  have h2 := drM_le d
  apply valid_ok (by omega) (by omega)
  · intro i hi
    rw [l1] at hi
    have e : (madeG d).ns.getD i 0 = ndM d i := coll_getD _ hi _
    rw [e]
    apply idxB_iff.2
    unfold ndM
    have := Nat.mod_lt (d.ns.getD i 0) (show 0 < 3 by omega)
    omega
  · intro i hi
    rw [l2] at hi
    have e : (madeG d).es.getD i default = edM d i := coll_getD _ hi _
    rw [e, l1]
    have hp : 0 < drN d := by
      unfold drM at hi
      split at hi <;> omega
    apply edB_iff.2
    unfold edM
    have a1 := Nat.mod_lt (d.es.getD i (0, 0, 0)).1 (show 0 < 2 by omega)
    have a2 := Nat.mod_lt (d.es.getD i (0, 0, 0)).2.1 hp
    have a3 := Nat.mod_lt (d.es.getD i (0, 0, 0)).2.2 hp
    dsimp only
    omega
theorem made_uni (x y : Dr) : uniE (madeG x) (madeG y) = 0 := by
  obtain ⟨l1, l2⟩ := made_lens x
  obtain ⟨l3, l4⟩ := made_lens y
  have h1 := drN_le x
  have h2 := drM_le x
  have h3 := drN_le y
  have h4 := drM_le y
  unfold uniE
  rw [made_valid, made_valid, if_neg (by simp), if_neg (by simp), if_neg (by omega)]

/-! in memory -/
def EBy : El Nat := ⟨fun x => [.int .u8 (x : Int)], 1, fun _ => rfl, fun x u hu => by simp at hu; subst hu; rfl⟩
def EB3 : El B3 := ⟨fun x => [.int .u8 (x.1 : Int), .int .u8 (x.2.1 : Int), .int .u8 (x.2.2 : Int)], 3, fun _ => rfl, fun x u hu => by simp at hu; rcases hu with rfl | rfl | rfl <;> rfl⟩
structure DrAt (w : World) (An : Option Addr) (cn : Nat) (Ae : Option Addr) (ce : Nat) (d : Dr) : Prop where
  ns : Reads EBy w w.heap.size An d.ns
  es : Reads EB3 w w.heap.size Ae d.es
  cn : d.ns.length ≤ cn ∧ cn ≤ maxLen
  ce : d.es.length ≤ ce ∧ ce ≤ maxLen
  ok : d.ok
theorem DrAt.up {w w' : World} {An : Option Addr} {cn : Nat} {Ae : Option Addr} {ce : Nat} {d : Dr} (h : DrAt w An cn Ae ce d) (hb : Below w.heap.size w w') : DrAt w' An cn Ae ce d := ⟨Reads.up h.ns hb, Reads.up h.es hb, h.cn, h.ce, h.ok⟩
theorem byte_at {w : World} {B : Nat} {A : Option Addr} {xs : List Nat} (h : Reads EBy w B A xs) {k : Nat} (hk : k < xs.length) : ∃ b off, A = some ⟨b, off, none⟩ ∧ b < B ∧ w.cell? ⟨b, off + k, none⟩ = some (.int .u8 ((xs.getD k 0 : Nat) : Int)) := by
  obtain ⟨b, off, h1, h2, h3⟩ := Reads.at h hk
  refine ⟨b, off, h1, h2, ?_⟩
  have e : xs.getD k 0 = xs[k] := by rw [List.getD_eq_getElem?_getD, List.getElem?_eq_getElem hk]; rfl
  rw [e]
  have := h3 k hk 0 _ rfl
  simpa [EBy] using this
theorem b3_at {w : World} {B : Nat} {A : Option Addr} {xs : List B3} (h : Reads EB3 w B A xs) {k : Nat} (hk : k < xs.length) : ∃ b off, A = some ⟨b, off, none⟩ ∧ b < B ∧ w.cell? ⟨b, off + k * 3, none⟩ = some (.int .u8 (((xs.getD k (0, 0, 0)).1 : Nat) : Int)) ∧ w.cell? ⟨b, off + k * 3 + 1, none⟩ = some (.int .u8 (((xs.getD k (0, 0, 0)).2.1 : Nat) : Int)) ∧ w.cell? ⟨b, off + k * 3 + 2, none⟩ = some (.int .u8 (((xs.getD k (0, 0, 0)).2.2 : Nat) : Int)) := by
  obtain ⟨b, off, h1, h2, h3⟩ := Reads.at h hk
  have e : xs.getD k (0, 0, 0) = xs[k] := by rw [List.getD_eq_getElem?_getD, List.getElem?_eq_getElem hk]; rfl
  rw [e]
  exact ⟨b, off, h1, h2, h3 k hk 0 _ rfl, h3 k hk 1 _ rfl, h3 k hk 2 _ rfl⟩

section
open Go.ChangeShapes Go.WideShapes Go.Deep
variable {H : Type} {enc : TypeId × Value → H} {W : World} {fuel : Nat} {cs : List Value} {x : DataW H × List MemPlace}
theorem cellsByte : Tryd.prog.cellsOf 5 = 1 := by kernel_rfl
theorem cells3b : Tryd.prog.cellsOf 102 = 3 := by kernel_rfl
theorem cellsBys : Tryd.prog.cellsOf 53 = 1 := by kernel_rfl
theorem cells3bs : Tryd.prog.cellsOf 54 = 1 := by kernel_rfl
theorem cellsDr : Tryd.prog.cellsOf 56 = 2 := by kernel_rfl
theorem byte_of {v : Value} (h : DataW.trod enc Tryd.prog W 0 (fun _ => true) true fuel 5 [v] = some x) : ∃ n : Nat, v = .int .u8 (n : Int) ∧ n < 256 := by
  obtain ⟨n, e, _, hw⟩ := DataW.trod_int Tryd.underlying5 h
  simp [Lit.wf, IntKind.min, IntKind.max, IntKind.signed, IntKind.bits] at hw
  injection e with e
  exact ⟨n.toNat, by rw [e]; congr 1; omega, by omega⟩
theorem byte_of1 (h : DataW.trod enc Tryd.prog W 0 (fun _ => true) true fuel 5 cs = some x) : ∃ n : Nat, cs = EBy.enc n ∧ n < 256 := by
  obtain ⟨n, e, _, hw⟩ := DataW.trod_int Tryd.underlying5 h
  subst e
  obtain ⟨m, e, hm⟩ := byte_of h
  exact ⟨m, by rw [e]; rfl, hm⟩
set_option maxRecDepth 100000 in
theorem three_of (h : DataW.trod enc Tryd.prog W 0 (fun _ => true) true fuel 102 cs = some x) : ∃ y : B3, cs = EB3.enc y ∧ (y.1 < 256 ∧ y.2.1 < 256 ∧ y.2.2 < 256) := by
  obtain ⟨xs, k, _, _, hl, hxl, hel⟩ := DataW.trod_array Tryd.underlying102 h
  rw [cells3b] at hl
  match cs, hl with
  | [c0, c1, c2], _ =>
    have e0 := hel 0 (by decide)
    have e1 := hel 1 (by decide)
    have e2 := hel 2 (by decide)
    rw [cellsByte] at e0 e1 e2
    simp only [Nat.mul_one, List.drop_zero, List.take_succ_cons, List.take_zero, List.drop_succ_cons] at e0 e1 e2
    rw [List.getElem?_eq_getElem (by omega)] at e0 e1 e2
    obtain ⟨n0, rfl, b0⟩ := byte_of e0
    obtain ⟨n1, rfl, b1⟩ := byte_of e1
    obtain ⟨n2, rfl, b2⟩ := byte_of e2
    exact ⟨(n0, n1, n2), rfl, b0, b1, b2⟩
theorem open_b (h : DataW.trod enc Tryd.prog W 0 (fun _ => true) true fuel 53 cs = some x) :
    ∃ (A : Option Addr) (xs : List Nat) (c : Nat), cs = [.slice A xs.length c] ∧ (Reads EBy W W.heap.size A xs ∧ ∀ i, xs.getD i 0 < 256) ∧ xs.length ≤ c ∧ c ≤ maxLen := by
  obtain ⟨A, xs, c, e, hR, hG, h1, h2⟩ := open_E EBy (fun n => n < 256) 5 53 Tryd.underlying53 cellsByte (by decide) (fun fuel cs x h => byte_of1 h) h
  refine ⟨A, xs, c, e, ⟨hR, fun i => ?_⟩, h1, h2⟩
  rcases Nat.lt_or_ge i xs.length with hi | hi
  · exact hG _ (getD_mem hi)
  · rw [List.getD_eq_getElem?_getD, List.getElem?_eq_none hi]; decide
/-- a draft among the arguments -/
theorem open_Dr (h : DataW.trod enc Tryd.prog W 0 (fun _ => true) true fuel 56 cs = some x) :
    ∃ (d : Dr) (An : Option Addr) (cn : Nat) (Ae : Option Addr) (ce : Nat), cs = [.slice An d.ns.length cn, .slice Ae d.es.length ce] ∧ DrAt W An cn Ae ce d := by
  obtain ⟨y0, y1, n, hx, hl, h0, h1⟩ := trod_struct2 Tryd.underlying56 h
  dsimp only at h0 h1
  rw [cellsBys] at h0
  rw [cells3bs] at h1
  rw [cellsDr] at hl
  obtain ⟨An, ns, cn, e0, ⟨hN, hG⟩, hn1, hn2⟩ := open_b h0
  obtain ⟨Ae, es, ce, e1, hE, hG2, he1, he2⟩ := open_E EB3 (fun y => y.1 < 256 ∧ y.2.1 < 256 ∧ y.2.2 < 256) 102 54 Tryd.underlying54 cells3b (by decide) (fun fuel cs x h => three_of h) h1
  refine ⟨⟨ns, es⟩, An, cn, Ae, ce, two_of hl e0 e1, ⟨hN, hE, ⟨hn1, hn2⟩, ⟨he1, he2⟩, hG, fun i => ?_⟩⟩
  rcases Nat.lt_or_ge i es.length with hi | hi
  · exact hG2 _ (getD_mem hi)
  · show (es.getD i (0, 0, 0)).1 < 256 ∧ _
    rw [List.getD_eq_getElem?_getD, List.getElem?_eq_none hi]; decide
end

end Go.Proofs.YtaeelanbkdkppaaDoor

/-
  A drawn region of calls that wait for one another and allocations that come whenever they like: one walk of the calls, whatever the order.
-/
namespace Go.Proofs.YtaeelanbkdkppaaDoor
open Go.RowKit

theorem op_at {l r : List Oper} {i : Nat} {o : Oper} (h : l.drop i = o :: r) : l.toArray[i]? = some o := by
  have h2 : (l.drop i)[0]? = some o := by rw [h]; rfl
  rw [List.getElem?_drop] at h2
  simpa using h2

/-! what has come up, and what it left -/
def mkd (L : Array Bool) : List Nat → Array Bool
  | [] => L
  | i :: r => mkd (L.setIfInBounds i true) r
def mkm (L : Array Bool) : List Nat → List Bool → Array Bool
  | i :: r, b :: m => mkm (if b then L.setIfInBounds i true else L) r m
  | _, _ => L
def pud (a : Act) : List Nat → List Value → Act
  | d :: r, v :: vs => pud (a.put (some d) v) r vs
  | _, _ => a
def pup (a : Act) : List Nat → List (Option Nat) → Act
  | d :: r, b :: bs => pup (match b with | some k => a.put (some d) (.pointer (some ⟨k, 0, none⟩)) | none => a) r bs
  | _, _ => a
theorem set_comm_true (L : Array Bool) (i j : Nat) : (L.setIfInBounds i true).setIfInBounds j true = (L.setIfInBounds j true).setIfInBounds i true := by
  by_cases h : i = j
  · subst h; rfl
  · exact Array.setIfInBounds_comm _ _ h
theorem mkd_snoc (L : Array Bool) (is : List Nat) (j : Nat) : mkd L (is ++ [j]) = (mkd L is).setIfInBounds j true := by
  induction is generalizing L with
  | nil => rfl
  | cons i r ih => exact ih _
theorem mkm_set (L : Array Bool) (is : List Nat) (m : List Bool) (j : Nat) : (mkm L is m).setIfInBounds j true = mkm (L.setIfInBounds j true) is m := by
  induction is generalizing L m with
  | nil => rfl
  | cons i r ih =>
    cases m with
    | nil => rfl
    | cons b m =>
      simp only [mkm]
      rw [ih]
      cases b
      · rfl
      · simp only [if_true]; rw [set_comm_true]
theorem mkm_on (L : Array Bool) (is : List Nat) (m : List Bool) (k i : Nat) (hi : is[k]? = some i) (hm : m[k]? = some false) : (mkm L is m).setIfInBounds i true = mkm L is (m.set k true) := by
  induction is generalizing L m k with
  | nil => simp at hi
  | cons x r ih =>
    cases m with
    | nil => simp at hm
    | cons b m =>
      cases k with
      | zero =>
        simp only [List.getElem?_cons_zero, Option.some.injEq] at hi hm
        subst hi hm
        simp only [List.set_cons_zero, mkm, if_true]
        rw [mkm_set]
        rfl
      | succ k =>
        simp only [List.getElem?_cons_succ] at hi hm
        simp only [List.set_cons_succ, mkm]
        exact ih _ _ _ hi hm
theorem put_comm' (a : Act) {d e : Nat} (u v : Value) (h : d ≠ e) : (a.put (some d) u).put (some e) v = (a.put (some e) v).put (some d) u :=
  Act.put_comm a u v (fun x hx => by injection hx with hx; subst hx; exact fun e2 => h (by injection e2 with e2; exact e2.symm))
theorem pup_put (a : Act) (ds : List Nat) (bs : List (Option Nat)) (d : Nat) (v : Value) (h : d ∉ ds) : (pup a ds bs).put (some d) v = pup (a.put (some d) v) ds bs := by
  induction ds generalizing a bs with
  | nil => rfl
  | cons x r ih =>
    cases bs with
    | nil => rfl
    | cons b bs =>
      simp only [pup]
      rw [ih _ _ (fun hm => h (List.mem_cons_of_mem _ hm))]
      cases b with
      | none => rfl
      | some k => simp only; rw [put_comm' a _ _ (fun e => h (by rw [← e]; exact List.mem_cons_self))]
theorem pup_on (a : Act) (ds : List Nat) (bs : List (Option Nat)) (k d b : Nat) (hn : ds.Nodup) (hd : ds[k]? = some d) (hb : bs[k]? = some none) : (pup a ds bs).put (some d) (.pointer (some ⟨b, 0, none⟩)) = pup a ds (bs.set k (some b)) := by
  induction ds generalizing a bs k with
  | nil => simp at hd
  | cons x r ih =>
    obtain ⟨h1, h2⟩ := List.nodup_cons.1 hn
    cases bs with
    | nil => simp at hb
    | cons y bs =>
      cases k with
      | zero =>
        simp only [List.getElem?_cons_zero, Option.some.injEq] at hd hb
        subst hd hb
        simp only [List.set_cons_zero, pup]
        exact pup_put a r bs x _ h1
      | succ k =>
        simp only [List.getElem?_cons_succ] at hd hb
        simp only [List.set_cons_succ, pup]
        exact ih _ _ _ h2 hd hb
theorem pud_snoc (a : Act) (ds : List Nat) (vs : List Value) (d : Nat) (v : Value) (h : ds.length = vs.length) : pud a (ds ++ [d]) (vs ++ [v]) = (pud a ds vs).put (some d) v := by
  induction ds generalizing a vs with
  | nil =>
    cases vs with
    | nil => rfl
    | cons _ _ => simp at h
  | cons x r ih =>
    cases vs with
    | nil => simp at h
    | cons u vs =>
      simp only [List.cons_append, pud]
      exact ih _ _ (by simpa using h)
theorem pup_eval (a : Act) (ds : List Nat) (bs : List (Option Nat)) (x : Operand) (h : ∀ d ∈ ds, x ≠ .tmp d) : (pup a ds bs).eval x = a.eval x := by
  induction ds generalizing a bs with
  | nil => rfl
  | cons y r ih =>
    cases bs with
    | nil => rfl
    | cons b bs =>
      simp only [pup]
      rw [ih _ _ (fun d hd => h d (List.mem_cons_of_mem _ hd))]
      cases b with
      | none => rfl
      | some k => exact Act.eval_put fun d hd => by injection hd with hd; subst hd; exact h _ List.mem_cons_self

theorem put_size (a : Act) (d : Option Nat) (v : Value) : (a.put d v).tmps.size = a.tmps.size := by
  cases d with
  | none => rfl
  | some d => simp [Act.put]
theorem put_get (a : Act) {d : Nat} (v : Value) (h : d < a.tmps.size) : (a.put (some d) v).eval (.tmp d) = v := by
  simp [Act.put, Act.eval, h]
theorem pud_eval (a : Act) (ds : List Nat) (vs : List Value) (x : Operand) (h : ∀ d ∈ ds, x ≠ .tmp d) : (pud a ds vs).eval x = a.eval x := by
  induction ds generalizing a vs with
  | nil => rfl
  | cons y r ih =>
    cases vs with
    | nil => rfl
    | cons v vs =>
      simp only [pud]
      rw [ih _ _ (fun d hd => h d (List.mem_cons_of_mem _ hd))]
      exact Act.eval_put fun d hd => by injection hd with hd; subst hd; exact h _ List.mem_cons_self
/-- what the chain has left in its slot j -/
theorem pud_get (a : Act) (ds : List Nat) (vs : List Value) (j d : Nat) (v : Value) (hn : ds.Nodup) (hd : ds[j]? = some d) (hv : vs[j]? = some v) (hs : d < a.tmps.size) : (pud a ds vs).eval (.tmp d) = v := by
  induction ds generalizing a vs j with
  | nil => simp at hd
  | cons y r ih =>
    obtain ⟨h1, h2⟩ := List.nodup_cons.1 hn
    cases vs with
    | nil => simp at hv
    | cons u vs =>
      cases j with
      | zero =>
        simp only [List.getElem?_cons_zero, Option.some.injEq] at hd hv
        subst hd hv
        simp only [pud]
        rw [pud_eval _ _ _ _ (fun e he h => by injection h with h; subst h; exact h1 he)]
        exact put_get _ _ hs
      | succ j =>
        simp only [List.getElem?_cons_succ] at hd hv
        simp only [pud]
        exact ih _ _ _ h2 hd hv (by rw [put_size]; exact hs)
/-- the two ways in which a step reads its operands: a slot from before the region; a value of the chain -/
theorem ev_old {A a0 : Act} {ds : List Nat} {vs : List Value} {al : List Nat} {bs : List (Option Nat)} (hA : pup (pud a0 ds vs) al bs = A) {s : Nat} {v : Value} (h : a0.eval (.tmp s) = v) (h1 : ds.contains s = false) (h2 : al.contains s = false) : A.eval (.tmp s) = v := by
  rw [← hA, pup_eval _ _ _ _ (fun d hd e => by injection e with e; subst e; rw [List.contains_eq_mem, decide_eq_false_iff_not] at h2; exact h2 hd), pud_eval _ _ _ _ (fun d hd e => by injection e with e; subst e; rw [List.contains_eq_mem, decide_eq_false_iff_not] at h1; exact h1 hd)]
  exact h
theorem ev_new {A a0 : Act} {ds : List Nat} {vs : List Value} {al : List Nat} {bs : List (Option Nat)} (hA : pup (pud a0 ds vs) al bs = A) (j : Nat) {s : Nat} {v : Value} (hn : ds.Nodup) (hd : ds[j]? = some s) (hv : vs[j]? = some v) (hs : s < a0.tmps.size) (h2 : al.contains s = false) : A.eval (.tmp s) = v := by
  rw [← hA, pup_eval _ _ _ _ (fun d hd e => by injection e with e; subst e; rw [List.contains_eq_mem, decide_eq_false_iff_not] at h2; exact h2 hd)]
  exact pud_get _ _ _ j _ _ hn hd hv hs
theorem ev_const (A : Act) (v : Value) : A.eval (.const v) = v := rfl
theorem ev_raw {A : Act} {s : Nat} {v : Value} (h : A.eval (.tmp s) = v) : A.tmps[s]?.getD undef = v := by
  simpa [Act.eval] using h

/-! the one check of the region's order -/
def masks : Nat → List (List Bool)
  | 0 => [[]]
  | n + 1 => (masks n).flatMap fun m => [false :: m, true :: m]
theorem mem_masks (m : List Bool) : m ∈ masks m.length := by
  induction m with
  | nil => simp [masks]
  | cons b m ih =>
    simp only [List.length_cons, masks, List.mem_flatMap]
    exact ⟨m, ih, by cases b <;> simp⟩
def pend : List Nat → List Bool → Nat → Bool
  | i :: r, b :: m, j => (!b && i == j) || pend r m j
  | _, _, _ => false
theorem pend_at {is : List Nat} {m : List Bool} {j : Nat} (h : pend is m j = true) : ∃ k : Nat, is[k]? = some j ∧ m[k]? = some false := by
  induction is generalizing m with
  | nil => simp [pend] at h
  | cons i r ih =>
    cases m with
    | nil => simp [pend] at h
    | cons b m =>
      simp only [pend, Bool.or_eq_true, Bool.and_eq_true, Bool.not_eq_true', beq_iff_eq] at h
      rcases h with ⟨rfl, rfl⟩ | h
      · exact ⟨0, rfl, rfl⟩
      · obtain ⟨k, h1, h2⟩ := ih h
        exact ⟨k + 1, h1, h2⟩
/-- the chain's operations (those that are pure are marked), the allocations -/
def chk (md : Region.Mode) (ops : Array Oper) (L : Array Bool) (cs : List Nat) (pure : List Bool) (is : List Nat) : Bool :=
  (List.range (cs.length + 1)).all fun c => (masks is.length).all fun m =>
    match cs[c]? with
    | some i => if pure.getD c false then (Region.ready md ops (mkm (mkd L (cs.take c)) is m)).contains i && Region.free md ops (mkm (mkd L (cs.take c)) is m) i
        else !(Region.ready md ops (mkm (mkd L (cs.take c)) is m)).isEmpty && (Region.ready md ops (mkm (mkd L (cs.take c)) is m)).all fun j => j == i || pend is m j
    | none => m.all id || (!(Region.ready md ops (mkm (mkd L (cs.take c)) is m)).isEmpty && (Region.ready md ops (mkm (mkd L (cs.take c)) is m)).all (pend is m))

structure Al where
  i : Nat
  d : Nat
  o : Obj
/-- the blocks that have been made: new, each with its object, no two the same -/
def AlOk (n : Nat) (w : World) : List Al → List (Option Nat) → Prop
  | x :: r, b :: bs => (∀ k, b = some k → w.heap[k]? = some x.o ∧ n ≤ k ∧ some k ∉ bs) ∧ AlOk n w r bs
  | _, _ => True
theorem AlOk.up {n : Nat} {w w' : World} {al : List Al} {bs : List (Option Nat)} (h : AlOk n w al bs) (hb : ∀ (i : Nat) (o : Obj), w.heap[i]? = some o → w'.heap[i]? = some o) : AlOk n w' al bs := by
  induction al generalizing bs with
  | nil => cases bs <;> trivial
  | cons x r ih =>
    cases bs with
    | nil => trivial
    | cons b bs => exact ⟨fun k hk => by obtain ⟨h1, h2⟩ := h.1 k hk; exact ⟨hb _ _ h1, h2⟩, ih h.2⟩
theorem AlOk.lt {n : Nat} {w : World} {al : List Al} {bs : List (Option Nat)} (h : AlOk n w al bs) (hl : bs.length = al.length) {k : Nat} (hk : some k ∈ bs) : k < w.heap.size := by
  induction al generalizing bs with
  | nil => cases bs with
    | nil => cases hk
    | cons _ _ => simp at hl
  | cons x r ih =>
    cases bs with
    | nil => cases hk
    | cons b bs =>
      rcases List.mem_cons.1 hk with e | hk
      · exact (Array.getElem?_eq_some_iff.1 (h.1 k e.symm).1).1
      · exact ih h.2 (by simpa using hl) hk
theorem mem_set_some {bs : List (Option Nat)} {j k : Nat} {b : Nat} (h : some k ∈ bs.set j (some b)) : k = b ∨ some k ∈ bs := by
  rcases List.mem_or_eq_of_mem_set h with h | h
  · exact .inr h
  · injection h with h; exact .inl h
theorem AlOk.on {n : Nat} {w w' : World} {al : List Al} {bs : List (Option Nat)} (h : AlOk n w al bs) (hl : bs.length = al.length) {j b : Nat} {x : Al} (hx : al[j]? = some x) (hj : bs[j]? = some none)
    (hb : ∀ (i : Nat) (o : Obj), w.heap[i]? = some o → w'.heap[i]? = some o) (h1 : w'.heap[b]? = some x.o) (h2 : n ≤ b) (h3 : ∀ k, some k ∈ bs → k ≠ b) : AlOk n w' al (bs.set j (some b)) := by
  induction al generalizing bs j with
  | nil => simp at hx
  | cons y r ih =>
    cases bs with
    | nil => simp at hj
    | cons c bs =>
      cases j with
      | zero =>
        simp only [List.getElem?_cons_zero, Option.some.injEq] at hx hj
        subst hx hj
        simp only [List.set_cons_zero]
        refine ⟨fun k hk => ?_, h.2.up hb⟩
        injection hk with hk
        subst hk
        exact ⟨h1, h2, fun hm => h3 _ (List.mem_cons_of_mem _ hm) rfl⟩
      | succ j =>
        simp only [List.getElem?_cons_succ] at hx hj
        simp only [List.set_cons_succ]
        refine ⟨fun k hk => ?_, ih h.2 (by simpa using hl) hx hj fun k hk => h3 k (List.mem_cons_of_mem _ hk)⟩
        obtain ⟨g1, g2, g3⟩ := h.1 k hk
        refine ⟨hb _ _ g1, g2, fun hm => ?_⟩
        rcases mem_set_some hm with e | hm
        · exact h3 k (by rw [hk]; exact List.mem_cons_self) e
        · exact g3 hm

def unmade (bs : List (Option Nat)) : Nat := (bs.filter (·.isNone)).length
theorem unmade_set {bs : List (Option Nat)} {j b : Nat} (h : bs[j]? = some none) : unmade bs = unmade (bs.set j (some b)) + 1 := by
  unfold unmade
  induction bs generalizing j with
  | nil => simp at h
  | cons c bs ih =>
    cases j with
    | zero =>
      simp only [List.getElem?_cons_zero, Option.some.injEq] at h
      subst h
      simp
    | succ j =>
      simp only [List.getElem?_cons_succ] at h
      have := ih h
      simp only [List.set_cons_succ, List.filter_cons]
      cases c <;> simp at this ⊢ <;> omega
theorem unmade_pos {bs : List (Option Nat)} {j : Nat} (h : bs[j]? = some none) : 0 < unmade bs := by have := unmade_set (b := 0) h; omega
theorem unmade_zero {bs : List (Option Nat)} (h : unmade bs = 0) : ∃ ks : List Nat, bs = ks.map some := by
  unfold unmade at h
  induction bs with
  | nil => exact ⟨[], rfl⟩
  | cons c bs ih =>
    cases c with
    | none => simp at h
    | some k =>
      obtain ⟨ks, hk⟩ := ih (by simpa using h)
      exact ⟨k :: ks, by rw [hk]; rfl⟩
theorem isSome_set (bs : List (Option Nat)) (j b : Nat) : (bs.set j (some b)).map (·.isSome) = (bs.map (·.isSome)).set j true := by
  induction bs generalizing j with
  | nil => rfl
  | cons c bs ih => cases j with
    | zero => rfl
    | succ j => simp only [List.set_cons_succ, List.map_cons, ih]

section
variable {P : Program} {ops : Array Oper} {Q : Exit → Act → World → Prop} {md : Region.Mode} {S : World → Prop}

theorem wpAnyH_act {n : Nat} {L : Array Bool} {a : Act} {w : World} (h : ∀ a0, a0 = a → wpAnyH P md ops Q S n L a0 w) : wpAnyH P md ops Q S n L a w := h a rfl
/-- A step of the chain: a value in every world that meets S, or a call. -/
def ChStep (P : Program) (ops : Array Oper) (Q : Exit → Act → World → Prop) (S : World → Prop) (F : Value → World → Prop) (pure : Bool) (i d : Nat) (a : Act) (w : World) : Prop :=
  if pure then ∃ o, ops[i]? = some o ∧ o.dst = some d ∧ ∃ v, YieldsIf P ops S o v a ∧ F v w
  else ∀ K : Act → World → Prop, (∀ v w', F v w' → Below w.heap.size w w' → K (a.put (some d) v) w') → wpOp P ops Q i K a w
theorem ChStep.pure {F : Value → World → Prop} {i d : Nat} {a : Act} {w : World} {o : Oper} {v : Value} (ho : ops[i]? = some o) (hd : o.dst = some d) (hg : Region.wanted o (yielded ops a.tmps) = true) (hv : ∀ w, S w → (execOp a.eval o).run P w = .ok (.value v) w) (hF : F v w) : ChStep P ops Q S F true i d a w := by
  unfold ChStep
  rw [if_pos rfl]
  exact ⟨o, ho, hd, v, .inl ⟨hg, hv⟩, hF⟩
theorem ChStep.call {F : Value → World → Prop} {i d : Nat} {a : Act} {w : World} {o : Oper} {f : FuncId} {xs : Array Operand} {ts : Array TypeId} {args : Array Value} (ho : ops[i]? = some o) (hd : o.dst = some d) (hg : Region.wanted o (yielded ops a.tmps) = true)
    (hop : o.op = .call { callee := .value (.func f), args := xs, argTypes := ts }) (hargs : xs.map a.eval = args) (hcf : (callFunc f args).run P w = .ok (.enter f args) w) (h : Calls P f args w fun e w' => (∃ v, e = .returned v ∧ F v w') ∧ Below w.heap.size w w') : ChStep P ops Q S F false i d a w := by
  unfold ChStep
  rw [if_neg (by simp)]
  intro K hK
  unfold wpOp
  simp only [ho, hg, if_true]
  refine .inl ?_
  unfold Oper.wp execOp
  simp only [hop, resolve, hargs, Act.eval, Deferred.ofValue, invoke, Sem.run_bind, Sem.run_pure, Result.andThen_ok, Array.empty_append, Array.append_empty, hcf, Oper.upon, hd]
  refine Calls.mono h ?_
  rintro e w' ⟨⟨v, rfl, hF⟩, hb⟩
  exact hK v w' hF hb

theorem chain_region (S : World → Prop) (F : Nat → Value → World → Prop) (a0 : Act) (L0 : Array Bool) (cs ds : List Nat) (pure : List Bool) (al : List Al) (w0 : World) (f0 : Nat)
    (hcd : ds.length = cs.length) (hdis : ∀ d ∈ ds, d ∉ al.map (·.d)) (hnd : (al.map (·.d)).Nodup) (hsel : Region.noSelect ops = true)
    (hQ : ∀ c a d v w, Q (.panic c) (Act.put a d v) w → Q (.panic c) a w)
    (hchk : chk md ops L0 cs pure (al.map (·.i)) = true)
    (hal : ∀ x ∈ al, ∃ o, ops[x.i]? = some o ∧ o.dst = some x.d ∧ ∀ (a : Act) w, Region.wanted o (yielded ops a.tmps) = true ∧ (execOp a.eval o).run P w = .ok (.value (.pointer (some ⟨w.heap.size, 0, none⟩))) (w.alloc x.o))
    (hS : ∀ w w', S w → Below w.heap.size w w' → S w') (hF : ∀ j v w w', F j v w → Below w.heap.size w w' → F j v w')
    (hstep : ∀ (c i d : Nat) (rs : List Value) (bs : List (Option Nat)) w, rs.length = c → bs.length = al.length → cs[c]? = some i → ds[c]? = some d → S w → (∀ j r, rs[j]? = some r → F j r w) → w0.heap.size ≤ w.heap.size → ChStep P ops Q S (F c) (pure.getD c false) i d (pup (pud a0 (ds.take c) rs) (al.map (·.d)) bs) w)
    (hfin : ∀ (rs : List Value) (ks : List Nat) w, rs.length = cs.length → ks.length = al.length → S w → (∀ j r, rs[j]? = some r → F j r w) → AlOk w0.heap.size w al (ks.map some) → Below w0.heap.size w0 w →
      wpAnyH P md ops Q S f0 (mkm (mkd L0 cs) (al.map (·.i)) (List.replicate al.length true)) (pup (pud a0 ds rs) (al.map (·.d)) (ks.map some)) w)
    (hS0 : S w0) (n : Nat) (hn : n = f0 + (cs.length + al.length)) :
    wpAnyH P md ops Q S n L0 a0 w0 := by
  have main : ∀ (k c : Nat) (rs : List Value) (bs : List (Option Nat)) (w : World), rs.length = c → c ≤ cs.length → bs.length = al.length → (cs.length - c) + unmade bs = k → S w → (∀ j r, rs[j]? = some r → F j r w) → AlOk w0.heap.size w al bs → Below w0.heap.size w0 w →
      wpAnyH P md ops Q S (f0 + k) (mkm (mkd L0 (cs.take c)) (al.map (·.i)) (bs.map (·.isSome))) (pup (pud a0 (ds.take c) rs) (al.map (·.d)) bs) w := by
    intro k
    induction k with
    | zero =>
      intro c rs bs w h1 h2 h3 h4 h5 h6 h7 h8
      have hc : c = cs.length := by omega
      subst hc
      obtain ⟨ks, rfl⟩ := unmade_zero (bs := bs) (by omega)
      have h9 : ks.length = al.length := by simpa using h3
      have e1 : cs.take cs.length = cs := List.take_length
      have e2 : ds.take cs.length = ds := by rw [← hcd]; exact List.take_length
      have e3 : (ks.map some).map (fun x => Option.isSome x) = List.replicate al.length true := by
        rw [List.map_map, ← h9]
        exact (List.eq_replicate_iff.2 ⟨by simp, fun b hb => by obtain ⟨x, _, rfl⟩ := List.mem_map.1 hb; rfl⟩)
      rw [e1, e2, e3]
      exact hfin rs ks w h1 h9 h5 h6 h7 h8
    | succ k ih =>
      intro c rs bs w h1 h2 h3 h4 h5 h6 h7 h8
      have hkk : f0 + (k + 1) = (f0 + k) + 1 := by omega
      rw [hkk]
      have hck := hchk
      unfold chk at hck
      rw [List.all_eq_true] at hck
      have hck := hck c (List.mem_range.2 (by omega))
      rw [List.all_eq_true] at hck
      have hck := hck (bs.map (·.isSome)) (by have := mem_masks (bs.map (·.isSome)); simpa [h3] using this)
      -- an allocation comes up
      have alloc : ∀ i, pend (al.map (·.i)) (bs.map (·.isSome)) i = true → wpOp P ops Q i (fun a' w' => S w' ∧ wpAnyH P md ops Q S (f0 + k) ((mkm (mkd L0 (cs.take c)) (al.map (·.i)) (bs.map (·.isSome))).setIfInBounds i true) a' w') (pup (pud a0 (ds.take c) rs) (al.map (·.d)) bs) w := by
        intro i hi
        obtain ⟨j, hj1, hj2⟩ := pend_at hi
        rw [List.getElem?_map] at hj1 hj2
        obtain ⟨x, hx, rfl⟩ := Option.map_eq_some_iff.1 hj1
        obtain ⟨b, hb, hb2⟩ := Option.map_eq_some_iff.1 hj2
        have hbn : b = none := by cases b with | none => rfl | some _ => cases hb2
        subst hbn
        obtain ⟨o, ho, hd, hall⟩ := hal x (List.mem_of_getElem? hx)
        obtain ⟨hw, hrun⟩ := hall (pup (pud a0 (ds.take c) rs) (al.map (·.d)) bs) w
        unfold wpOp
        simp only [ho, hw, if_true]
        refine .inl ?_
        unfold Oper.wp
        rw [hrun]
        simp only [Oper.upon, hd]
        have hba : Below w.heap.size w (w.alloc x.o) := (Below.refl _ _).alloc (Nat.le_refl _) _
        have hup : ∀ (i : Nat) (o : Obj), w.heap[i]? = some o → (w.alloc x.o).heap[i]? = some o := fun i o h => (hba.block i (Array.getElem?_eq_some_iff.1 h).1).trans h
        refine ⟨hS _ _ h5 hba, ?_⟩
        rw [pup_on _ _ _ j x.d w.heap.size hnd (by rw [List.getElem?_map, hx]; rfl) hb, mkm_on _ _ _ j x.i (by rw [List.getElem?_map, hx]; rfl) (by rw [List.getElem?_map, hb]; rfl), ← isSome_set bs j w.heap.size]
        refine ih c rs _ _ h1 h2 (by rw [List.length_set]; exact h3) ?_ (hS _ _ h5 hba) (fun j r hr => hF _ _ _ _ (h6 j r hr) hba) (h7.on h3 hx hb hup (heap_alloc_new _ _) h8.size fun k hk => Nat.ne_of_lt (h7.lt h3 hk)) (h8.trans (hba.mono h8.size))
        have := unmade_set (b := w.heap.size) hb
        omega
      cases hcs : cs[c]? with
      | some i =>
        have hcl : c < cs.length := (List.getElem?_eq_some_iff.1 hcs).1
        have hdl : c < ds.length := by omega
        obtain ⟨d, hds⟩ : ∃ d, ds[c]? = some d := ⟨_, List.getElem?_eq_getElem hdl⟩
        have hdm : d ∉ al.map (·.d) := hdis d (List.mem_of_getElem? hds)
        have tk : cs.take (c + 1) = cs.take c ++ [i] := by rw [List.take_add_one, hcs]; rfl
        have tkd : ds.take (c + 1) = ds.take c ++ [d] := by rw [List.take_add_one, hds]; rfl
        have hlen : (ds.take c).length = rs.length := by rw [List.length_take]; omega
        have hst := hstep c i d rs bs w h1 h3 hcs hds h5 h6 h8.size
        simp only [hcs] at hck
        have next : ∀ v w', F c v w' → Below w.heap.size w w' → wpAnyH P md ops Q S (f0 + k) ((mkm (mkd L0 (cs.take c)) (al.map (·.i)) (bs.map (·.isSome))).setIfInBounds i true) ((pup (pud a0 (ds.take c) rs) (al.map (·.d)) bs).put (some d) v) w' := by
          intro v w' hv hb
          have hup : ∀ (i : Nat) (o : Obj), w.heap[i]? = some o → w'.heap[i]? = some o := fun i o h => (hb.block i (Array.getElem?_eq_some_iff.1 h).1).trans h
          rw [pup_put _ _ _ _ _ hdm, ← pud_snoc _ _ _ _ _ hlen, mkm_set, ← mkd_snoc, ← tk, ← tkd]
          refine ih (c + 1) (rs ++ [v]) bs w' (by simp [h1]) (by omega) h3 (by omega) (hS _ _ h5 hb) ?_ (h7.up hup) (h8.trans (hb.mono h8.size))
          intro j r hr
          by_cases hj : j < rs.length
          · rw [List.getElem?_append_left hj] at hr
            exact hF _ _ _ _ (h6 j r hr) hb
          · rw [List.getElem?_append_right (by omega)] at hr
            have : j - rs.length = 0 := by
              rcases Nat.eq_zero_or_pos (j - rs.length) with h | h
              · exact h
              · rw [List.getElem?_eq_none (by simp; omega)] at hr; cases hr
            rw [this] at hr
            simp only [List.getElem?_cons_zero, Option.some.injEq] at hr
            subst hr
            have : j = c := by omega
            subst this
            exact hv
        cases hp : pure.getD c false with
        | true =>
          rw [hp] at hck hst
          simp only [if_true, Bool.and_eq_true] at hck
          unfold ChStep at hst
          rw [if_pos rfl] at hst
          obtain ⟨o, ho, hd, v, hy, hv⟩ := hst
          refine wpAnyH_take ho hsel hck.2 hck.1 (fun c a w h => by rw [hd] at h; exact hQ c a _ v w h) hy h5 ?_
          rw [hd]
          exact next v w hv (Below.refl _ _)
        | false =>
          rw [hp] at hck hst
          simp only [Bool.false_eq_true, if_false, Bool.and_eq_true, Bool.not_eq_true', List.all_eq_true, Bool.or_eq_true, beq_iff_eq] at hck
          unfold ChStep at hst
          rw [if_neg (by simp)] at hst
          refine wpAnyH_all rfl (fun e => by have h9 := hck.1; rw [e] at h9; simp at h9) fun j hj => ?_
          rcases hck.2 j hj with rfl | hpj
          · exact hst _ fun v w' hv hb => ⟨hS _ _ h5 hb, next v w' hv hb⟩
          · exact alloc j hpj
      | none =>
        simp only [hcs, Bool.or_eq_true, Bool.and_eq_true, Bool.not_eq_true', List.all_eq_true] at hck
        have hcl : cs.length ≤ c := by
          rcases Nat.lt_or_ge c cs.length with h | h
          · rw [List.getElem?_eq_getElem h] at hcs; cases hcs
          · exact h
        rcases hck with hck | hck
        · exfalso
          have : unmade bs = 0 := by
            unfold unmade
            rw [List.length_eq_zero_iff, List.filter_eq_nil_iff]
            intro b hb
            have := hck b.isSome (List.mem_map.2 ⟨b, hb, rfl⟩)
            cases b <;> simp at this ⊢
          omega
        · refine wpAnyH_all rfl (fun e => by have h9 := hck.1; rw [e] at h9; simp at h9) fun j hj => ?_
          exact alloc j (hck.2 j hj)
  have e0 : mkm L0 (al.map (·.i)) ((al.map fun _ => (none : Option Nat)).map (·.isSome)) = L0 := by
    have : ∀ (l : List Al) (L : Array Bool), mkm L (l.map (·.i)) ((l.map fun _ => (none : Option Nat)).map (·.isSome)) = L := fun l => by
      induction l with
      | nil => intro L; rfl
      | cons x r ih => intro L; simp only [List.map_cons, mkm, Option.isSome_none, Bool.false_eq_true, if_false]; exact ih L
    exact this al L0
  have e1 : pup a0 (al.map (·.d)) (al.map fun _ => (none : Option Nat)) = a0 := by
    have : ∀ (l : List Al) (a : Act), pup a (l.map (·.d)) (l.map fun _ => (none : Option Nat)) = a := fun l => by
      induction l with
      | nil => intro a; rfl
      | cons x r ih => intro a; simp only [List.map_cons, pup]; exact ih a
    exact this al a0
  have e2 : AlOk w0.heap.size w0 al (al.map fun _ => (none : Option Nat)) := by
    have : ∀ l : List Al, AlOk w0.heap.size w0 l (l.map fun _ => (none : Option Nat)) := fun l => by
      induction l with
      | nil => trivial
      | cons x r ih => exact And.intro (fun k hk => (by cases hk)) ih
    exact this al
  have e3 : unmade (al.map fun _ => (none : Option Nat)) = al.length := by
    have : ∀ l : List Al, unmade (l.map fun _ => (none : Option Nat)) = l.length := fun l => by
      induction l with
      | nil => rfl
      | cons x r ih => unfold unmade at ih ⊢; simp only [List.map_cons, List.filter_cons, Option.isNone_none, if_true, List.length_cons, ih]
    exact this al
  have := main (cs.length + al.length) 0 [] (al.map fun _ => none) w0 rfl (Nat.zero_le _) (by simp) (by rw [e3]; omega) hS0 (fun j r h => by simp at h) e2 (Below.refl _ _)
  simp only [List.take_zero, mkd, pud] at this
  rw [e0, e1, ← hn] at this
  exact this
end

end Go.Proofs.YtaeelanbkdkppaaDoor
