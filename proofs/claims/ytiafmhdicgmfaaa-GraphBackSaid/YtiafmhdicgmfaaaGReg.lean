/-
  Graphs: append to an empty literal; what regions that make memory keep; slices.Clip; moveEnds; Copied.
-/
import Derived.Test.YtiafmhdicgmfaaaGSame
import Derived.Test.YtiafmhdicgmfaaaStep
import Derived.Deep.RegionHeld3
import Derived.Deep.RegionLaw
import Derived.ArgAppend
import Derived.Outline
namespace Go.Proofs.Ytiafmhdicgmfaaa
open Go.RowKit

theorem below_al {wz x : World} (h : Below wz.heap.size wz x) (o : Obj) : Below wz.heap.size wz (x.alloc o) := h.alloc h.size o
theorem below_gr {wz x y : World} (h : Below wz.heap.size wz x) (hg : x.grownBy y none) : Below wz.heap.size wz y := h.grown hg h.size (by intro k hk; cases hk)
/-- a slice of the call's own, or an empty literal -/
def OwnZ {α : Type} (E : El α) (t : TypeId) (w : World) (base : Nat) (v : Value) (xs : List α) : Prop := OwnE E t w base v xs ∨ (xs = [] ∧ ∃ a, v = .slice (some a) 0 0)
section
variable {α : Type} {E : El α} {t : TypeId} {w w' : World} {base : Nat} {v : Value} {xs : List α}
theorem OwnZ.reads_cap (h : OwnZ E t w base v xs) : ∃ A c, v = .slice A xs.length c ∧ Reads E w w.heap.size A xs ∧ xs.length ≤ c ∧ c ≤ maxLen := by
  rcases h with h | ⟨rfl, a, rfl⟩
  · exact OwnE.reads_cap h
  · exact ⟨some a, 0, rfl, .inl rfl, Nat.le_refl _, by unfold maxLen; omega⟩
theorem OwnZ.slice (h : OwnZ E t w base v xs) : ∃ ao cap, v = .slice ao xs.length cap := by
  obtain ⟨A, c, e, _⟩ := h.reads_cap
  exact ⟨A, c, e⟩
theorem OwnZ.below {B : Nat} (h : OwnZ E t w base v xs) (hb : Below B w w') (hB : w.heap.size ≤ B) : OwnZ E t w' base v xs := h.imp (fun h => OwnE.below h hb hB) id
theorem OwnZ.stored {a : Addr} (h : OwnZ E t w base v xs) (ha : a.block < base) (u : Value) : OwnZ E t (w.setCell a u) base v xs := h.imp (fun h => ownsRow_setCell_below h ha u) id
theorem OwnZ.mono {base' : Nat} (h : OwnZ E t w base v xs) (hb : base' ≤ base) : OwnZ E t w base' v xs := h.imp (fun h => OwnE.mono h hb) id
theorem OwnZ.cast {ys : List α} (e : xs = ys) (h : OwnZ E t w base v xs) : OwnZ E t w base v ys := e ▸ h

theorem run_append_lit {P : Program} {w : World} (t ty e : TypeId) (i : TypeInfo) (g : Addr) (c : Nat) (ad : Option Addr) (ht : P.underlying t = some (.slice e)) (hi : P.info? e = some i) :
    (Builtin.append_ #[t, t] ty #[.slice (some g) 0 0, .slice ad 0 c]).run P w = .ok (.slice (some g) 0 0) w := by
  cases ad <;> simp [Builtin.append_, run_underlying ht, sizeOf, typeInfo, hi, Builtin.lenOf, Builtin.firstCells, storeCells, loadCells, loadCellsFrom]
end

section
variable {α : Type} {E : El α}
theorem wp_append_lit {w : World} {o : Oper} {a : Act} {K : Act → World → Prop} {Q : Exit → Act → World → Prop} (s x : Operand) (T t : TypeId)
    (ho : o.op = .call { callee := .builtin .append, args := #[s, x], argTypes := #[T, T] }) {z : Value} {bytes : Nat}
    (hT : Try.prog.underlying T = some (.slice t)) (hinfo : (Try.prog.info? t).map (fun i => (i.zero, i.size, i.bytes)) = some (some z, E.size, bytes)) (hzc : z.cells.size = E.size) (hpos : 0 < E.size) (hby : bytes ≤ 1000)
    (g : Addr) (hs : a.eval s = .slice (some g) 0 0) (A : Option Addr) (m c B : Nat) (ys : List α) (hx : a.eval x = .slice A m c) (hm : m = ys.length) (hR : Reads E w B A ys) (hl2 : m ≤ 100000)
    (hK : ∀ v' w', OwnZ E t w' w.heap.size v' ys → w.grownBy w' none → K (a.put o.dst v') w') : o.wp Try.prog a w K Q := by
  obtain ⟨i0, hi, hz0, hz1, hz2⟩ := info_parts hinfo
  subst hm
  have lit : ∀ ad, a.eval x = .slice ad 0 c → ys = [] → o.wp Try.prog a w K Q := fun ad hx hy => by
    have hr := run_append_lit (P := Try.prog) (w := w) T o.type t i0 g c ad hT hi
    unfold Oper.wp execOp
    simp only [ho, resolve, invoke, builtin, Sem.run_bind, Sem.run_pure, Result.andThen_ok, List.map_toArray, List.map_cons, List.map_nil, hs, hx, hr]
    exact hK _ w (.inr ⟨hy, g, rfl⟩) (grown_refl w _)
  rcases Nat.eq_zero_or_pos ys.length with h0 | hp
  · rw [h0] at hx
    exact lit _ hx (List.eq_nil_of_length_eq_zero h0)
  · rcases hR with h | ⟨b, off, rfl, _, h3⟩
    · rw [h] at hp; simp at hp
    · have hb : ys.length * bytes ≤ 100000 * 1000 := Nat.mul_le_mul (by omega) hby
      obtain ⟨v', w', hrun, r1, r2⟩ := run_append_arg_grows (P := Try.prog) w T o.type t i0 z E.size bytes hT hi hz0 hz1 hz2 hzc hpos g 0 0 [] (by simp) (fun j u h => by simp at h) ⟨b, off, none⟩ ys.length c (cellsE E ys) (cellsE_length E ys) (by
          intro j u hj
          obtain ⟨hj1, _⟩ := List.getElem?_eq_some_iff.1 hj
          rw [cellsE_length] at hj1
          have hi2 : j / E.size < ys.length := (Nat.div_lt_iff_lt_mul hpos).2 hj1
          have hq := List.getElem?_eq_getElem hi2
          have hlt : j % E.size < (E.enc ys[j / E.size]).length := by rw [E.len]; exact Nat.mod_lt _ hpos
          have hu := cellsE_get E hq (List.getElem?_eq_getElem hlt)
          have ej : j / E.size * E.size + j % E.size = j := by rw [Nat.mul_comm]; exact Nat.div_add_mod j E.size
          rw [ej, hj] at hu
          have := h3 _ _ hq _ _ (List.getElem?_eq_getElem hlt)
          rw [addr_plain, show off + j = off + j / E.size * E.size + j % E.size by rw [Nat.add_assoc, ej], this, hu]) (by omega) (by unfold maxLen; omega) (by rw [Nat.zero_add]; omega)
      unfold Oper.wp execOp
      simp only [ho, resolve, invoke, builtin, Sem.run_bind, Sem.run_pure, Result.andThen_ok, List.map_toArray, List.map_cons, List.map_nil, hs, hx, hrun]
      refine hK v' w' (.inl ?_) r2
      unfold OwnE
      rw [Nat.zero_add, List.nil_append] at r1
      exact r1
/-- w' is w with more memory; what may have changed is of type t, from base on -/
def Grow (t : TypeId) (base : Nat) (w w' : World) : Prop := Below base w w' ∧ ∀ (i : Nat) (cs : Array Value) (t' : TypeId), t' ≠ t → w.heap[i]? = some (.cells cs t' (0, 0)) → w'.heap[i]? = some (.cells cs t' (0, 0))
theorem Grow.own {t : TypeId} {base : Nat} {w w' : World} {v : Value} {xs : List α} (hown : OwnE E t w base v xs) (hg : w.grownBy w' v.ownBlock) (hb : Below base w w') : Grow t base w w' :=
  ⟨hb, fun i _ _ ht h => (hg.block i (Array.getElem?_eq_some_iff.1 h).1 (fun e => own_far hown h (fun e2 => ht e2.symm) e.symm)).trans h⟩
theorem Grow.of {t : TypeId} {base : Nat} {w w' : World} (hb : Below w.heap.size w w') (hB : base ≤ w.heap.size) : Grow t base w w' := ⟨hb.mono hB, fun i _ _ _ h => (hb.block i (Array.getElem?_eq_some_iff.1 h).1).trans h⟩
theorem Grow.trans {t : TypeId} {base : Nat} {a b c : World} (h : Grow t base a b) (k : Grow t base b c) : Grow t base a c := ⟨h.1.trans k.1, fun i cs t' ht hh => k.2 i cs t' ht (h.2 i cs t' ht hh)⟩
theorem Grow.refl (t : TypeId) (base : Nat) (w : World) : Grow t base w w := ⟨Below.refl _ _, fun _ _ _ _ h => h⟩
theorem Grow.row {β : Type} {G : El β} {t t' : TypeId} {base b2 : Nat} {w w' : World} {v : Value} {xs : List β} (hg : Grow t base w w') (ht : t' ≠ t) (h : OwnE G t' w b2 v xs) : OwnE G t' w' b2 v xs := by
  refine ⟨h.1, ?_⟩
  rcases h.2 with hn | ⟨g, cap, cur, hv, hbg, hh, rest⟩
  · exact .inl hn
  · exact .inr ⟨g, cap, cur, hv, hbg, hg.2 g _ _ ht hh, rest⟩
theorem Grow.rowZ {β : Type} {G : El β} {t t' : TypeId} {base b2 : Nat} {w w' : World} {v : Value} {xs : List β} (hg : Grow t base w w') (ht : t' ≠ t) (h : OwnZ G t' w b2 v xs) : OwnZ G t' w' b2 v xs := h.imp (hg.row ht) id
theorem wp_append_Z {w : World} {o : Oper} {a : Act} {K : Act → World → Prop} {Q : Exit → Act → World → Prop} (s x : Operand) (T t : TypeId)
    (ho : o.op = .call { callee := .builtin .append, args := #[s, x], argTypes := #[T, T] }) {z : Value} {bytes : Nat}
    (hT : Try.prog.underlying T = some (.slice t)) (hinfo : (Try.prog.info? t).map (fun i => (i.zero, i.size, i.bytes)) = some (some z, E.size, bytes)) (hzc : z.cells.size = E.size) (hpos : 0 < E.size) (hby : bytes ≤ 1000)
    (base : Nat) (v : Value) (xs : List α) (hs : a.eval s = v) (hown : OwnZ E t w base v xs) (A : Option Addr) (m c B : Nat) (ys : List α) (hx : a.eval x = .slice A m c) (hm : m = ys.length) (hR : Reads E w B A ys) (hl : xs.length ≤ 100000) (hl2 : m ≤ 100000) (hbase : base ≤ w.heap.size)
    (hK : ∀ v' w', OwnZ E t w' base v' (xs ++ ys) → Grow t base w w' → K (a.put o.dst v') w') : o.wp Try.prog a w K Q := by
  rcases hown with hown | ⟨rfl, g, rfl⟩
  · exact wp_append_many s x T t ho hT hinfo hzc hpos hby base v xs hs hown A m c B ys hx hm hR hl hl2 hbase fun v' w' h2 h3 h4 _ => hK v' w' (.inl h2) (Grow.own hown h3 h4)
  · exact wp_append_lit s x T t ho hT hinfo hzc hpos hby g hs A m c B ys hx hm hR hl2 fun v' w' h2 h3 => hK v' w' (by rw [List.nil_append]; exact h2.mono hbase) (Grow.of ((Below.refl _ w).grown h3 (Nat.le_refl _) (by intro k hk; cases hk)) hbase)
theorem wpList_append_Z {w : World} {ops : Array Oper} {rest : List Oper} {o : Oper} {a : Act} {Q : Exit → Act → World → Prop} (hgd : o.guard = none) (s x : Operand) (T t : TypeId)
    (ho : o.op = .call { callee := .builtin .append, args := #[s, x], argTypes := #[T, T] }) {z : Value} {bytes : Nat}
    (hT : Try.prog.underlying T = some (.slice t)) (hinfo : (Try.prog.info? t).map (fun i => (i.zero, i.size, i.bytes)) = some (some z, E.size, bytes)) (hzc : z.cells.size = E.size) (hpos : 0 < E.size) (hby : bytes ≤ 1000)
    (base : Nat) (v : Value) (xs : List α) (hs : a.eval s = v) (hown : OwnZ E t w base v xs) (A : Option Addr) (m c B : Nat) (ys : List α) (hx : a.eval x = .slice A m c) (hm : m = ys.length) (hR : Reads E w B A ys) (hl : xs.length ≤ 100000) (hl2 : m ≤ 100000) (hbase : base ≤ w.heap.size)
    (hK : ∀ v' w', OwnZ E t w' base v' (xs ++ ys) → Grow t base w w' → wpList Try.prog ops Q rest (a.put o.dst v') w') : wpList Try.prog ops Q (o :: rest) a w :=
  wpList_plain hgd fun _ hK2 => wp_append_Z s x T t ho hT hinfo hzc hpos hby base v xs hs hown A m c B ys hx hm hR hl hl2 hbase fun v' w' h2 h3 => hK2 _ _ (hK v' w' h2 h3)
theorem step_append_lit {w : World} {ops : Array Oper} {o : Oper} {a : Act} {K : Act → World → Prop} {Q : Exit → Act → World → Prop} {X : Prop} (hgd : o.guard = none) (s x : Operand) (T t : TypeId)
    (ho : o.op = .call { callee := .builtin .append, args := #[s, x], argTypes := #[T, T] }) {z : Value} {bytes : Nat}
    (hT : Try.prog.underlying T = some (.slice t)) (hinfo : (Try.prog.info? t).map (fun i => (i.zero, i.size, i.bytes)) = some (some z, E.size, bytes)) (hzc : z.cells.size = E.size) (hpos : 0 < E.size) (hby : bytes ≤ 1000)
    (g : Addr) (hs : a.eval s = .slice (some g) 0 0) (A : Option Addr) (m c B : Nat) (ys : List α) (hx : a.eval x = .slice A m c) (hm : m = ys.length) (hR : Reads E w B A ys) (hl2 : m ≤ 100000)
    (hK : ∀ v' w', OwnZ E t w' w.heap.size v' ys → w.grownBy w' none → K (a.put o.dst v') w') : if Region.wanted o (yielded ops a.tmps) = true then Oper.wp Try.prog o a w K Q else X := by
  have hw : Region.wanted o (yielded ops a.tmps) = true := by simp [Region.wanted, hgd]
  rw [if_pos hw]
  exact wp_append_lit s x T t ho hT hinfo hzc hpos hby g hs A m c B ys hx hm hR hl2 hK
end

/-! slices.Clip -/
theorem clipI_any (A : Option Addr) (n c : Nat) (w : World) (h1 : n ≤ c) :
    Calls Try.prog 40 #[.slice A n c] w fun e w' => e = .returned (.slice A n n) ∧ w = w' := by
  go_enter Try.func40, Try.ntmps40
  go_wp2_with fail
  go_ret
  exact ⟨rfl, rfl⟩
theorem clipE_any (A : Option Addr) (n c : Nat) (w : World) (h1 : n ≤ c) :
    Calls Try.prog 49 #[.slice A n c] w fun e w' => e = .returned (.slice A n n) ∧ w = w' := by
  go_enter Try.func49, Try.ntmps49
  go_wp2_with fail
  go_ret
  exact ⟨rfl, rfl⟩

/-! moveEnds -/
set_option maxRecDepth 100000 in
set_option maxHeartbeats 2000000 in
theorem moveEnds_any (x : Ed) (pl : List Int) (A : Option Addr) (c : Nat) (w : World) (hf : 0 ≤ x.fr ∧ x.fr < pl.length) (ht : 0 ≤ x.to ∧ x.to < pl.length) (hA : Ints w w.heap.size A pl) :
    Calls Try.prog 52 #[edv x, .slice A pl.length c] w fun e w' => e = .returned (edv ⟨x.ty, pl.getD x.fr.toNat 0, pl.getD x.to.toNat 0⟩) ∧ Below w.heap.size w w' := by
  obtain ⟨ty, fr, to⟩ := x
  dsimp only at hf ht ⊢
  obtain ⟨a, rfl⟩ : ∃ a : Nat, fr = a := ⟨fr.toNat, by omega⟩
  obtain ⟨b, rfl⟩ : ∃ b : Nat, to = b := ⟨to.toNat, by omega⟩
  rw [Int.toNat_natCast, Int.toNat_natCast]
  have ha : a < pl.length := by omega
  have hb : b < pl.length := by omega
  obtain ⟨g, off, rfl, hg, hc⟩ := Ints.cells hA ha
  have ca := hc a ha
  have cb := hc b hb
  have hB : Hid (∀ o o', Below w.heap.size w ((w.alloc o).alloc o')) := Lib.hid fun o o' => ((Below.refl _ _).alloc (Nat.le_refl _) _).alloc (by simp) _
  clear hA hc hf ht
  generalize pl.getD a 0 = p at ca ⊢
  generalize pl.getD b 0 = q at cb ⊢
  have a0 : (0 : Int) ≤ (a : Int) := by omega
  have a1 : (a : Int) < (pl.length : Int) := by omega
  have a2 : ((a : Int)).toNat = a := by omega
  have b0 : (0 : Int) ≤ (b : Int) := by omega
  have b1 : (b : Int) < (pl.length : Int) := by omega
  have b2 : ((b : Int)).toNat = b := by omega
  go_enter Try.func52, Try.ntmps52
  go_wp2_with fail
  go_region
  all_goals
    go_wp2_with fail
    refine bodyPost_ret (v := edv ⟨ty, p, q⟩) (by simp [results, Try.results52, go_sem]) rfl ⟨rfl, ?_⟩
    exact Below.drew (hB.out _ _)

/-! what regions keep -/
theorem below_a (u : World) (o : Obj) : Below u.heap.size u (u.alloc o) := (Below.refl _ _).alloc (Nat.le_refl _) o
theorem below_ad (u : World) (o : Obj) : Below u.heap.size u (u.alloc o).drew := Below.drew (below_a u o)
theorem below_d (u : World) : Below u.heap.size u u.drew := Below.drew (Below.refl _ _)
theorem below_g {u x : World} (hg : u.grownBy x none) : Below u.heap.size u x := (Below.refl _ u).grown hg (Nat.le_refl _) (by intro k hk; cases hk)
/-- the value in a cell -/
def valAt (W : World) (h j : Nat) : Value := (W.cell? ⟨h, j, none⟩).getD (.bool false)
/-- a variable of two cells -/
def Blk (h : Nat) (t : TypeId) (W : World) : Prop := ∃ x y, W.heap[h]? = some (.cells #[x, y] t (0, 0))
abbrev Sto (h : Nat) (W : World) : Prop := (W.cell? ⟨h, 0, none⟩ = some (valAt W h 0) ∧ W.cell? ⟨h, 1, none⟩ = some (valAt W h 1)) ∧ (W.frozen? ⟨h, 0, none⟩ = false ∧ W.frozen? ⟨h, 1, none⟩ = false)
theorem Blk.sto {h : Nat} {t : TypeId} {W : World} (hb : Blk h t W) : Sto h W := by
  obtain ⟨x, y, hh⟩ := hb
  obtain ⟨c0, c1⟩ := cell2 hh
  refine ⟨⟨?_, ?_⟩, frozen_of_row _ _ _ _ _ hh, frozen_of_row _ _ _ _ _ hh⟩
  · unfold valAt; rw [c0]; rfl
  · unfold valAt; rw [c1]; rfl
theorem Blk.up {h : Nat} {t : TypeId} {W W' : World} (hb : Blk h t W) (hu : Below W.heap.size W W') : Blk h t W' := by
  obtain ⟨x, y, hh⟩ := hb
  exact ⟨x, y, heap_up hu hh⟩
theorem store2 {W : World} {h : Nat} {t : TypeId} (hb : Blk h t W) (a b : Value) : ((W.setCell ⟨h, 0, none⟩ a).setCell ⟨h, 1, none⟩ b).heap[h]? = some (.cells #[a, b] t (0, 0)) := by
  obtain ⟨x, y, hh⟩ := hb
  exact heap_setCell_same _ h 1 _ _ b (heap_setCell_same W h 0 _ _ a hh)
theorem Blk.store {h : Nat} {t : TypeId} {W : World} (hb : Blk h t W) (a b : Value) : Blk h t ((W.setCell ⟨h, 0, none⟩ a).setCell ⟨h, 1, none⟩ b) := ⟨a, b, store2 hb a b⟩
/-- a box that is read, a variable that is written -/
abbrev One (g : Nat) (u v : Value) (h : Nat) (t : TypeId) (wz W : World) : Prop :=
  (W.cell? ⟨g, 0, none⟩ = some u ∧ W.cell? ⟨g, 1, none⟩ = some v) ∧ Sto h W ∧ Blk h t W ∧ Below (g + 1) wz W ∧ g + 1 ≤ W.heap.size
theorem one_of {g h : Nat} {u v : Value} {t t' : TypeId} {wz W : World} (h1 : wz.heap[g]? = some (.cells #[u, v] t' (0, 0))) (h2 : Blk h t W) (hb : Below (g + 1) wz W) (hs : g + 1 ≤ W.heap.size) : One g u v h t wz W :=
  ⟨cell2 ((hb.block g (Nat.lt_succ_self _)).trans h1), h2.sto, h2, hb, hs⟩
theorem One.up {g h : Nat} {u v : Value} {t t' : TypeId} {wz W W' : World} (h1 : wz.heap[g]? = some (.cells #[u, v] t' (0, 0))) (ho : One g u v h t wz W) (hb : Below W.heap.size W W') : One g u v h t wz W' :=
  one_of h1 (ho.2.2.1.up hb) (ho.2.2.2.1.trans (hb.mono ho.2.2.2.2)) (Nat.le_trans ho.2.2.2.2 hb.size)
theorem One.store {g h : Nat} {u v : Value} {t t' : TypeId} {wz W : World} (h1 : wz.heap[g]? = some (.cells #[u, v] t' (0, 0))) (hgh : g < h) (ho : One g u v h t wz W) (a b : Value) : One g u v h t wz ((W.setCell ⟨h, 0, none⟩ a).setCell ⟨h, 1, none⟩ b) :=
  one_of h1 (ho.2.2.1.store a b) ((ho.2.2.2.1.setCell (p := ⟨h, 0, none⟩) hgh a).setCell (p := ⟨h, 1, none⟩) hgh b) (by simpa using ho.2.2.2.2)

/-! Copied -/
set_option maxRecDepth 100000 in
set_option maxHeartbeats 4000000 in
theorem copied_any (g : Gr) (An : Option Addr) (cn : Nat) (Ae : Option Addr) (ce : Nat) (w : World) (hf : g.ns.length ≤ 1000 ∧ g.es.length ≤ 1000) (hT : GrAt w An cn Ae ce g) :
    Calls Try.prog 13 #[gval An g.ns.length cn Ae g.es.length ce] w fun e w' => (∃ v u, e = .returned (.agg #[v, u]) ∧ OwnZ EInt 3 w' w.heap.size v g.ns ∧ OwnZ EEd 36 w' w.heap.size u g.es) ∧ Below w.heap.size w w' := by
  obtain ⟨wz, hwz⟩ : ∃ wz, wz = (w.alloc (.cells #[.slice An g.ns.length cn, .slice Ae g.es.length ce] 25 (0, 0))).alloc (.cells #[.slice none 0 0, .slice none 0 0] 25 (0, 0)) := ⟨_, rfl⟩
  have hb0 : Below w.heap.size w wz := by rw [hwz]; exact ((Below.refl _ _).alloc (Nat.le_refl _) _).alloc (by simp) _
  have hh1 : wz.heap[w.heap.size]? = some (.cells #[.slice An g.ns.length cn, .slice Ae g.es.length ce] 25 (0, 0)) := by rw [hwz]; exact heap_two _ _ _
  have hh2 : Blk (w.heap.size + 1) 25 wz := ⟨_, _, by rw [hwz]; exact heap_two' _ _ _⟩
  have hzs : wz.heap.size = w.heap.size + 2 := by rw [hwz]; simp
  have hs1 : One w.heap.size (.slice An g.ns.length cn) (.slice Ae g.es.length ce) (w.heap.size + 1) 25 wz wz := one_of hh1 hh2 (Below.refl _ _) (by omega)
  have HU := Lib.hid (fun W W' h hb => One.up (h := w.heap.size + 1) (t := 25) (W := W) (W' := W') hh1 h hb)
  have HST := Lib.hid (fun W h a b => One.store (t := 25) (W := W) hh1 (Nat.lt_succ_self w.heap.size) h a b)
  have HBW : Hid (∀ W, One w.heap.size (.slice An g.ns.length cn) (.slice Ae g.es.length ce) (w.heap.size + 1) 25 wz W → Below w.heap.size w W) := Lib.hid fun W h => hb0.trans (h.2.2.2.1.mono (Nat.le_succ _))
  have HBZ : Hid (∀ W, One w.heap.size (.slice An g.ns.length cn) (.slice Ae g.es.length ce) (w.heap.size + 1) 25 wz W → w.heap.size + 2 ≤ W.heap.size) := Lib.hid fun W h => heap_lt h.2.2.1.choose_spec.choose_spec
  have HN := Lib.hid (fun W h => Reads.below hT.ns (HBW.out W h))
  have HE := Lib.hid (fun W h => Reads.below hT.es (HBW.out W h))
  have HS1 := Lib.hid hs1
  obtain ⟨l1, l2⟩ := hf
  have HZ := Lib.hid hzs
  clear hb0 hh1 hh2 hT hzs hs1
  go_enter Try.func13, Try.ntmps13
  go_wp2_with fail
  rw [← hwz]
  clear hwz
  go_region_held3 (One w.heap.size (.slice An g.ns.length cn) (.slice Ae g.es.length ce) (w.heap.size + 1) 25 wz)
    (first | assumption | exact HS1.out | exact HU.out _ _ (by first | assumption | exact HS1.out) (by first | exact below_a _ _ | exact below_ad _ _ | exact below_d _ | exact below_g (by assumption)) | exact HST.out _ (by assumption) _ _)
    ((first
      | (refine step_append_lit (E := EInt) (by rfl) _ _ 22 3 (by rfl) Try.underlying22 infoInt rfl (by decide) (by decide) _ (by rfl) An g.ns.length cn w.heap.size g.ns (by rfl) rfl (HN.out _ (by assumption)) (by omega) ?_; intro v1 w1 ho1 hg1; have hq1 := HU.out _ _ (by first | assumption | exact HS1.out) (below_g hg1); obtain ⟨ao1, cap1, rfl⟩ := ho1.slice)
      | (refine step_append_lit (E := EEd) (by rfl) _ _ 23 36 (by rfl) Try.underlying23 infoEd rfl (by decide) (by decide) _ (by rfl) Ae g.es.length ce w.heap.size g.es (by rfl) rfl (HE.out _ (by assumption)) (by omega) ?_; intro v2 w2 ho2 hg2; have hq2 := HU.out _ _ (by first | assumption | exact HS1.out) (below_g hg2); obtain ⟨ao2, cap2, rfl⟩ := ho2.slice)))
  all_goals
    have hb12 : Below w1.heap.size w1 w2 := by
      first
        | exact below_g hg2
        | exact (below_a _ _).trans ((below_g hg2).mono (by simp))
        | exact (below_ad _ _).trans ((below_g hg2).mono (by simp))
    have hs1 := (HBZ.out _ hq1)
    have hz := HZ.out
    have HO1 := Lib.hid ((ho1.below hb12 (Nat.le_refl _)).mono (base' := w.heap.size + 2) (by first | (simp; omega) | omega))
    have HO2 := Lib.hid (ho2.mono (base' := w.heap.size + 2) (by first | (simp; omega) | omega))
    have hh := store2 hq2.2.2.1 (.slice ao1 g.ns.length cap1) (.slice ao2 g.es.length cap2)
    obtain ⟨r0, r1⟩ := cell2 hh
    have HBF := Lib.hid (HBW.out _ hq2)
    clear hb12 hs1 hz hh ho1 ho2 hg1 hg2 hq1 hq2
    go_wp2_with fail
    refine bodyPost_ret (v := gval ao1 g.ns.length cap1 ao2 g.es.length cap2) (by simp [results, Try.results13, go_sem, r0, r1]) rfl ?_
    exact ⟨⟨_, _, rfl, ((HO1.out.stored (by simp) _).stored (by simp) _).mono (by omega), ((HO2.out.stored (by simp) _).stored (by simp) _).mono (by omega)⟩, (HBF.out.setCell (by simp) _).setCell (by simp) _⟩

end Go.Proofs.Ytiafmhdicgmfaaa
