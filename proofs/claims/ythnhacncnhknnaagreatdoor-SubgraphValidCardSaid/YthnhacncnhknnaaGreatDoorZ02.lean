import Derived.Test.YthnhacncnhknnaaGreatDoorZ01
import Derived.Lib.SliceRun
import Derived.Lib.AppendZeros
import Derived.Laws.StructEq
import Derived.Test.YthnhacncnhknnaaGreatDoorProg
import Derived.WalkKit
import Derived.WalkSpells
import Derived.Lib.Hide
import Derived.Shelf.Spec.TrailingZeros
import Derived.IntWalk
import Derived.Deep.DeepCutAuto
import Derived.OwnWalkIn
import Derived.Deep.MidRow
import Derived.Laws.Rows
import Derived.Shelf.Abstract
import Derived.Shelf.RegionOpen
import Derived.TacticsInMore
import Derived.LoopNIn
import Derived.LoopIn
import Derived.ArgAppend
import Derived.LoopTactic
import Derived.Deep.RegionHeld3
import Derived.Outline
import Derived.Shelf.Small.Bits
import Derived.Shelf.Small.Wraps
import Derived.Shelf.Strconv.Itoa0
import Derived.Shelf.Sort.Plain
import Derived.Shelf.Slices.Turned
import Derived.Shelf.Slices.Equal
import Derived.Ground.Names2Prog
import Derived.Shelf.Slices.Clone
import Derived.Shelf.Slices.CompactI
import Derived.Shelf.Slices.SearchI
import Derived.Shelf.Slices.Cells
import Derived.Shelf.Slices.In.SortNone
import Derived.Shelf.Slices.Empties
import Derived.Shelf.Slices.Empties2
import Derived.Deep.RegionLaw
/-
  Graphs in memory.
-/
namespace Go.Proofs.YthnhacncnhknnaaGreatDoor
open Go.RowKit

abbrev I64 (x : Int) : Prop := -9223372036854775808 ≤ x ∧ x ≤ 9223372036854775807
def EEd : El Ed := ⟨fun x => [.int .i64 x.ty, .int .i64 x.fr, .int .i64 x.tq], 3, fun _ => rfl, fun x u hu => by simp at hu; rcases hu with rfl | rfl | rfl <;> rfl⟩
abbrev Eds (w : World) (B : Nat) (A : Option Addr) (xs : List Ed) : Prop := Reads EEd w B A xs
abbrev OwnEd (w : World) (base : Nat) (v : Value) (xs : List Ed) : Prop := OwnE EEd 58 w base v xs
theorem infoEd : (Tryz.prog.info? 58).map (fun i => (i.zero, i.size, i.bytes)) = some (some (.agg #[.int .i64 0, .int .i64 0, .int .i64 0]), 3, 24) := by kernel_rfl
theorem Eds.cells {w : World} {B : Nat} {A : Option Addr} {xs : List Ed} (h : Eds w B A xs) {k : Nat} (hk : k < xs.length) :
    ∃ b off, A = some ⟨b, off, none⟩ ∧ b < B ∧ ∀ i, i < xs.length → w.cell? ⟨b, off + i * 3, none⟩ = some (.int .i64 (xs.getD i default).ty) ∧ w.cell? ⟨b, off + i * 3 + 1, none⟩ = some (.int .i64 (xs.getD i default).fr) ∧ w.cell? ⟨b, off + i * 3 + 2, none⟩ = some (.int .i64 (xs.getD i default).tq) := by
  obtain ⟨b, off, h1, h2, h3⟩ := Reads.at h hk
  refine ⟨b, off, h1, h2, fun i hi => ?_⟩
  have e : xs.getD i default = xs[i] := by rw [List.getD_eq_getElem?_getD, List.getElem?_eq_getElem hi]; rfl
  rw [e]
  exact ⟨h3 i hi 0 _ rfl, h3 i hi 1 _ rfl, h3 i hi 2 _ rfl⟩

/-- the value of a graph, a morphism or a part: two slices -/
abbrev gval (An : Option Addr) (n cn : Nat) (Ae : Option Addr) (m ce : Nat) : Value := .agg #[.slice An n cn, .slice Ae m ce]
/-- two slices read as a graph -/
structure GrAt (w : World) (An : Option Addr) (cn : Nat) (Ae : Option Addr) (ce : Nat) (g : Gr) : Prop where
  ns : Ints w w.heap.size An g.ns
  es : Eds w w.heap.size Ae g.es
  cn : g.ns.length ≤ cn ∧ cn ≤ maxLen
  ce : g.es.length ≤ ce ∧ ce ≤ maxLen
structure MoAt (w : World) (An : Option Addr) (cn : Nat) (Ae : Option Addr) (ce : Nat) (m : Mo) : Prop where
  ns : Ints w w.heap.size An m.ns
  es : Ints w w.heap.size Ae m.es
  cn : m.ns.length ≤ cn ∧ cn ≤ maxLen
  ce : m.es.length ≤ ce ∧ ce ≤ maxLen
theorem GrAt.up {w w' : World} {An : Option Addr} {cn : Nat} {Ae : Option Addr} {ce : Nat} {g : Gr} (h : GrAt w An cn Ae ce g) (hb : Below w.heap.size w w') : GrAt w' An cn Ae ce g := ⟨Reads.up h.ns hb, Reads.up h.es hb, h.cn, h.ce⟩
theorem MoAt.up {w w' : World} {An : Option Addr} {cn : Nat} {Ae : Option Addr} {ce : Nat} {g : Mo} (h : MoAt w An cn Ae ce g) (hb : Below w.heap.size w w') : MoAt w' An cn Ae ce g := ⟨Reads.up h.ns hb, Reads.up h.es hb, h.cn, h.ce⟩
/-- a slice value that reads as a list -/
def IsI (w : World) (v : Value) (xs : List Int) : Prop := ∃ A c, v = .slice A xs.length c ∧ Ints w w.heap.size A xs ∧ xs.length ≤ c ∧ c ≤ maxLen
def IsE (w : World) (v : Value) (xs : List Ed) : Prop := ∃ A c, v = .slice A xs.length c ∧ Eds w w.heap.size A xs ∧ xs.length ≤ c ∧ c ≤ maxLen
/-- a value that reads as a graph, or as a morphism -/
def IsG (w : World) (v : Value) (g : Gr) : Prop := ∃ An cn Ae ce, v = gval An g.ns.length cn Ae g.es.length ce ∧ GrAt w An cn Ae ce g
def IsM (w : World) (v : Value) (m : Mo) : Prop := ∃ An cn Ae ce, v = gval An m.ns.length cn Ae m.es.length ce ∧ MoAt w An cn Ae ce m
theorem IsI.up {w w' : World} {v : Value} {xs : List Int} (h : IsI w v xs) (hb : Below w.heap.size w w') : IsI w' v xs := by
  obtain ⟨A, c, e, h1, h2⟩ := h
  exact ⟨A, c, e, Reads.up h1 hb, h2⟩
theorem IsE.up {w w' : World} {v : Value} {xs : List Ed} (h : IsE w v xs) (hb : Below w.heap.size w w') : IsE w' v xs := by
  obtain ⟨A, c, e, h1, h2⟩ := h
  exact ⟨A, c, e, Reads.up h1 hb, h2⟩
theorem IsG.up {w w' : World} {v : Value} {g : Gr} (h : IsG w v g) (hb : Below w.heap.size w w') : IsG w' v g := by
  obtain ⟨An, cn, Ae, ce, e, h1⟩ := h
  exact ⟨An, cn, Ae, ce, e, h1.up hb⟩
theorem IsM.up {w w' : World} {v : Value} {g : Mo} (h : IsM w v g) (hb : Below w.heap.size w w') : IsM w' v g := by
  obtain ⟨An, cn, Ae, ce, e, h1⟩ := h
  exact ⟨An, cn, Ae, ce, e, h1.up hb⟩
theorem own_cap {w : World} {base : Nat} {e : TypeId} {size : Nat} {v : Value} {n : Nat} {xs : List Value} (h : w.ownsRow base e size v n xs) : ∃ ao cap, v = .slice ao n cap ∧ n ≤ cap ∧ cap ≤ maxLen := by
  rcases h.2 with ⟨hv, h0⟩ | ⟨g, cap, cur, hv, _, _, h1, h2, _⟩
  · exact ⟨none, 0, by rw [hv, h0], by omega, by unfold maxLen; omega⟩
  · exact ⟨_, _, hv, h1, h2⟩
theorem OwnE.reads_cap {α : Type} {E : El α} {t : TypeId} {w : World} {base : Nat} {v : Value} {xs : List α} (h : OwnE E t w base v xs) : ∃ A c, v = .slice A xs.length c ∧ Reads E w w.heap.size A xs ∧ xs.length ≤ c ∧ c ≤ maxLen := by
  obtain ⟨A, c, e, hR⟩ := OwnE.reads h
  obtain ⟨A', c', e', h1, h2⟩ := own_cap h
  rw [e] at e'
  injection e' with _ _ ec
  subst ec
  exact ⟨A, c, e, hR, h1, h2⟩
theorem isI_own {w : World} {base : Nat} {v : Value} {xs : List Int} (h : OwnI w base v xs) : IsI w v xs := OwnE.reads_cap h
theorem isE_own {w : World} {base : Nat} {v : Value} {xs : List Ed} (h : OwnEd w base v xs) : IsE w v xs := OwnE.reads_cap h
theorem isG_of {w : World} {v u : Value} {g : Gr} (h1 : IsI w v g.ns) (h2 : IsE w u g.es) : IsG w (.agg #[v, u]) g := by
  obtain ⟨A, c, rfl, h3, h4⟩ := h1
  obtain ⟨A', c', rfl, h5, h6⟩ := h2
  exact ⟨A, c, A', c', rfl, h3, h5, h4, h6⟩
theorem isM_of {w : World} {v u : Value} {g : Mo} (h1 : IsI w v g.ns) (h2 : IsI w u g.es) : IsM w (.agg #[v, u]) g := by
  obtain ⟨A, c, rfl, h3, h4⟩ := h1
  obtain ⟨A', c', rfl, h5, h6⟩ := h2
  exact ⟨A, c, A', c', rfl, h3, h5, h4, h6⟩
theorem isI_nil (w : World) : IsI w (.slice none 0 0) [] := ⟨none, 0, rfl, .inl rfl, Nat.le_refl _, by unfold maxLen; omega⟩
theorem isE_nil (w : World) : IsE w (.slice none 0 0) [] := ⟨none, 0, rfl, .inl rfl, Nat.le_refl _, by unfold maxLen; omega⟩
theorem isG_nil (w : World) : IsG w (gval none 0 0 none 0 0) noG := isG_of (g := noG) (isI_nil w) (isE_nil w)
theorem isM_nil (w : World) : IsM w (gval none 0 0 none 0 0) noM := isM_of (g := noM) (isI_nil w) (isI_nil w)

theorem box_cell {w w1 : World} {u v : Value} {t : TypeId} (h : Below (w.heap.size + 1) (w.alloc (.cells #[u, v] t (0, 0))) w1) : w1.cell? ⟨w.heap.size, 0, none⟩ = some u ∧ w1.cell? ⟨w.heap.size, 1, none⟩ = some v :=
  ⟨(h.cell (p := ⟨w.heap.size, 0, none⟩) (Nat.lt_succ_self _)).trans (by simp), (h.cell (p := ⟨w.heap.size, 1, none⟩) (Nat.lt_succ_self _)).trans (by simp)⟩
theorem box_below {w w1 : World} {o : Obj} (h : Below (w.heap.size + 1) (w.alloc o) w1) : Below w.heap.size w w1 := ((Below.refl _ _).alloc (Nat.le_refl _) _).trans (h.mono (Nat.le_succ _))
theorem below_one' {w w1 : World} {o : Obj} (h : Below (w.alloc o).heap.size (w.alloc o) w1) : Below (w.heap.size + 1) (w.alloc o) w1 := h.mono (by simp)

theorem boxes2 {w w1 : World} {o o2 : Obj} (h : Below ((w.alloc o).alloc o2).heap.size ((w.alloc o).alloc o2) w1) : w1.heap[w.heap.size]? = some o ∧ w1.heap[w.heap.size + 1]? = some o2 ∧ w.heap.size + 2 ≤ w1.heap.size :=
  ⟨(h.block w.heap.size (by simp; omega)).trans (heap_two w o o2), (h.block (w.heap.size + 1) (by simp)).trans (heap_two' w o o2), by have := h.size; simpa using this⟩
theorem cell2 {w : World} {b : Nat} {u v : Value} {t : TypeId} (h : w.heap[b]? = some (.cells #[u, v] t (0, 0))) : w.cell? ⟨b, 0, none⟩ = some u ∧ w.cell? ⟨b, 1, none⟩ = some v :=
  ⟨cell_of_row _ _ _ _ _ _ h, cell_of_row _ _ _ _ _ _ h⟩
theorem cell3 {w : World} {b : Nat} {u v x : Value} {t : TypeId} (h : w.heap[b]? = some (.cells #[u, v, x] t (0, 0))) : w.cell? ⟨b, 0, none⟩ = some u ∧ w.cell? ⟨b, 1, none⟩ = some v ∧ w.cell? ⟨b, 2, none⟩ = some x :=
  ⟨cell_of_row _ _ _ _ _ _ h, cell_of_row _ _ _ _ _ _ h, cell_of_row _ _ _ _ _ _ h⟩
theorem heap_up {w w1 : World} {b : Nat} {o : Obj} (hb : Below w.heap.size w w1) (h : w.heap[b]? = some o) : w1.heap[b]? = some o := (hb.block b (Array.getElem?_eq_some_iff.1 h).1).trans h
theorem heap_lt {w : World} {b : Nat} {o : Obj} (h : w.heap[b]? = some o) : b < w.heap.size := (Array.getElem?_eq_some_iff.1 h).1

/-! isIndex, kind, isEdge, right -/
theorem isIndex_any (x : Int) (n : Nat) (w : World) : Calls Tryz.prog 52 #[.int .i64 x, .int .i64 (n : Int)] w fun e w' => e = .returned (.bool (idxB x n)) ∧ w = w' := by
  have H : Hid (idxB x n = (decide (0 ≤ x) && decide (x < (n : Int)))) := Lib.hid rfl
  by_cases h1 : 0 ≤ x
  · by_cases h2 : x < (n : Int)
    · go_enter Tryz.func52, Tryz.ntmps52
      go_wp2
      go_ret
      exact ⟨ret_bool (by rw [H.out, decide_eq_true h1, decide_eq_true h2]; rfl), rfl⟩
    · have h2' : (n : Int) ≤ x := by omega
      go_enter Tryz.func52, Tryz.ntmps52
      go_wp2
      go_ret
      exact ⟨ret_bool (by rw [H.out, decide_eq_true h1, decide_eq_false (p := x < (n : Int)) (by omega)]; rfl), rfl⟩
  · have h1' : x < 0 := by omega
    go_enter Tryz.func52, Tryz.ntmps52
    go_wp2
    go_ret
    exact ⟨ret_bool (by rw [H.out, decide_eq_false (p := 0 ≤ x) (by omega)]; rfl), rfl⟩
theorem kind_any (x : Int) (w : World) : Calls Tryz.prog 55 #[.int .i64 x] w fun e w' => e = .returned (.bool (idxB x 100)) ∧ w = w' := by
  have H : Hid (idxB x 100 = (decide (0 ≤ x) && decide (x < ((100 : Nat) : Int)))) := Lib.hid rfl
  by_cases h1 : 0 ≤ x
  · by_cases h2 : x ≤ 99
    · go_enter Tryz.func55, Tryz.ntmps55
      go_wp2
      go_ret
      exact ⟨ret_bool (by rw [H.out, decide_eq_true h1, decide_eq_true (by omega)]; rfl), rfl⟩
    · have h2' : 99 < x := by omega
      go_enter Tryz.func55, Tryz.ntmps55
      go_wp2
      go_ret
      exact ⟨ret_bool (by rw [H.out, decide_eq_true h1, decide_eq_false (p := x < ((100 : Nat) : Int)) (by omega)]; rfl), rfl⟩
  · have h1' : x < 0 := by omega
    go_enter Tryz.func55, Tryz.ntmps55
    go_wp2
    go_ret
    exact ⟨ret_bool (by rw [H.out, decide_eq_false (p := 0 ≤ x) (by omega)]; rfl), rfl⟩

end Go.Proofs.YthnhacncnhknnaaGreatDoor

/-
  Slices: Clone at ints and edges, Grow and Concat at ints, Equal at ints and edges, SameInts of the reference.
-/
namespace Go.Proofs.YthnhacncnhknnaaGreatDoor
open Go.RowKit

theorem reads_cells {α : Type} {E : El α} {w : World} {b off : Nat} {xs : List α} (hp : 0 < E.size) (h : ∀ i x, xs[i]? = some x → ∀ j u, (E.enc x)[j]? = some u → w.cell? ⟨b, off + i * E.size + j, none⟩ = some u) : ∀ j u, (cellsE E xs)[j]? = some u → w.cell? ⟨b, off + j, none⟩ = some u := by
  intro j u hu
  have hj : j < (cellsE E xs).length := by
    rcases Nat.lt_or_ge j (cellsE E xs).length with h1 | h1
    · exact h1
    · rw [List.getElem?_eq_none h1] at hu; cases hu
  rw [cellsE_length] at hj
  have hd : j / E.size < xs.length := (Nat.div_lt_iff_lt_mul hp).2 hj
  have hm : j % E.size < E.size := Nat.mod_lt _ hp
  have hx : xs[j / E.size]? = some xs[j / E.size] := List.getElem?_eq_getElem hd
  have hv : (E.enc xs[j / E.size])[j % E.size]? = some ((E.enc xs[j / E.size])[j % E.size]'(by rw [E.len]; exact hm)) := List.getElem?_eq_getElem _
  have h2 := cellsE_get E hx hv
  have e : j / E.size * E.size + j % E.size = j := by rw [Nat.mul_comm]; exact Nat.div_add_mod j E.size
  rw [e, hu] at h2
  have h3 := h _ _ hx _ _ hv
  rw [show off + j / E.size * E.size + j % E.size = off + j by omega] at h3
  rw [h3, h2]

theorem cloneI_nil (n c : Nat) (w : World) :
    Calls Tryz.prog 27 #[.slice none n c] w fun e w' => e = .returned (.slice none 0 0) ∧ w = w' := by
  have q22 : ∀ (w : World) (a : Option Addr) (n c n' c' : Nat), (binOp .eql 22 (.slice a n c) (.slice none n' c')).run Tryz.prog w = .ok (.bool a.isNone) w := fun w a n c n' c' => Lib.run_eql_slice_nil w _ _ a n c n' c' Tryz.underlying22
  go_enter Tryz.func27, Tryz.ntmps27
  go_wp2
  go_ret
  exact ⟨rfl, rfl⟩
set_option maxHeartbeats 2000000 in
set_option maxRecDepth 100000 in
theorem cloneI_some (xs : List (Int)) (ad : Addr) (c : Nat) (w : World) (hl : xs.length ≤ 1000000) (h : ∀ j u, (cellsE EInt xs)[j]? = some u → w.cell? (ad.add j) = some u) :
    Calls Tryz.prog 27 #[.slice (some ad) xs.length c] w fun e w' => ∃ v, e = .returned v ∧ OwnE EInt 3 w' w.heap.size v xs ∧ Below w.heap.size w w' := by
  have q22 : ∀ (w : World) (a : Option Addr) (n c n' c' : Nat), (binOp .eql 22 (.slice a n c) (.slice none n' c')).run Tryz.prog w = .ok (.bool a.isNone) w := fun w a n c n' c' => Lib.run_eql_slice_nil w _ _ a n c n' c' Tryz.underlying22
  obtain ⟨i0, hi, hz0, hz1, hz2⟩ := info_parts infoInt
  have HC := Lib.hid h
  clear h
  go_enter Tryz.func27, Tryz.ntmps27
  go_wp2_with (at_builtin; refine wpList_append_own _ rfl _ _ 22 rfl w.heap.size 3 i0 (.int .i64 0) 1 8 Tryz.underlying22 hi hz0 hz1 hz2 rfl (by decide) _ _ _ rfl (World.ownsRow_made w #[] 0 (Nat.le_refl _) (Nat.zero_le _) (by simp)) ad xs.length c (cellsE EInt xs) rfl ?qc1 ?qc2 ?qc3 ?qc4 ?qc5 ?qc6 ?_)
  case qc1 => exact cellsE_length EInt xs
  case qc2 =>
    intro j u hj
    exact (World.cell?_alloc_lt w _ _ (World.block_lt_of_cell? w _ (HC.out j u hj))).trans (HC.out j u hj)
  case qc3 => exact cellsE_one EInt xs
  case qc4 => unfold maxLen; omega
  case qc5 => omega
  case qc6 => simp
  intro v' w1 hown hgrow hnil
  go_wp2
  go_ret
  refine ⟨v', rfl, (by simpa using hown : w1.ownsRow w.heap.size 3 1 v' xs.length (cellsE EInt xs)), ?_⟩
  exact ((Below.refl _ w).alloc (Nat.le_refl _) _).grown hgrow (by simp) (by intro k hk; simp [Value.ownBlock] at hk; omega)
/-- a copy, in memory of the call's own -/
theorem cloneI_any (xs : List (Int)) (A : Option Addr) (B c : Nat) (w : World) (hl : xs.length ≤ 1000000) (hT : Reads EInt w B A xs) :
    Calls Tryz.prog 27 #[.slice A xs.length c] w fun e w' => ∃ v, e = .returned v ∧ OwnE EInt 3 w' w.heap.size v xs ∧ Below w.heap.size w w' := by
  have fin : ∀ e w', (∃ v, e = Ending.returned v ∧ OwnE EInt 3 w' w.heap.size v xs ∧ Below w.heap.size w w') → ∃ v, e = .returned v ∧ OwnE EInt 3 w' w.heap.size v xs ∧ Below w.heap.size w w' := by
    exact fun e w' h => h
  rcases hT with rfl | ⟨b, off, rfl, _, h⟩
  · rcases A with _ | ad
    · refine (cloneI_nil 0 c w).mono ?_
      rintro e w' ⟨rfl, rfl⟩
      exact ⟨_, rfl, OwnE.nil _ _ _, Below.refl _ _⟩
    · exact (cloneI_some [] ad c w (by simp) (by intro j u hj; simp [cellsE] at hj)).mono fin
  · refine (cloneI_some xs ⟨b, off, none⟩ c w hl (fun j u hu => ?_)).mono fin
    rw [addr_plain]
    exact reads_cells (by decide) h j u hu


set_option maxHeartbeats 1000000 in
theorem equal_any (xs ys : List Int) (A A' : Option Addr) (B B' c c' : Nat) (w : World) (hx : xs.length ≤ maxLen) (hA : Ints w B A xs) (hB : Ints w B' A' ys) :
    Calls Tryz.prog 16 #[.slice A xs.length c, .slice A' ys.length c'] w fun e w' => e = .returned (.bool (decide (xs = ys))) ∧ Below w.heap.size w w' := by
  unfold maxLen at hx
  by_cases hl : xs.length = ys.length
  · have t : ((xs.length : Int) != (ys.length : Int)) = false := by simp; omega
    have HA := Lib.hid hA
    have HB := Lib.hid hB
    have HLN := Lib.hid hl
    have hyl : ys.length ≤ xs.length := by omega
    have hxl : xs.length ≤ ys.length := by omega
    clear hA hB hl
    go_enter Tryz.func16, Tryz.ntmps16
    go_wp2
    go_loopw [13] (fun i wr => ∃ k q : Nat, k ≤ xs.length ∧ i = .int .i64 k ∧ wr = w.drewN q ∧ ∀ j, j < k → xs.getD j 0 = ys.getD j 0) (fun i _ => xs.length - (intOf i).toNat)
    case atStart => exact ⟨0, 0, Nat.zero_le _, rfl, rfl, fun j hj => by omega⟩
    case round =>
      obtain ⟨k, q, hk, rfl, rfl, hs⟩ := hrel
      have HS := Lib.hid hs
      clear hs
      by_cases hlt : k < xs.length
      · have hlt' : k < ys.length := by omega
        obtain ⟨b, off, rfl, hb, hc⟩ := Ints.cells HA.out hlt
        obtain ⟨b', off', rfl, hb', hd⟩ := Ints.cells HB.out hlt'
        have ck := hc k hlt
        have dk := hd k hlt'
        clear hc hd
        have hk0 : (0 : Int) ≤ (k : Int) := by omega
        have hk1 : (k : Int) < (xs.length : Int) := by omega
        have hk1' : (k : Int) < (ys.length : Int) := by omega
        have hk2 : ((k : Int)).toNat = k := by omega
        by_cases he : xs.getD k 0 = ys.getD k 0
        · have HE := Lib.hid he
          rw [he] at ck
          generalize ys.getD k 0 = y at ck dk
          clear he
          have t2 : (y != y) = false := by simp
          go_wp2_with fail
          go_quiet (fail)
          go_wp2_with fail
          go_roundw
          case rel => exact ⟨k + 1, _, by omega, by go_num, rfl, fun j hj => by
            by_cases e : j = k
            · subst e; exact HE.out
            · exact HS.out j (by omega)⟩
          case measure => simp [intOf]; omega
        · have H := Lib.hid (show decide (xs = ys) = false from decide_eq_false (fun h => he (by rw [h])))
          generalize xs.getD k 0 = x at ck he
          generalize ys.getD k 0 = y at dk he
          have t2 : (x != y) = true := by simp [bne, he]
          clear he
          go_wp2_with fail
          go_quiet (fail)
          go_wp2_with fail
          go_ret
          exact ⟨ret_bool (by rw [H.out]), below_draws (below_draws (Below.refl _ _) q) _⟩
      · have H := Lib.hid (show decide (xs = ys) = true from decide_eq_true (by
          apply List.ext_getElem HLN.out
          intro j h1 h2
          have := HS.out j (by omega)
          simpa [List.getD, h1, h2] using this))
        go_wp2
        go_ret
        exact ⟨ret_bool (by rw [H.out]), below_draws (Below.refl _ _) q⟩
  · have t : ((xs.length : Int) != (ys.length : Int)) = true := by simp; omega
    have H := Lib.hid (show decide (xs = ys) = false from decide_eq_false (fun h => hl (by rw [h])))
    clear hl hA hB
    go_enter Tryz.func16, Tryz.ntmps16
    go_wp2
    go_ret
    exact ⟨ret_bool (by rw [H.out]), Below.refl _ _⟩

set_option maxHeartbeats 1000000 in
theorem sameInts_any (xs ys : List Int) (A A' : Option Addr) (B B' c c' : Nat) (w : World) (hx : xs.length ≤ maxLen) (hA : Ints w B A xs) (hB : Ints w B' A' ys) :
    Calls Tryz.prog 39 #[.slice A xs.length c, .slice A' ys.length c'] w fun e w' => e = .returned (.bool (decide (xs = ys))) ∧ Below w.heap.size w w' := by
  unfold maxLen at hx
  by_cases hl : xs.length = ys.length
  · have t : ((xs.length : Int) != (ys.length : Int)) = false := by simp; omega
    have HA := Lib.hid hA
    have HB := Lib.hid hB
    have HLN := Lib.hid hl
    have hyl : ys.length ≤ xs.length := by omega
    have hxl : xs.length ≤ ys.length := by omega
    clear hA hB hl
    go_enter Tryz.func39, Tryz.ntmps39
    go_wp2
    go_loopw [5] (fun i wr => ∃ k q : Nat, k ≤ xs.length ∧ i = .int .i64 k ∧ wr = w.drewN q ∧ ∀ j, j < k → xs.getD j 0 = ys.getD j 0) (fun i _ => xs.length - (intOf i).toNat)
    case atStart => exact ⟨0, 0, Nat.zero_le _, rfl, rfl, fun j hj => by omega⟩
    case round =>
      obtain ⟨k, q, hk, rfl, rfl, hs⟩ := hrel
      have HS := Lib.hid hs
      clear hs
      by_cases hlt : k < xs.length
      · have hlt' : k < ys.length := by omega
        obtain ⟨b, off, rfl, hb, hc⟩ := Ints.cells HA.out hlt
        obtain ⟨b', off', rfl, hb', hd⟩ := Ints.cells HB.out hlt'
        have ck := hc k hlt
        have dk := hd k hlt'
        clear hc hd
        have hk0 : (0 : Int) ≤ (k : Int) := by omega
        have hk1 : (k : Int) < (xs.length : Int) := by omega
        have hk1' : (k : Int) < (ys.length : Int) := by omega
        have hk2 : ((k : Int)).toNat = k := by omega
        by_cases he : xs.getD k 0 = ys.getD k 0
        · have HE := Lib.hid he
          rw [he] at ck
          generalize ys.getD k 0 = y at ck dk
          clear he
          have t2 : (y != y) = false := by simp
          go_wp2_with fail
          go_quiet (fail)
          go_wp2_with fail
          go_roundw
          case rel => exact ⟨k + 1, _, by omega, by go_num, rfl, fun j hj => by
            by_cases e : j = k
            · subst e; exact HE.out
            · exact HS.out j (by omega)⟩
          case measure => simp [intOf]; omega
        · have H := Lib.hid (show decide (xs = ys) = false from decide_eq_false (fun h => he (by rw [h])))
          generalize xs.getD k 0 = x at ck he
          generalize ys.getD k 0 = y at dk he
          have t2 : (x != y) = true := by simp [bne, he]
          clear he
          go_wp2_with fail
          go_quiet (fail)
          go_wp2_with fail
          go_ret
          exact ⟨ret_bool (by rw [H.out]), below_draws (below_draws (Below.refl _ _) q) _⟩
      · have H := Lib.hid (show decide (xs = ys) = true from decide_eq_true (by
          apply List.ext_getElem HLN.out
          intro j h1 h2
          have := HS.out j (by omega)
          simpa [List.getD, h1, h2] using this))
        go_wp2
        go_ret
        exact ⟨ret_bool (by rw [H.out]), below_draws (Below.refl _ _) q⟩
  · have t : ((xs.length : Int) != (ys.length : Int)) = true := by simp; omega
    have H := Lib.hid (show decide (xs = ys) = false from decide_eq_false (fun h => hl (by rw [h])))
    clear hl hA hB
    go_enter Tryz.func39, Tryz.ntmps39
    go_wp2
    go_ret
    exact ⟨ret_bool (by rw [H.out]), Below.refl _ _⟩

end Go.Proofs.YthnhacncnhknnaaGreatDoor

/-
  combine: all lists of images of the edges, handed over in their order; the lists so far share their backing arrays.
-/
namespace Go.Proofs.YthnhacncnhknnaaGreatDoor
open Go.RowKit Go.Shelf

attribute [local go_sem] Oper.semAt_some

/-- append of one int: the old slice reads as before -/
theorem run_append_both {w : World} (ty : TypeId) (base : Nat) (v : Value) (xs : List Int) (hown : OwnI w base v xs) (g c : Nat) (m : Int) (hc : w.cell? ⟨g, 0, none⟩ = some (.int .i64 m)) (hl : xs.length ≤ 1000000) (hbase : base ≤ w.heap.size) :
    ∃ v' w', (Builtin.append_ #[22, 22] ty #[v, .slice (some ⟨g, 0, none⟩) 1 c]).run Tryz.prog w = .ok v' w' ∧ OwnI w' base v' (xs ++ [m]) ∧ OwnI w' base v xs ∧ w.grownBy w' v.ownBlock ∧
      ((v'.ownBlock = v.ownBlock ∧ ∀ u : World, OwnI u base v' (xs ++ [m]) → OwnI u base v xs) ∨ ∃ h, v'.ownBlock = some h ∧ w.heap.size ≤ h) := by
  obtain ⟨i0, hi, hz0, hz1, hz2⟩ := info_parts infoInt
  have hnews : ∀ j u, (EInt.enc m)[j]? = some u → w.cell? ((⟨g, 0, none⟩ : Addr).add j) = some u := fun j u hj => by
    cases j with
    | zero => rw [addr_plain]; simp [EInt] at hj; subst hj; exact hc
    | succ j => simp [EInt] at hj
  have hcat : ∀ u b, u.ownsRow base 3 1 b (xs.length + 1) (cellsE EInt xs ++ EInt.enc m) → OwnI u base b (xs ++ [m]) := fun u b h => by
    unfold OwnI OwnE
    rw [cellsE_snoc, List.length_append]
    exact h
  have hb2 : (xs.length + 1) * 8 ≤ 140737488355328 := by omega
  rcases hown.2 with ⟨hv, h0⟩ | ⟨g0, cap, cur, hv, hbg, hg, hnc, hcm, hcs, htk⟩
  · have hx : xs = [] := List.length_eq_zero_iff.1 h0
    subst hv hx
    obtain ⟨v', w', h1, h2, h3, _⟩ := run_append_own (P := Tryz.prog) w w.heap.size 22 ty 3 i0 _ 1 8 Tryz.underlying22 hi hz0 hz1 hz2 rfl (by decide) (.slice none 0 0) 0 [] (World.ownsRow_nil w _ _ _) ⟨g, 0, none⟩ 1 c (EInt.enc m) rfl hnews (EInt.one m) (by unfold maxLen; omega) (by omega) (Nat.le_refl _)
    have h2' : OwnI w' w.heap.size v' [m] := h2
    obtain ⟨h, c', e, hh, _⟩ := OwnE.pos h2' (by simp)
    exact ⟨v', w', h1, OwnE.mono h2' hbase, OwnE.nil _ _ _, h3, .inr ⟨h, by rw [e]; rfl, hh⟩⟩
  · subst hv
    by_cases hr : xs.length + 1 ≤ cap
    · obtain ⟨w', h1, h2, h3⟩ := run_append_fits (P := Tryz.prog) w base 22 ty 3 i0 1 Tryz.underlying22 hi hz1 g0 xs.length cap (cellsE EInt xs) hown ⟨g, 0, none⟩ 1 c (EInt.enc m) rfl hnews (EInt.one m) hr
      have hback : ∀ u : World, OwnI u base (.slice (some ⟨g0, 0, none⟩) (xs.length + 1) cap) (xs ++ [m]) → OwnI u base (.slice (some ⟨g0, 0, none⟩) xs.length cap) xs := fun u hu => by
        unfold OwnI OwnE at hu ⊢
        rcases hu.2 with ⟨hv, _⟩ | ⟨g1, cap1, cur1, hv, hbg1, hg1, hnc1, hcm1, hcs1, htk1⟩
        · cases hv
        · injection hv with e1 e2 e3
          injection e1 with e1
          injection e1 with e1 _ _
          subst e1 e3
          refine ⟨hown.1, .inr ⟨g0, cap, cur1, rfl, hbg1, hg1, by omega, hcm1, hcs1, ?_⟩⟩
          have h4 := congrArg (List.take (xs.length * 1)) htk1
          have e4 : (cellsE EInt xs).length = xs.length * 1 := cellsE_length EInt xs
          rw [cellsE_snoc, List.take_take, List.take_append_of_le_length (by rw [e4]; exact Nat.le_refl _), ← e4, List.take_length] at h4
          have e5 : min (cellsE EInt xs).length ((xs ++ [m]).length * EInt.size) = (cellsE EInt xs).length := by rw [e4, List.length_append]; show min (xs.length * 1) ((xs.length + 1) * 1) = _; omega
          rw [e5] at h4
          show List.take (xs.length * 1) cur1.toList = _
          rw [← e4]
          exact h4
      have h5 := hcat _ _ h2
      exact ⟨_, w', h1, h5, hback _ h5, h3, .inl ⟨rfl, hback⟩⟩
    · have hlen : (cellsE EInt xs).length = xs.length * 1 := cellsE_length EInt xs
      obtain ⟨A', c', e', hR, _, _⟩ := OwnE.reads_cap hown
      have hcells : ∀ j u, (cellsE EInt xs)[j]? = some u → w.cell? ((⟨g0, 0, none⟩ : Addr).add j) = some u := fun j u hj => by
        have hjl := (List.getElem?_eq_some_iff.1 hj).1
        rw [addr_plain, Nat.zero_add, cell_of_row _ _ _ _ _ _ hg, ← Array.getElem?_toList]
        have : (cur.toList.take (xs.length * 1))[j]? = some u := by
          have h6 := htk
          show (cur.toList.take (xs.length * EInt.size))[j]? = some u
          rw [h6]; exact hj
        rw [List.getElem?_take_of_lt (by omega)] at this
        exact this
      obtain ⟨v', w', h1, h2, h3⟩ := run_append_arg_grows (P := Tryz.prog) w 22 ty 3 i0 _ 1 8 Tryz.underlying22 hi hz0 hz1 hz2 rfl (by decide) ⟨g0, 0, none⟩ xs.length cap (cellsE EInt xs) hlen hcells ⟨g, 0, none⟩ 1 c (EInt.enc m) rfl hnews (by omega) (by unfold maxLen; omega) hb2
      have h2' : OwnI w' w.heap.size v' (xs ++ [m]) := by
        unfold OwnI OwnE
        rw [cellsE_snoc, List.length_append]
        exact h2
      obtain ⟨h, c2, e, hh, _⟩ := OwnE.pos h2' (by simp)
      refine ⟨v', w', h1, OwnE.mono h2' hbase, OwnE.kept hown h3 (.inr (by simp [Value.ownBlock])), ⟨h3.os, h3.tape, h3.output, h3.size, fun k hk _ => h3.block k hk (by simp)⟩, .inr ⟨h, by rw [e]; rfl, hh⟩⟩
theorem wpListIn_append_both {F : Fence} {n : Nat} {w : World} {ops : Array Oper} {rest : List Oper} {o : Oper} {a : Act} {Q : Exit → Act → World → Prop} (hgd : o.guard = none) (s x : Operand)
    (ho : o.op = .call { callee := .builtin .append, args := #[s, x], argTypes := #[22, 22] }) (base : Nat) (v : Value) (xs : List Int) (hs : a.eval s = v) (hown : OwnI w base v xs) (g c : Nat) (m : Int) (hx : a.eval x = .slice (some ⟨g, 0, none⟩) 1 c)
    (hc : w.cell? ⟨g, 0, none⟩ = some (.int .i64 m)) (hl : xs.length ≤ 1000000) (hbase : base ≤ w.heap.size)
    (hK : ∀ v' w', OwnI w' base v' (xs ++ [m]) → OwnI w' base v xs → w.grownBy w' v.ownBlock → ((v'.ownBlock = v.ownBlock ∧ ∀ u : World, OwnI u base v' (xs ++ [m]) → OwnI u base v xs) ∨ ∃ h, v'.ownBlock = some h ∧ w.heap.size ≤ h) → wpListIn F n Tryz.prog ops Q rest (a.put o.dst v') w') :
    wpListIn F n Tryz.prog ops Q (o :: rest) a w := by
  refine wpListIn_plain hgd fun K hK' => ?_
  obtain ⟨v', w', hrun, r1, r2, r3, r4⟩ := run_append_both o.type base v xs hown g c m hc hl hbase
  unfold Oper.wpIn
  refine ⟨?_, ?_⟩
  · simp [Oper.about, ho, resolve, Target.leads, Sem.run_pure]
  · rw [Oper.semAt_plain F _ _ (by rw [ho]; intro c hc'; cases hc')]
    simp [execOp, ho, resolve, invoke, builtin, hs, hx, hrun, Result.andThen]
    exact hK' _ _ (hK v' w' r1 r2 r3 r4)

theorem OwnE.same {α : Type} {E : El α} {t : TypeId} {w w' : World} {base : Nat} {v : Value} {xs : List α} (h : OwnE E t w base v xs) (hb : ∀ g, v.ownBlock = some g → w'.heap[g]? = w.heap[g]?) : OwnE E t w' base v xs := by
  refine ⟨h.1, ?_⟩
  rcases h.2 with hn | ⟨g, cap, cur, hv, hbg, hg, rest⟩
  · exact .inl hn
  · exact .inr ⟨g, cap, cur, hv, hbg, by rw [hb g (by rw [hv]; rfl)]; exact hg, rest⟩
end Go.Proofs.YthnhacncnhknnaaGreatDoor

/-
  Graphs: Valid, of the program and the reference.
-/
namespace Go.Proofs.YthnhacncnhknnaaGreatDoor
open Go.RowKit

abbrev edv (x : Ed) : Value := .agg #[.int .i64 x.ty, .int .i64 x.fr, .int .i64 x.tq]
theorem edB_and (x : Ed) (n : Nat) : edB x n = (idxB x.ty 100 && idxB x.fr n && idxB x.tq n) := rfl

set_option maxHeartbeats 1000000 in
theorem isEdge_any (x : Ed) (An : Option Addr) (n cn : Nat) (Ae : Option Addr) (m ce : Nat) (w : World) :
    Calls Tryz.prog 53 #[gval An n cn Ae m ce, edv x] w fun e w' => e = .returned (.bool (edB x n)) ∧ Below w.heap.size w w' := by
  have HX := Lib.hid (edB_and x n)
  have H1 : Hid (∀ u, Calls Tryz.prog 52 #[.int .i64 x.ty, .int .i64 100] u fun e w' => e = .returned (.bool (idxB x.ty 100)) ∧ u = w') := Lib.hid fun u => isIndex_any x.ty 100 u
  have H2 := Lib.hid (fun u => isIndex_any x.fr n u)
  have H3 := Lib.hid (fun u => isIndex_any x.tq n u)
  have HB : Hid (∀ o o', Below w.heap.size w ((w.alloc o).alloc o')) := Lib.hid fun o o' => ((Below.refl _ _).alloc (Nat.le_refl _) _).alloc (by simp) _
  obtain ⟨ty, fr, tq⟩ := x
  dsimp only at H1 H2 H3 HX ⊢
  generalize edB ⟨ty, fr, tq⟩ n = z at HX ⊢
  generalize idxB ty 100 = z1 at HX H1
  generalize idxB fr n = z2 at HX H2
  generalize idxB tq n = z3 at HX H3
  go_enter Tryz.func53, Tryz.ntmps53
  go_wp2_with fail
  refine (H1.out _).mono ?_
  rintro e w' ⟨rfl, rfl⟩
  cases z1
  · go_wp2_with fail
    go_ret
    exact ⟨ret_bool (by rw [HX.out]; rfl), HB.out _ _⟩
  · go_wp2_with fail
    refine (H2.out _).mono ?_
    rintro e w' ⟨rfl, rfl⟩
    cases z2
    · go_wp2_with fail
      go_ret
      exact ⟨ret_bool (by rw [HX.out]; rfl), HB.out _ _⟩
    · go_wp2_with fail
      refine (H3.out _).mono ?_
      rintro e w' ⟨rfl, rfl⟩
      go_wp2_with fail
      go_ret
      exact ⟨ret_bool (by rw [HX.out]; rfl), HB.out _ _⟩

set_option maxHeartbeats 1000000 in
theorem right_any (x : Ed) (n : Nat) (w : World) :
    Calls Tryz.prog 56 #[edv x, .int .i64 (n : Int)] w fun e w' => e = .returned (.bool (edB x n)) ∧ Below w.heap.size w w' := by
  have HX := Lib.hid (edB_and x n)
  have H1 : Hid (∀ u, Calls Tryz.prog 55 #[.int .i64 x.ty] u fun e w' => e = .returned (.bool (idxB x.ty 100)) ∧ u = w') := Lib.hid fun u => kind_any x.ty u
  have H2 : Hid (idxB x.fr n = (decide (0 ≤ x.fr) && decide (x.fr < (n : Int)))) := Lib.hid rfl
  have H3 : Hid (idxB x.tq n = (decide (0 ≤ x.tq) && decide (x.tq < (n : Int)))) := Lib.hid rfl
  have HB : Hid (∀ o, Below w.heap.size w (w.alloc o)) := Lib.hid fun o => (Below.refl _ _).alloc (Nat.le_refl _) _
  obtain ⟨ty, fr, tq⟩ := x
  dsimp only at H1 H2 H3 HX ⊢
  generalize edB ⟨ty, fr, tq⟩ n = z at HX ⊢
  generalize idxB ty 100 = z1 at HX H1
  cases z1
  · go_enter Tryz.func56, Tryz.ntmps56
    go_wp2_with fail
    refine (H1.out _).mono ?_
    rintro e w' ⟨rfl, rfl⟩
    go_wp2_with fail
    go_ret
    exact ⟨ret_bool (by rw [HX.out]; rfl), HB.out _⟩
  by_cases h1 : 0 ≤ fr
  case neg =>
    have t1 : decide (0 ≤ fr) = false := decide_eq_false h1
    rw [t1] at H2
    go_enter Tryz.func56, Tryz.ntmps56
    go_wp2_with fail
    refine (H1.out _).mono ?_
    rintro e w' ⟨rfl, rfl⟩
    go_wp2_with fail
    go_ret
    exact ⟨ret_bool (by rw [HX.out, H2.out]; rfl), HB.out _⟩
  by_cases h2 : fr < (n : Int)
  case neg =>
    have t1 : decide (0 ≤ fr) = true := decide_eq_true h1
    have t2 : decide (fr < (n : Int)) = false := decide_eq_false h2
    rw [t1, t2] at H2
    go_enter Tryz.func56, Tryz.ntmps56
    go_wp2_with fail
    refine (H1.out _).mono ?_
    rintro e w' ⟨rfl, rfl⟩
    go_wp2_with fail
    go_ret
    exact ⟨ret_bool (by rw [HX.out, H2.out]; rfl), HB.out _⟩
  by_cases h3 : 0 ≤ tq
  case neg =>
    have t1 : decide (0 ≤ fr) = true := decide_eq_true h1
    have t2 : decide (fr < (n : Int)) = true := decide_eq_true h2
    have t3 : decide (0 ≤ tq) = false := decide_eq_false h3
    rw [t1, t2] at H2
    rw [t3] at H3
    go_enter Tryz.func56, Tryz.ntmps56
    go_wp2_with fail
    refine (H1.out _).mono ?_
    rintro e w' ⟨rfl, rfl⟩
    go_wp2_with fail
    go_ret
    exact ⟨ret_bool (by rw [HX.out, H2.out, H3.out]; rfl), HB.out _⟩
  have t1 : decide (0 ≤ fr) = true := decide_eq_true h1
  have t2 : decide (fr < (n : Int)) = true := decide_eq_true h2
  have t3 : decide (0 ≤ tq) = true := decide_eq_true h3
  rw [t1, t2] at H2
  rw [t3] at H3
  go_enter Tryz.func56, Tryz.ntmps56
  go_wp2_with fail
  refine (H1.out _).mono ?_
  rintro e w' ⟨rfl, rfl⟩
  go_wp2_with fail
  go_ret
  exact ⟨ret_bool (by rw [HX.out, H2.out, H3.out]; rfl), HB.out _⟩

set_option maxRecDepth 100000 in
set_option maxHeartbeats 2000000 in
theorem validP_any (g : Gr) (An : Option Addr) (cn : Nat) (Ae : Option Addr) (ce : Nat) (w : World) (hT : GrAt w An cn Ae ce g) :
    Calls Tryz.prog 34 #[gval An g.ns.length cn Ae g.es.length ce] w fun e w' => e = .returned (.int .i64 (validE g)) ∧ Below w.heap.size w w' := by
  have hn1 := hT.cn
  have he1 := hT.ce
  unfold maxLen at hn1 he1
  have HT := Lib.hid hT
  have HL := Lib.hid (fun h => valid_long (g := g) h)
  have HN := Lib.hid (fun h1 h2 i hi h => valid_node (g := g) h1 h2 (i := i) hi h)
  have HE := Lib.hid (fun h1 h2 i hi h => valid_edge (g := g) h1 h2 (i := i) hi h)
  have HO := Lib.hid (fun h1 h2 h3 h4 => valid_ok (g := g) h1 h2 h3 h4)
  clear hT
  generalize validE g = R at HL HN HE HO ⊢
  by_cases h40 : 40 < g.ns.length
  · have HR := Lib.hid (HL.out (.inl h40))
    have t1 : decide (40 < (g.ns.length : Int)) = true := decide_eq_true (by omega)
    go_enter Tryz.func34, Tryz.ntmps34
    go_wp2_with fail
    go_ret
    exact ⟨ret_int (by rw [HR.out]; rfl), (Below.refl _ _).alloc (Nat.le_refl _) _⟩
  by_cases h80 : 80 < g.es.length
  · have HR := Lib.hid (HL.out (.inr h80))
    have t1 : decide (40 < (g.ns.length : Int)) = false := decide_eq_false (by omega)
    have t2 : decide (80 < (g.es.length : Int)) = true := decide_eq_true (by omega)
    go_enter Tryz.func34, Tryz.ntmps34
    go_wp2_with fail
    go_ret
    exact ⟨ret_int (by rw [HR.out]; rfl), (Below.refl _ _).alloc (Nat.le_refl _) _⟩
  have n40 : g.ns.length ≤ 40 := by omega
  have n80 : g.es.length ≤ 80 := by omega
  have HN' := Lib.hid (HN.out n40 n80)
  have HE' := Lib.hid (HE.out n40 n80)
  have HO' := Lib.hid (HO.out n40 n80)
  clear HL HN HE HO
  have t1 : decide (40 < (g.ns.length : Int)) = false := decide_eq_false (by omega)
  have t2 : decide (80 < (g.es.length : Int)) = false := decide_eq_false (by omega)
  clear h40 h80
  go_enter Tryz.func34, Tryz.ntmps34
  go_wp2_with fail
  clear t1 t2
  go_loop [20] (fun i => ∃ k : Nat, k ≤ g.ns.length ∧ i = .int .i64 k ∧ ∀ j, j < k → idxB (g.ns.getD j 0) 100 = true) (fun i => g.ns.length - (intOf i).toNat)
  case atStart => exact ⟨0, Nat.zero_le _, rfl, fun j hj => by omega⟩
  case round =>
    obtain ⟨k, hk, rfl, hok⟩ := hrel
    have HK := Lib.hid hok
    clear hok
    by_cases hlt : k < g.ns.length
    · obtain ⟨b, off, rfl, hb, hc⟩ := Ints.cells HT.out.ns hlt
      have ck := hc k hlt
      have HC : Hid (∀ u, Calls Tryz.prog 52 #[.int .i64 (g.ns.getD k 0), .int .i64 100] u fun e w' => e = .returned (.bool (idxB (g.ns.getD k 0) 100)) ∧ u = w') := Lib.hid fun u => isIndex_any _ 100 u
      clear hc
      by_cases h1 : idxB (g.ns.getD k 0) 100 = true
      · have HK2 : Hid (∀ j, j < k + 1 → idxB (g.ns.getD j 0) 100 = true) := Lib.hid fun j hj => by
          by_cases e : j = k
          · subst e; exact h1
          · exact HK.out j (by omega)
        rw [h1] at HC
        clear h1
        generalize g.ns.getD k 0 = x at ck HC
        go_wp2_with fail
        refine (HC.out _).mono ?_
        rintro e w' ⟨rfl, rfl⟩
        go_wp2_with fail
        go_round
        case rel => exact ⟨k + 1, by omega, by go_num, HK2.out⟩
        case measure => simp [intOf]; omega
      · have h1' : idxB (g.ns.getD k 0) 100 = false := by simpa using h1
        have HR := Lib.hid (HN'.out k hlt h1')
        rw [h1'] at HC
        clear h1 h1'
        generalize g.ns.getD k 0 = x at ck HC
        go_wp2_with fail
        refine (HC.out _).mono ?_
        rintro e w' ⟨rfl, rfl⟩
        go_wp2_with fail
        go_ret
        exact ⟨ret_int (by rw [HR.out]; rfl), (Below.refl _ _).alloc (Nat.le_refl _) _⟩
    · have HO2 := Lib.hid (HO'.out fun i hi => HK.out i (by omega))
      clear HO' HK
      go_wp2_with fail
      go_loopw [31] (fun i wr => ∃ k : Nat, k ≤ g.es.length ∧ i = .int .i64 k ∧ (∀ j, j < k → edB (g.es.getD j default) g.ns.length = true) ∧ Below (w.heap.size + 1) (w.alloc (.cells #[.slice An g.ns.length cn, .slice Ae g.es.length ce] 25 (0, 0))) wr) (fun i _ => g.es.length - (intOf i).toNat)
      case atStart => exact ⟨0, Nat.zero_le _, rfl, fun j hj => by omega, Below.refl _ _⟩
      case round =>
        obtain ⟨k, hk, rfl, hok, hbel⟩ := hrel
        obtain ⟨c0, c1⟩ := box_cell hbel
        have hsz : w.heap.size + 1 ≤ wr.heap.size := by have := hbel.size; simpa using this
        have hs0 : w.heap.size < wr.heap.size := by omega
        have HB := Lib.hid hbel
        have HK := Lib.hid hok
        clear hok hbel
        by_cases hlt : k < g.es.length
        · obtain ⟨b, off, rfl, hb, hc⟩ := Eds.cells (HT.out.es.below (box_below HB.out)) hlt
          obtain ⟨k0, k1, k2⟩ := hc k hlt
          have HC := Lib.hid (fun u => isEdge_any (g.es.getD k default) An g.ns.length cn (some ⟨b, off, none⟩) g.es.length ce u)
          have hbw : b < wr.heap.size := by omega
          clear hc
          by_cases h1 : edB (g.es.getD k default) g.ns.length = true
          · have HK2 : Hid (∀ j, j < k + 1 → edB (g.es.getD j default) g.ns.length = true) := Lib.hid fun j hj => by
              by_cases e : j = k
              · subst e; exact h1
              · exact HK.out j (by omega)
            rw [h1] at HC
            clear h1
            generalize g.es.getD k default = x at k0 k1 k2 HC
            go_wp2_with fail
            refine (HC.out _).mono ?_
            rintro e w2 ⟨rfl, hb2⟩
            have HB2 := Lib.hid ((HB.out.alloc hsz _).trans (hb2.mono (by simp; omega)))
            clear hb2
            go_wp2_with fail
            go_roundw
            case rel => exact ⟨k + 1, by omega, by go_num, HK2.out, HB2.out⟩
            case measure => simp [intOf]; omega
          · have h1' : edB (g.es.getD k default) g.ns.length = false := by simpa using h1
            have HR := Lib.hid (HE'.out k hlt h1')
            rw [h1'] at HC
            clear h1 h1'
            generalize g.es.getD k default = x at k0 k1 k2 HC
            go_wp2_with fail
            refine (HC.out _).mono ?_
            rintro e w2 ⟨rfl, hb2⟩
            have HB2 := Lib.hid ((HB.out.alloc hsz _).trans (hb2.mono (by simp; omega)))
            clear hb2
            go_wp2_with fail
            go_ret
            exact ⟨ret_int (by rw [HR.out]; rfl), box_below HB2.out⟩
        · have HR := Lib.hid (HO2.out fun i hi => HK.out i (by omega))
          go_wp2_with fail
          go_ret
          exact ⟨ret_int (by rw [HR.out]; rfl), box_below HB.out⟩

end Go.Proofs.YthnhacncnhknnaaGreatDoor

/-
  DERIVED: THE SHELF's CONTRACTS AT THIS DUMP, IN PLAIN WORDS (tools/lay-plain.mjs out of 'TryzShelf.lean', which tools/lay-shelf.mjs wrote): THE SAME DECLARATIONS UNDER THE SAME NAMES: 'import', 'namespace', 'open', 'def', 'theorem' AND NOTHING ELSE: no command of the shelf's: FOR A HAND-IN. Each laying: the table of numbers ('.._ren') and one theorem, a field a fact of the dump's own or the kernel's comparison; each contract: ONE APPLICATION.
-/
namespace Go.Proofs
open Go.Shelf
def Tryz.lays128_ren : Go.Shelf.Ren := ⟨fun | 128 => 80 | n => n, fun | 51 => 91 | 3 => 3 | 4 => 4 | 46 => 68 | 5 => 5 | 9 => 9 | n => n, fun | n => n⟩
theorem Tryz.lays128 : Go.Proofs.Lays.n128 Tryz.prog Tryz.lays128_ren := {
  mixed := by kernel_rfl
  f128 := Tryz.func80.trans (congrArg some (by kernel_rfl))
  t3 := Tryz.underlying3
  a3 := Tryz.isAgg3
  z3 := Tryz.sizeOf3
  v3 := Tryz.zeroValue3
  t4 := Tryz.underlying4
  a4 := Tryz.isAgg4
  z4 := Tryz.sizeOf4
  v4 := Tryz.zeroValue4
  t5 := Tryz.underlying5
  a5 := Tryz.isAgg5
  z5 := Tryz.sizeOf5
  v5 := Tryz.zeroValue5
  t9 := Tryz.underlying9
  a9 := Tryz.isAgg9
  z9 := Tryz.sizeOf9
  v9 := Tryz.zeroValue9
  t46 := Tryz.underlying68
  a46 := Tryz.isAgg68
  z46 := Tryz.sizeOf68
  v46 := Tryz.zeroValue68
  t51 := Tryz.underlying91
  a51 := Tryz.isAgg91
  z51 := Tryz.sizeOf91
  v51 := Tryz.zeroValue91 }
/-- bits.Len32: "Len32 returns the minimum number of bits required tq represent x; the result is 0 for x == 0.": IT RETURNS 'Lib.bitLen x'; the world is as it was. ('h0', 'h1': x is a uint32.) (LAID: no walk: one application.) -/
theorem Tryz.bits_Len32 (x : Int) (w : World) (h0 : 0 ≤ x) (h1 : x ≤ 4294967295) :
    Calls Tryz.prog 80 #[.int .u32 x] w fun e w' => e = .returned (.int .i64 (Lib.bitLen x.toNat)) ∧ w' = w := Any.bits_Len32 Tryz.lays128 x w h0 h1
def Tryz.lays125_ren : Go.Shelf.Ren := ⟨fun | 125 => 60 | 128 => 80 | 129 => 81 | n => n, fun | 46 => 68 | 3 => 3 | 51 => 91 | 53 => 93 | 4 => 4 | 5 => 5 | 9 => 9 | n => n, fun | n => n⟩
theorem Tryz.lays125 : Go.Proofs.Lays.n125 Tryz.prog Tryz.lays125_ren := {
  mixed := by kernel_rfl
  f125 := Tryz.func60.trans (congrArg some (by kernel_rfl))
  f128 := Tryz.func80.trans (congrArg some (by kernel_rfl))
  f129 := Tryz.func81.trans (congrArg some (by kernel_rfl))
  t3 := Tryz.underlying3
  a3 := Tryz.isAgg3
  z3 := Tryz.sizeOf3
  v3 := Tryz.zeroValue3
  t4 := Tryz.underlying4
  a4 := Tryz.isAgg4
  z4 := Tryz.sizeOf4
  v4 := Tryz.zeroValue4
  t5 := Tryz.underlying5
  a5 := Tryz.isAgg5
  z5 := Tryz.sizeOf5
  v5 := Tryz.zeroValue5
  t9 := Tryz.underlying9
  a9 := Tryz.isAgg9
  z9 := Tryz.sizeOf9
  v9 := Tryz.zeroValue9
  t46 := Tryz.underlying68
  a46 := Tryz.isAgg68
  z46 := Tryz.sizeOf68
  v46 := Tryz.zeroValue68
  t51 := Tryz.underlying91
  a51 := Tryz.isAgg91
  z51 := Tryz.sizeOf91
  v51 := Tryz.zeroValue91
  t53 := Tryz.underlying93
  a53 := Tryz.isAgg93
  z53 := Tryz.sizeOf93
  v53 := Tryz.zeroValue93 }
/-- bits.Len: "Len returns the minimum number of bits required tq represent x; the result is 0 for x == 0.": IT RETURNS 'Lib.bitLen x'; the world is as it was. (A uint has 64 bits in the model.) ITS CALLEE bits.Len64 IS MET BY ITS OWN CONTRACT OFF THE SHELF (lay that first). (LAID: no walk: one application.) -/
theorem Tryz.bits_Len (x : Int) (w : World) (h0 : 0 ≤ x) (h1 : x ≤ 18446744073709551615) :
    Calls Tryz.prog 60 #[.int .u64 x] w fun e w' => e = .returned (.int .i64 (Lib.bitLen x.toNat)) ∧ w' = w := Any.bits_Len Tryz.lays125 x w h0 h1
def Tryz.lays215_ren : Go.Shelf.Ren := ⟨fun | 215 => 82 | n => n, fun | 3 => 3 | 4 => 4 | n => n, fun | n => n⟩
theorem Tryz.lays215 : Go.Proofs.Lays.n215 Tryz.prog Tryz.lays215_ren := {
  mixed := by kernel_rfl
  f215 := Tryz.func82.trans (congrArg some (by kernel_rfl))
  t3 := Tryz.underlying3
  a3 := Tryz.isAgg3
  z3 := Tryz.sizeOf3
  v3 := Tryz.zeroValue3
  t4 := Tryz.underlying4
  a4 := Tryz.isAgg4
  z4 := Tryz.sizeOf4
  v4 := Tryz.zeroValue4 }
open Go.RowKit in
/-- cmp.isNaN at int: 'x != x': false. (LAID: no walk: one application.) -/
theorem Tryz.cmp_isNaN_int (x : Int) (w : World) :
    Calls Tryz.prog 82 #[.int .i64 x] w fun e w' => e = .returned (.bool false) ∧ w' = w := Any.cmp_isNaN_int Tryz.lays215 x w
def Tryz.lays122_ren : Go.Shelf.Ren := ⟨fun | 122 => 62 | 215 => 82 | n => n, fun | 3 => 3 | 4 => 4 | n => n, fun | n => n⟩
theorem Tryz.lays122 : Go.Proofs.Lays.n122 Tryz.prog Tryz.lays122_ren := {
  mixed := by kernel_rfl
  f122 := Tryz.func62.trans (congrArg some (by kernel_rfl))
  f215 := Tryz.func82.trans (congrArg some (by kernel_rfl))
  t3 := Tryz.underlying3
  a3 := Tryz.isAgg3
  z3 := Tryz.sizeOf3
  v3 := Tryz.zeroValue3
  t4 := Tryz.underlying4
  a4 := Tryz.isAgg4
  z4 := Tryz.sizeOf4
  v4 := Tryz.zeroValue4 }
open Go.RowKit in
/-- cmp.Compare at int: "Compare returns -1 if x is less than y, 0 if x equals y, +1 if x is greater than y.": IT RETURNS 'Lib.compareInt x y'; the world is as it was. (LAID: no walk: one application.) -/
theorem Tryz.cmp_Compare_int (x y : Int) (w : World) :
    Calls Tryz.prog 62 #[.int .i64 x, .int .i64 y] w fun e w' => e = .returned (.int .i64 (Lib.compareInt x y)) ∧ w' = w := Any.cmp_Compare_int Tryz.lays122 x y w
def Tryz.lays129_ren : Go.Shelf.Ren := ⟨fun | 129 => 81 | n => n, fun | 53 => 93 | 3 => 3 | 4 => 4 | 46 => 68 | 5 => 5 | 9 => 9 | n => n, fun | n => n⟩
theorem Tryz.lays129 : Go.Proofs.Lays.n129 Tryz.prog Tryz.lays129_ren := {
  mixed := by kernel_rfl
  f129 := Tryz.func81.trans (congrArg some (by kernel_rfl))
  t3 := Tryz.underlying3
  a3 := Tryz.isAgg3
  z3 := Tryz.sizeOf3
  v3 := Tryz.zeroValue3
  t4 := Tryz.underlying4
  a4 := Tryz.isAgg4
  z4 := Tryz.sizeOf4
  v4 := Tryz.zeroValue4
  t5 := Tryz.underlying5
  a5 := Tryz.isAgg5
  z5 := Tryz.sizeOf5
  v5 := Tryz.zeroValue5
  t9 := Tryz.underlying9
  a9 := Tryz.isAgg9
  z9 := Tryz.sizeOf9
  v9 := Tryz.zeroValue9
  t46 := Tryz.underlying68
  a46 := Tryz.isAgg68
  z46 := Tryz.sizeOf68
  v46 := Tryz.zeroValue68
  t53 := Tryz.underlying93
  a53 := Tryz.isAgg93
  z53 := Tryz.sizeOf93
  v53 := Tryz.zeroValue93 }
/-- bits.Len64: "Len64 returns the minimum number of bits required tq represent x; the result is 0 for x == 0.": IT RETURNS 'Lib.bitLen x'; the world is as it was. ('h0', 'h1': x is a uint64.) (LAID: no walk: one application.) -/
theorem Tryz.bits_Len64 (x : Int) (w : World) (h0 : 0 ≤ x) (h1 : x ≤ 18446744073709551615) :
    Calls Tryz.prog 81 #[.int .u64 x] w fun e w' => e = .returned (.int .i64 (Lib.bitLen x.toNat)) ∧ w' = w := Any.bits_Len64 Tryz.lays129 x w h0 h1
def Tryz.lays189_ren : Go.Shelf.Ren := ⟨fun | 189 => 66 | 125 => 60 | 257 => 85 | 128 => 80 | 129 => 81 | 294 => 91 | 295 => 92 | 296 => 93 | 297 => 94 | 298 => 95 | 299 => 96 | 216 => 68 | 300 => 97 | 301 => 98 | 328 => 100 | 329 => 87 | 330 => 88 | 331 => 101 | 332 => 102 | 215 => 82 | 343 => 103 | n => n, fun | 28 => 22 | 3 => 3 | 46 => 68 | 0 => 0 | 51 => 91 | 53 => 93 | 4 => 4 | 183 => 96 | 182 => 95 | 131 => 80 | 5 => 5 | 9 => 9 | 218 => 105 | 222 => 109 | 228 => 116 | 229 => 117 | n => n, fun | n => n⟩
theorem Tryz.lays189 : Go.Proofs.Lays.n189 Tryz.prog Tryz.lays189_ren := {
  mixed := by kernel_rfl
  f125 := Tryz.func60.trans (congrArg some (by kernel_rfl))
  f128 := Tryz.func80.trans (congrArg some (by kernel_rfl))
  f129 := Tryz.func81.trans (congrArg some (by kernel_rfl))
  f189 := Tryz.func66.trans (congrArg some (by kernel_rfl))
  f215 := Tryz.func82.trans (congrArg some (by kernel_rfl))
  f216 := Tryz.func68.trans (congrArg some (by kernel_rfl))
  f257 := Tryz.func85.trans (congrArg some (by kernel_rfl))
  f294 := Tryz.func91.trans (congrArg some (by kernel_rfl))
  f295 := Tryz.func92.trans (congrArg some (by kernel_rfl))
  f296 := Tryz.func93.trans (congrArg some (by kernel_rfl))
  f297 := Tryz.func94.trans (congrArg some (by kernel_rfl))
  f298 := Tryz.func95.trans (congrArg some (by kernel_rfl))
  f299 := Tryz.func96.trans (congrArg some (by kernel_rfl))
  f300 := Tryz.func97.trans (congrArg some (by kernel_rfl))
  f301 := Tryz.func98.trans (congrArg some (by kernel_rfl))
  f328 := Tryz.func100.trans (congrArg some (by kernel_rfl))
  f329 := Tryz.func87.trans (congrArg some (by kernel_rfl))
  f330 := Tryz.func88.trans (congrArg some (by kernel_rfl))
  f331 := Tryz.func101.trans (congrArg some (by kernel_rfl))
  f332 := Tryz.func102.trans (congrArg some (by kernel_rfl))
  f343 := Tryz.func103.trans (congrArg some (by kernel_rfl))
  t0 := Tryz.underlying0
  a0 := Tryz.isAgg0
  z0 := Tryz.sizeOf0
  v0 := Tryz.zeroValue0
  t3 := Tryz.underlying3
  a3 := Tryz.isAgg3
  z3 := Tryz.sizeOf3
  v3 := Tryz.zeroValue3
  t4 := Tryz.underlying4
  a4 := Tryz.isAgg4
  z4 := Tryz.sizeOf4
  v4 := Tryz.zeroValue4
  t5 := Tryz.underlying5
  a5 := Tryz.isAgg5
  z5 := Tryz.sizeOf5
  v5 := Tryz.zeroValue5
  t9 := Tryz.underlying9
  a9 := Tryz.isAgg9
  z9 := Tryz.sizeOf9
  v9 := Tryz.zeroValue9
  t28 := Tryz.underlying22
  a28 := Tryz.isAgg22
  z28 := Tryz.sizeOf22
  v28 := Tryz.zeroValue22
  t46 := Tryz.underlying68
  a46 := Tryz.isAgg68
  z46 := Tryz.sizeOf68
  v46 := Tryz.zeroValue68
  t51 := Tryz.underlying91
  a51 := Tryz.isAgg91
  z51 := Tryz.sizeOf91
  v51 := Tryz.zeroValue91
  t53 := Tryz.underlying93
  a53 := Tryz.isAgg93
  z53 := Tryz.sizeOf93
  v53 := Tryz.zeroValue93
  t131 := Tryz.underlying80
  a131 := Tryz.isAgg80
  z131 := Tryz.sizeOf80
  v131 := Tryz.zeroValue80
  t182 := Tryz.underlying95
  a182 := Tryz.isAgg95
  z182 := Tryz.sizeOf95
  v182 := Tryz.zeroValue95
  t183 := Tryz.underlying96
  a183 := Tryz.isAgg96
  z183 := Tryz.sizeOf96
  v183 := Tryz.zeroValue96
  t218 := Tryz.underlying105
  a218 := Tryz.isAgg105
  z218 := Tryz.sizeOf105
  v218 := Tryz.zeroValue105
  t222 := Tryz.underlying109
  a222 := Tryz.isAgg109
  z222 := Tryz.sizeOf109
  v222 := Tryz.zeroValue109
  t228 := Tryz.underlying116
  a228 := Tryz.isAgg116
  z228 := Tryz.sizeOf116
  v228 := Tryz.zeroValue116
  t229 := Tryz.underlying117
  a229 := Tryz.isAgg117
  z229 := Tryz.sizeOf117
  v229 := Tryz.zeroValue117 }
open Go.Sort Go.RowKit in
theorem Tryz.slices_Sort_int (blk off cap : Nat) (zs : List Int) (w : World) (hH : Holds (Value.int .i64) w blk off zs.toArray) (hblk : blk < w.heap.size) (hsz : zs.length < 4611686018427387904) :
    Calls Tryz.prog 66 #[.slice (some ⟨blk, off, none⟩) zs.length cap] w fun e w' =>
      e = .returned (.tuple #[]) ∧ ∃ n os, w' = grow (putRow (Value.int .i64) (Sort.ahead w n) blk off (zs.mergeSort fun x y => decide (x ≤ y)).toArray) os := Any.slices_Sort_int Tryz.lays189 blk off cap zs w hH hblk hsz
def Tryz.lays108_ren : Go.Shelf.Ren := ⟨fun | 108 => 83 | n => n, fun | 28 => 22 | 3 => 3 | 0 => 0 | 4 => 4 | n => n, fun | n => n⟩
theorem Tryz.lays108 : Go.Proofs.Lays.n108 Tryz.prog Tryz.lays108_ren := {
  mixed := by kernel_rfl
  f108 := Tryz.func83.trans (congrArg some (by kernel_rfl))
  t0 := Tryz.underlying0
  a0 := Tryz.isAgg0
  z0 := Tryz.sizeOf0
  v0 := Tryz.zeroValue0
  t3 := Tryz.underlying3
  a3 := Tryz.isAgg3
  z3 := Tryz.sizeOf3
  v3 := Tryz.zeroValue3
  t4 := Tryz.underlying4
  a4 := Tryz.isAgg4
  z4 := Tryz.sizeOf4
  v4 := Tryz.zeroValue4
  t28 := Tryz.underlying22
  a28 := Tryz.isAgg22
  z28 := Tryz.sizeOf22
  v28 := Tryz.zeroValue22 }
open Go.Lib in
/-- slices.Index at []int: "Index returns the index of the first occurrence of v in s, or -1 if not present.": IT RETURNS 'Lib.idxOf (the elements) v'; the world is as it was. 'zs': what the cells behind the slice's address hold (its spare capacity too, if you have it); 'zs.take n': its elements. (LAID: no walk: one application.) -/
theorem Tryz.slices_Index_int (b off n c : Nat) (zs : List Int) (x : Int) (w : World) (hz : n ≤ zs.length) (hbig : n ≤ 9223372036854775807) (hc : ∀ j, j < zs.length → w.cell? ⟨b, off + j, none⟩ = some (.int .i64 (zs.getD j 0))) :
    Calls Tryz.prog 83 #[.slice (some ⟨b, off, none⟩) n c, .int .i64 x] w fun e w' => e = .returned (.int .i64 (Lib.idxOf (zs.take n) x)) ∧ w' = w := Any.slices_Index_int Tryz.lays108 b off n c zs x w hz hbig hc
open Go.Lib in
/-- The same at a slice of length 0, a nil one too: no cell is known, none is asked for. (LAID: no walk: one application.) -/
theorem Tryz.slices_Index_int_empty (a : Option Addr) (c : Nat) (x : Int) (w : World) :
    Calls Tryz.prog 83 #[.slice a 0 c, .int .i64 x] w fun e w' => e = .returned (.int .i64 (Lib.idxOf [] x)) ∧ w' = w := Any.slices_Index_int_empty Tryz.lays108 a c x w
def Tryz.lays107_ren : Go.Shelf.Ren := ⟨fun | 107 => 64 | 108 => 83 | n => n, fun | 28 => 22 | 3 => 3 | 4 => 4 | 0 => 0 | n => n, fun | n => n⟩
theorem Tryz.lays107 : Go.Proofs.Lays.n107 Tryz.prog Tryz.lays107_ren := {
  mixed := by kernel_rfl
  f107 := Tryz.func64.trans (congrArg some (by kernel_rfl))
  f108 := Tryz.func83.trans (congrArg some (by kernel_rfl))
  t0 := Tryz.underlying0
  a0 := Tryz.isAgg0
  z0 := Tryz.sizeOf0
  v0 := Tryz.zeroValue0
  t3 := Tryz.underlying3
  a3 := Tryz.isAgg3
  z3 := Tryz.sizeOf3
  v3 := Tryz.zeroValue3
  t4 := Tryz.underlying4
  a4 := Tryz.isAgg4
  z4 := Tryz.sizeOf4
  v4 := Tryz.zeroValue4
  t28 := Tryz.underlying22
  a28 := Tryz.isAgg22
  z28 := Tryz.sizeOf22
  v28 := Tryz.zeroValue22 }
open Go.Lib in
/-- slices.Contains at []int: "Contains reports whether v is present in s.": IT RETURNS 'elements.contains v'; the world is as it was. ITS CALLEE slices.Index IS MET BY ITS OWN CONTRACT OFF THE SHELF (lay that first): no loop is walked here. (LAID: no walk: one application.) -/
theorem Tryz.slices_Contains_int (b off n c : Nat) (zs : List Int) (x : Int) (w : World) (hz : n ≤ zs.length) (hbig : n ≤ 9223372036854775807) (hc : ∀ j, j < zs.length → w.cell? ⟨b, off + j, none⟩ = some (.int .i64 (zs.getD j 0))) :
    Calls Tryz.prog 64 #[.slice (some ⟨b, off, none⟩) n c, .int .i64 x] w fun e w' => e = .returned (.bool ((zs.take n).contains x)) ∧ w' = w := Any.slices_Contains_int Tryz.lays107 b off n c zs x w hz hbig hc
open Go.Lib in
/-- The same at a slice of length 0, a nil one too. (LAID: no walk: one application.) -/
theorem Tryz.slices_Contains_int_empty (a : Option Addr) (c : Nat) (x : Int) (w : World) :
    Calls Tryz.prog 64 #[.slice a 0 c, .int .i64 x] w fun e w' => e = .returned (.bool false) ∧ w' = w := Any.slices_Contains_int_empty Tryz.lays107 a c x w
def Tryz.lays111_ren : Go.Shelf.Ren := ⟨fun | 111 => 16 | n => n, fun | 28 => 22 | 3 => 3 | 4 => 4 | 0 => 0 | n => n, fun | n => n⟩
theorem Tryz.lays111 : Go.Proofs.Lays.n111 Tryz.prog Tryz.lays111_ren := {
  mixed := by kernel_rfl
  f111 := Tryz.func16.trans (congrArg some (by kernel_rfl))
  t0 := Tryz.underlying0
  a0 := Tryz.isAgg0
  z0 := Tryz.sizeOf0
  v0 := Tryz.zeroValue0
  t3 := Tryz.underlying3
  a3 := Tryz.isAgg3
  z3 := Tryz.sizeOf3
  v3 := Tryz.zeroValue3
  t4 := Tryz.underlying4
  a4 := Tryz.isAgg4
  z4 := Tryz.sizeOf4
  v4 := Tryz.zeroValue4
  t28 := Tryz.underlying22
  a28 := Tryz.isAgg22
  z28 := Tryz.sizeOf22
  v28 := Tryz.zeroValue22 }
open Go.RowKit Go.Lib in
/-- slices.Equal at []int: "Equal reports whether two slices are equal: the same length and all elements equal. If the lengths are different, Equal returns false. Otherwise, the elements are compared in increasing index order, and the comparison stops at the first unequal pair. Empty and nil slices are considered equal.": IT RETURNS WHETHER THE TWO LISTS OF ELEMENTS ARE ONE; the world is as it was but for the count of draws (the test 's1[i] != s2[i]' has two reads, whose order the model draws, once a round). 'xs', 'ys': what the cells behind the two addresses hold (the spare capacity too, if you have it); 'xs.take n', 'ys.take m': the elements. THE TWO SLICES MAY OVERLAP. (LAID: no walk: one application.) -/
theorem Tryz.slices_Equal_int (b1 o1 n c b2 o2 m d : Nat) (xs ys : List Int) (w : World) (hx : n ≤ xs.length) (hy : m ≤ ys.length) (hbig : n ≤ 9223372036854775807) (hbig2 : m ≤ 9223372036854775807) (hc1 : ∀ j, j < xs.length → w.cell? ⟨b1, o1 + j, none⟩ = some (.int .i64 (xs.getD j 0))) (hc2 : ∀ j, j < ys.length → w.cell? ⟨b2, o2 + j, none⟩ = some (.int .i64 (ys.getD j 0))) :
    Calls Tryz.prog 16 #[.slice (some ⟨b1, o1, none⟩) n c, .slice (some ⟨b2, o2, none⟩) m d] w fun e w' => e = .returned (.bool (xs.take n == ys.take m)) ∧ ∃ q, w' = w.drewN q := Any.slices_Equal_int Tryz.lays111 b1 o1 n c b2 o2 m d xs ys w hx hy hbig hbig2 hc1 hc2
open Go.RowKit Go.Lib in
/-- The same where the first is of length 0 (a nil one too): no cell is asked for. (LAID: no walk: one application.) -/
theorem Tryz.slices_Equal_int_empty (a1 a2 : Option Addr) (c m d : Nat) (w : World) (hbig2 : m ≤ 9223372036854775807) :
    Calls Tryz.prog 16 #[.slice a1 0 c, .slice a2 m d] w fun e w' => e = .returned (.bool (decide (m = 0))) ∧ w' = w := Any.slices_Equal_int_empty Tryz.lays111 a1 a2 c m d w hbig2
def Tryz.laysNm215_ren : Go.Shelf.Ren := ⟨fun | 15 => 27 | n => n, fun | 22 => 22 | 3 => 3 | 4 => 4 | n => n, fun | n => n⟩
theorem Tryz.laysNm215 : Go.Proofs.Lays2.n15 Tryz.prog Tryz.laysNm215_ren := {
  mixed := by kernel_rfl
  f15 := Tryz.func27.trans (congrArg some (by kernel_rfl))
  t3 := Tryz.underlying3
  a3 := Tryz.isAgg3
  z3 := Tryz.sizeOf3
  v3 := Tryz.zeroValue3
  t4 := Tryz.underlying4
  a4 := Tryz.isAgg4
  z4 := Tryz.sizeOf4
  v4 := Tryz.zeroValue4
  t22 := Tryz.underlying22
  a22 := Tryz.isAgg22
  z22 := Tryz.sizeOf22
  v22 := Tryz.zeroValue22
  i3 := by kernel_rfl }
open Go.RowKit Go.Lib in
/-- slices.Clone at []int: "Clone returns a copy of the slice. The elements are copied using assignment, so this is a shallow clone. The result may have additional unused capacity. The result preserves the nilness of s.": OF A SLICE THAT IS NOT nil IT RETURNS A SLICE THAT IS NOT nil, OF THE SAME ELEMENTS, IN MEMORY OF THE CALL's OWN: in the how-to's words (6f): 'w'.ownsRow B e 1 v' n cells': v' begins at the head of a row among the blocks from B on (B: the heap's size at the call), not frozen, whose first cells are the elements · 'Below B w w'': below B all is as it was. The capacity is whatever the run-time gives. 'zs': what the cells behind the slice's address hold; 'zs.take n': its elements. (LAID: no walk: one application.) -/
theorem Tryz.slices_Clone_int (b off n c : Nat) (zs : List Int) (w : World) (hz : n ≤ zs.length) (hbig : n * 8 ≤ 140737488355328) (hc : ∀ j, j < zs.length → w.cell? ⟨b, off + j, none⟩ = some (.int .i64 (zs.getD j 0))) :
    Calls Tryz.prog 27 #[.slice (some ⟨b, off, none⟩) n c] w fun e w' => ∃ v', e = .returned v' ∧ w'.ownsRow w.heap.size 3 1 v' n ((zs.take n).map (Value.int .i64)) ∧ v' ≠ .slice none 0 0 ∧ Below w.heap.size w w' := Any.slices_Clone_int Tryz.laysNm215 b off n c zs w hz hbig hc
open Go.RowKit Go.Lib in
/-- The same at nil: nil comes back; the world is as it was. (LAID: no walk: one application.) -/
theorem Tryz.slices_Clone_int_nil (n c : Nat) (w : World) :
    Calls Tryz.prog 27 #[.slice none n c] w fun e w' => e = .returned (.slice none 0 0) ∧ w' = w := Any.slices_Clone_int_nil Tryz.laysNm215 n c w
open Go.RowKit Go.Lib in
/-- The same at a slice of length 0 that is not nil, WHATEVER ITS ADDRESS (no cell is asked for): a slice that is not nil and owns nothing comes back. (LAID: no walk: one application.) -/
theorem Tryz.slices_Clone_int_zero (a : Addr) (c : Nat) (w : World) :
    Calls Tryz.prog 27 #[.slice (some a) 0 c] w fun e w' => ∃ v', e = .returned v' ∧ w'.ownsRow w.heap.size 3 1 v' 0 [] ∧ v' ≠ .slice none 0 0 ∧ Below w.heap.size w w' := Any.slices_Clone_int_zero Tryz.laysNm215 a c w
def Tryz.laysNm220_ren : Go.Shelf.Ren := ⟨fun | 20 => 49 | n => n, fun | 22 => 22 | 3 => 3 | 4 => 4 | 0 => 0 | n => n, fun | n => n⟩
theorem Tryz.laysNm220 : Go.Proofs.Lays2.n20 Tryz.prog Tryz.laysNm220_ren := {
  mixed := by kernel_rfl
  f20 := Tryz.func49.trans (congrArg some (by kernel_rfl))
  t0 := Tryz.underlying0
  a0 := Tryz.isAgg0
  z0 := Tryz.sizeOf0
  v0 := Tryz.zeroValue0
  t3 := Tryz.underlying3
  a3 := Tryz.isAgg3
  z3 := Tryz.sizeOf3
  v3 := Tryz.zeroValue3
  t4 := Tryz.underlying4
  a4 := Tryz.isAgg4
  z4 := Tryz.sizeOf4
  v4 := Tryz.zeroValue4
  t22 := Tryz.underlying22
  a22 := Tryz.isAgg22
  z22 := Tryz.sizeOf22
  v22 := Tryz.zeroValue22
  i3 := by kernel_rfl }
open Go.RowKit Go.Lib Go.Sort in
/-- slices.Compact at []int, over an array: the library's two loops are walked. (LAID: no walk: one application.) -/
theorem Tryz.slices_Compact_int_arr (blk off cap : Nat) (d : Array Int) (w : World) (hH : Holds encI w blk off d) (hsz : d.size ≤ 9223372036854775807) (hcap : d.size ≤ cap) :
    Calls Tryz.prog 49 #[.slice (some ⟨blk, off, none⟩) d.size cap] w fun e w' => e = .returned (.slice (some ⟨blk, off, none⟩) (compactUpTo d d.size).length cap) ∧ ∃ q, w' = putRow encI (Sort.ahead w q) blk off (compactUpTo d d.size ++ List.replicate (d.size - (compactUpTo d d.size).length) 0).toArray := Any.slices_Compact_int_arr Tryz.laysNm220 blk off cap d w hH hsz hcap
open Go.RowKit Go.Lib Go.Sort in
/-- slices.Compact at []int: "Compact replaces consecutive runs of equal elements with a single copy. This is like the uniq command found on Unix. Compact modifies the contents of the slice s and returns the modified slice, which may have a smaller length. Compact zeroes the elements between the new length and the original length. The result preserves the nilness of s.": IT RETURNS THE SLICE CUT TO 'Lib.compact zs'; ITS CELLS HOLD 'Lib.compact zs', THEN ZERO VALUES up tq the old length; all else is as it was, but for the count of draws. IN THE WORDS OF slices.Sort's CONTRACT ('Holds', 'putRow'): so the everyday 'slices.Sort(xs); xs = slices.Compact(xs)' goes from the one contract tq the other. It asks 'zs.length ≤ cap' (every slice's: the reslicing 's[:k]' looks at it). Length 0, nil: '.._empty'. (LAID: no walk: one application.) -/
theorem Tryz.slices_Compact_int (blk off cap : Nat) (zs : List Int) (w : World) (hH : Holds (Value.int .i64) w blk off zs.toArray) (hsz : zs.length ≤ 9223372036854775807) (hcap : zs.length ≤ cap) :
    Calls Tryz.prog 49 #[.slice (some ⟨blk, off, none⟩) zs.length cap] w fun e w' => e = .returned (.slice (some ⟨blk, off, none⟩) (Lib.compact zs).length cap) ∧ ∃ q, w' = putRow (Value.int .i64) (Sort.ahead w q) blk off (Lib.compact zs ++ List.replicate (zs.length - (Lib.compact zs).length) 0).toArray := Any.slices_Compact_int Tryz.laysNm220 blk off cap zs w hH hsz hcap
open Go.RowKit Go.Lib Go.Sort in
/-- The same at a slice of length 0, a nil one too: it comes back as it is. (LAID: no walk: one application.) -/
theorem Tryz.slices_Compact_int_empty (a : Option Addr) (cap : Nat) (w : World) :
    Calls Tryz.prog 49 #[.slice a 0 cap] w fun e w' => e = .returned (.slice a 0 cap) ∧ w' = w := Any.slices_Compact_int_empty Tryz.laysNm220 a cap w
def Tryz.laysNm237_ren : Go.Shelf.Ren := ⟨fun | 37 => 82 | n => n, fun | 3 => 3 | 4 => 4 | n => n, fun | n => n⟩
theorem Tryz.laysNm237 : Go.Proofs.Lays2.n37 Tryz.prog Tryz.laysNm237_ren := {
  mixed := by kernel_rfl
  f37 := Tryz.func82.trans (congrArg some (by kernel_rfl))
  t3 := Tryz.underlying3
  a3 := Tryz.isAgg3
  z3 := Tryz.sizeOf3
  v3 := Tryz.zeroValue3
  t4 := Tryz.underlying4
  a4 := Tryz.isAgg4
  z4 := Tryz.sizeOf4
  v4 := Tryz.zeroValue4 }
open Go.RowKit Go.Lib in
/-- cmp.isNaN[int]: 'x != x': false. (LAID: no walk: one application.) -/
theorem Tryz.cmp_isNaN_int2 (x : Int) (w : World) :
    Calls Tryz.prog 82 #[.int .i64 x] w fun e w' => e = .returned (.bool false) ∧ w' = w := Any.cmp_isNaN_int2 Tryz.laysNm237 x w
def Tryz.laysNm232_ren : Go.Shelf.Ren := ⟨fun | 32 => 69 | n => n, fun | 3 => 3 | 4 => 4 | n => n, fun | n => n⟩
theorem Tryz.laysNm232 : Go.Proofs.Lays2.n32 Tryz.prog Tryz.laysNm232_ren := {
  mixed := by kernel_rfl
  f32 := Tryz.func69.trans (congrArg some (by kernel_rfl))
  t3 := Tryz.underlying3
  a3 := Tryz.isAgg3
  z3 := Tryz.sizeOf3
  v3 := Tryz.zeroValue3
  t4 := Tryz.underlying4
  a4 := Tryz.isAgg4
  z4 := Tryz.sizeOf4
  v4 := Tryz.zeroValue4 }
open Go.RowKit Go.Lib in
/-- slices.isNaN[int]: 'x != x': false. (LAID: no walk: one application.) -/
theorem Tryz.slices_isNaN_int2 (x : Int) (w : World) :
    Calls Tryz.prog 69 #[.int .i64 x] w fun e w' => e = .returned (.bool false) ∧ w' = w := Any.slices_isNaN_int2 Tryz.laysNm232 x w
def Tryz.laysNm231_ren : Go.Shelf.Ren := ⟨fun | 31 => 68 | 37 => 82 | n => n, fun | 3 => 3 | 4 => 4 | n => n, fun | n => n⟩
theorem Tryz.laysNm231 : Go.Proofs.Lays2.n31 Tryz.prog Tryz.laysNm231_ren := {
  mixed := by kernel_rfl
  f31 := Tryz.func68.trans (congrArg some (by kernel_rfl))
  f37 := Tryz.func82.trans (congrArg some (by kernel_rfl))
  t3 := Tryz.underlying3
  a3 := Tryz.isAgg3
  z3 := Tryz.sizeOf3
  v3 := Tryz.zeroValue3
  t4 := Tryz.underlying4
  a4 := Tryz.isAgg4
  z4 := Tryz.sizeOf4
  v4 := Tryz.zeroValue4 }
open Go.RowKit Go.Lib in
/-- cmp.Less[int]: "Less reports whether x is less than y.": 'x < y'; the world is as it was. (LAID: no walk: one application.) -/
theorem Tryz.cmp_Less_int2 (x y : Int) (w : World) :
    Calls Tryz.prog 68 #[.int .i64 x, .int .i64 y] w fun e w' => e = .returned (.bool (decide (x < y))) ∧ w' = w := Any.cmp_Less_int2 Tryz.laysNm231 x y w
def Tryz.laysNm225_ren : Go.Shelf.Ren := ⟨fun | 25 => 54 | 31 => 68 | 32 => 69 | 37 => 82 | n => n, fun | 22 => 22 | 3 => 3 | 4 => 4 | 40 => 68 | 0 => 0 | n => n, fun | n => n⟩
theorem Tryz.laysNm225 : Go.Proofs.Lays2.n25 Tryz.prog Tryz.laysNm225_ren := {
  mixed := by kernel_rfl
  f25 := Tryz.func54.trans (congrArg some (by kernel_rfl))
  f31 := Tryz.func68.trans (congrArg some (by kernel_rfl))
  f32 := Tryz.func69.trans (congrArg some (by kernel_rfl))
  f37 := Tryz.func82.trans (congrArg some (by kernel_rfl))
  t0 := Tryz.underlying0
  a0 := Tryz.isAgg0
  z0 := Tryz.sizeOf0
  v0 := Tryz.zeroValue0
  t3 := Tryz.underlying3
  a3 := Tryz.isAgg3
  z3 := Tryz.sizeOf3
  v3 := Tryz.zeroValue3
  t4 := Tryz.underlying4
  a4 := Tryz.isAgg4
  z4 := Tryz.sizeOf4
  v4 := Tryz.zeroValue4
  t22 := Tryz.underlying22
  a22 := Tryz.isAgg22
  z22 := Tryz.sizeOf22
  v22 := Tryz.zeroValue22
  t40 := Tryz.underlying68
  a40 := Tryz.isAgg68
  z40 := Tryz.sizeOf68
  v40 := Tryz.zeroValue68 }
open Go.RowKit Go.Lib in
/-- slices.BinarySearch at []int: "BinarySearch searches for target in a sorted slice and returns the earliest position where target is found, or the position where target would appear in the sort order; it also returns a bool saying whether the target is really found in the slice. The slice must be sorted in increasing order.": OF A SORTED SLICE IT RETURNS how many elements are less than the target, and whether the target is among the elements; the world is as it was but for the count of draws. 'zs': what the cells behind the slice's address hold; 'zs.take n': its elements. (Of a slice that is not sorted: no contract here.) (LAID: no walk: one application.) -/
theorem Tryz.slices_BinarySearch_int (b off n c : Nat) (zs : List Int) (x : Int) (w : World) (hz : n ≤ zs.length) (hbig : n < 4611686018427387904) (hc : ∀ j, j < zs.length → w.cell? ⟨b, off + j, none⟩ = some (.int .i64 (zs.getD j 0))) (hs : (zs.take n).Pairwise (· ≤ ·)) :
    Calls Tryz.prog 54 #[.slice (some ⟨b, off, none⟩) n c, .int .i64 x] w fun e w' => e = .returned (.tuple #[.int .i64 ((zs.take n).countP (· < x) : Nat), .bool ((zs.take n).contains x)]) ∧ ∃ q, w' = w.drewN q := Any.slices_BinarySearch_int Tryz.laysNm225 b off n c zs x w hz hbig hc hs
open Go.RowKit Go.Lib Go.Sort in
/-- slices.Compact at []int, of an argument: the slice cut tq 'Lib.compact (elements)'; the n cells hold that, then zeros. (LAID: no walk: one application.) -/
theorem Tryz.slices_Compact_int_cells (b off n c : Nat) (zs : List Int) (w : World) (hz : n ≤ zs.length) (hbig : n ≤ 9223372036854775807) (hcap : n ≤ c) (hc : ∀ j, j < zs.length → w.cell? ⟨b, off + j, none⟩ = some (.int .i64 (zs.getD j 0))) (hf : ∀ j, j < n → w.frozen? ⟨b, off + j, none⟩ = false) :
    Calls Tryz.prog 49 #[.slice (some ⟨b, off, none⟩) n c] w fun e w' => e = .returned (.slice (some ⟨b, off, none⟩) (Lib.compact (zs.take n)).length c) ∧ ∃ q, w' = (w.drewN q).setCells b off ((Lib.compact (zs.take n) ++ List.replicate (n - (Lib.compact (zs.take n)).length) 0).map (Value.int .i64)) := Any.slices_Compact_int_cells Tryz.laysNm220 b off n c zs w hz hbig hcap hc hf
open Go.RowKit Go.Sort in
/-- .. and plain. (LAID: no walk: one application.) -/
theorem Tryz.slices_Sort_int_none (p : Option Addr) (cap : Nat) (w : World) :
    Calls Tryz.prog 66 #[.slice p 0 cap] w fun e w' => e = .returned (.tuple #[]) ∧ w' = w := Any.slices_Sort_int_none Tryz.lays189 p cap w
open Go.RowKit Go.Lib in
/-- slices.BinarySearch at []int of no element: position 0, not found; the world is as it was. (LAID: no walk: one application.) -/
theorem Tryz.slices_BinarySearch_int_empty (a : Option Addr) (c : Nat) (x : Int) (w : World) :
    Calls Tryz.prog 54 #[.slice a 0 c, .int .i64 x] w fun e w' => e = .returned (.tuple #[.int .i64 0, .bool false]) ∧ w' = w := Any.slices_BinarySearch_int_empty Tryz.laysNm225 a c x w
open Go.RowKit Go.Lib in
theorem Tryz.slices_Equal_int_lens (a1 a2 : Option Addr) (n c m d : Nat) (w : World) (hnm : n ≠ m) :
    Calls Tryz.prog 16 #[.slice a1 n c, .slice a2 m d] w fun e w' => e = .returned (.bool false) ∧ w' = w := Any.slices_Equal_int_lens Tryz.lays111 a1 a2 n c m d w hnm
end Go.Proofs

/-
  Graphs: Same of the program and the reference, same of the law, Few, Copied, slices.Clip, Contains, BinarySearch.
-/
namespace Go.Proofs.YthnhacncnhknnaaGreatDoor
open Go.RowKit

theorem gr_eq (a b : Gr) : decide (a = b) = (decide (a.ns = b.ns) && decide (a.es = b.es)) := by
  cases a; cases b
  simp only [Gr.mk.injEq, Bool.decide_and]
theorem mo_eq (a b : Mo) : decide (a = b) = (decide (a.ns = b.ns) && decide (a.es = b.es)) := by
  cases a; cases b
  simp only [Mo.mk.injEq, Bool.decide_and]

set_option maxRecDepth 100000 in
set_option maxHeartbeats 2000000 in
theorem sameR_any (a b : Gr) (An : Option Addr) (cn : Nat) (Ae : Option Addr) (ce : Nat) (Bn : Option Addr) (dn : Nat) (Be : Option Addr) (de : Nat) (w : World) (ha : GrAt w An cn Ae ce a) (hb : GrAt w Bn dn Be de b) :
    Calls Tryz.prog 14 #[gval An a.ns.length cn Ae a.es.length ce, gval Bn b.ns.length dn Be b.es.length de] w fun e w' => e = .returned (.bool (decide (a = b))) ∧ Below w.heap.size w w' := by
  have l1 := Nat.le_trans ha.cn.1 ha.cn.2
  have l2 := Nat.le_trans ha.ce.1 ha.ce.2
  have l3 := Nat.le_trans hb.ce.1 hb.ce.2
  have HB0 : Hid (∀ o o', Below w.heap.size w ((w.alloc o).alloc o')) := Lib.hid fun o o' => ((Below.refl _ _).alloc (Nat.le_refl _) _).alloc (by simp) _
  have H1 := Lib.hid (fun u (hu : Below w.heap.size w u) => sameInts_any a.ns b.ns An Bn w.heap.size w.heap.size cn dn u l1 (Reads.below ha.ns hu) (Reads.below hb.ns hu))
  have HX := Lib.hid (gr_eq a b)
  have HA := Lib.hid ha.es
  have HBe := Lib.hid hb.es
  clear ha hb l1
  unfold maxLen at l2 l3
  generalize decide (a = b) = z at HX ⊢
  generalize decide (a.ns = b.ns) = z1 at H1 HX
  go_enter Tryz.func14, Tryz.ntmps14
  go_wp2_with fail
  refine (H1.out _ (HB0.out _ _)).mono ?_
  rintro e w1 ⟨rfl, hb1⟩
  obtain ⟨b0, b1, hsz⟩ := boxes2 hb1
  obtain ⟨c0, c1⟩ := cell2 b0
  obtain ⟨c2, c3⟩ := cell2 b1
  have HB := Lib.hid ((HB0.out _ _).trans (hb1.mono (by simp; omega)))
  clear b0 b1 hb1
  cases z1
  · go_wp2_with fail
    go_ret
    exact ⟨ret_bool (by rw [HX.out]; rfl), HB.out⟩
  · generalize a.es = xs at *
    generalize b.es = ys at *
    by_cases hl : xs.length = ys.length
    case neg =>
      have t : ((xs.length : Int) != (ys.length : Int)) = true := by simp; omega
      have H := Lib.hid (show z = false by rw [HX.out, decide_eq_false (fun h => hl (by rw [h]))]; rfl)
      clear hl
      go_wp2_with fail
      go_ret
      exact ⟨ret_bool (by rw [H.out]), HB.out⟩
    have t : ((xs.length : Int) != (ys.length : Int)) = false := by simp; omega
    have HLN := Lib.hid hl
    have hyl : ys.length ≤ xs.length := by omega
    have hxl : xs.length ≤ ys.length := by omega
    clear hl
    go_wp2_with fail
    clear t
    go_loopw [5] (fun i wr => ∃ k q : Nat, k ≤ xs.length ∧ i = .int .i64 k ∧ wr = w1.drewN q ∧ ∀ j (h1 : j < xs.length) (h2 : j < ys.length), j < k → xs[j] = ys[j]) (fun i _ => xs.length - (intOf i).toNat)
    case atStart => exact ⟨0, 0, Nat.zero_le _, rfl, rfl, fun j _ _ hj => by omega⟩
    case round =>
      obtain ⟨k, q, hk, rfl, rfl, hs⟩ := hrel
      have HS := Lib.hid hs
      clear hs
      by_cases hlt : k < xs.length
      · have hlt' : k < ys.length := by omega
        obtain ⟨b, off, rfl, hb, c⟩ := Eds.cells (Reads.below HA.out HB.out) hlt
        obtain ⟨b', off', rfl, hb', d⟩ := Eds.cells (Reads.below HBe.out HB.out) hlt'
        obtain ⟨k0, k1, k2⟩ := c k hlt
        obtain ⟨d0, d1, d2⟩ := d k hlt'
        have ex : xs.getD k default = xs[k] := by rw [List.getD_eq_getElem?_getD, List.getElem?_eq_getElem hlt]; rfl
        have ey : ys.getD k default = ys[k] := by rw [List.getD_eq_getElem?_getD, List.getElem?_eq_getElem hlt']; rfl
        rw [ex] at k0 k1 k2
        rw [ey] at d0 d1 d2
        clear c d ex ey
        have hk0 : (0 : Int) ≤ (k : Int) := by omega
        have hk1 : (k : Int) < (xs.length : Int) := by omega
        have hk1' : (k : Int) < (ys.length : Int) := by omega
        have hk2 : ((k : Int)).toNat = k := by omega
        have HNE : Hid (¬ xs[k] = ys[k] → z = false) := Lib.hid fun h => by rw [HX.out, decide_eq_false (fun h2 => h (by simp only [h2]))]; rfl
        have HEQ : Hid (xs[k] = ys[k] → ∀ j (h1 : j < xs.length) (h2 : j < ys.length), j < k + 1 → xs[j] = ys[j]) := Lib.hid fun h j h1 h2 h3 => by
          by_cases e : j = k
          · subst e; exact h
          · exact HS.out j h1 h2 (by omega)
        generalize xs[k] = x at k0 k1 k2 HNE HEQ
        generalize ys[k] = y at d0 d1 d2 HNE HEQ
        obtain ⟨x1, x2, x3⟩ := x
        obtain ⟨y1, y2, y3⟩ := y
        dsimp only at k0 k1 k2 d0 d1 d2
        have hc : (x1 = y1 ∧ x2 = y2 ∧ x3 = y3) ∨ (¬ x1 = y1 ∨ (x1 = y1 ∧ ¬ x2 = y2) ∨ (x1 = y1 ∧ x2 = y2 ∧ ¬ x3 = y3)) := by omega
        rcases hc with ⟨rfl, rfl, rfl⟩ | hc
        · have HXX := Lib.hid (HEQ.out rfl)
          clear HEQ HNE
          go_wp2_with fail
          go_quiet (fail)
          go_wp2_with fail
          go_roundw
          case rel => exact ⟨k + 1, _, by omega, by go_num, rfl, HXX.out⟩
          case measure => simp [intOf]; omega
        · have HXX := Lib.hid (HNE.out (by simp only [Ed.mk.injEq]; omega))
          clear HEQ HNE
          rcases hc with h1 | ⟨h1, h2⟩ | ⟨h1, h2, h3⟩
          all_goals
            go_wp2_with fail
            go_quiet (fail)
            go_wp2_with fail
            go_ret
            exact ⟨ret_bool (by rw [HXX.out]), below_draws (below_draws HB.out q) _⟩
      · have H := Lib.hid (show z = true by rw [HX.out, decide_eq_true (List.ext_getElem HLN.out fun j h1 h2 => HS.out j h1 h2 (by omega))]; rfl)
        clear HS
        go_wp2_with fail
        go_ret
        exact ⟨ret_bool (by rw [H.out]), below_draws HB.out q⟩

/-- a small graph -/
def fewB (g : Gr) : Bool := decide (g.ns.length ≤ 45) && decide (g.es.length ≤ 90)
theorem few_any (g : Gr) (An : Option Addr) (cn : Nat) (Ae : Option Addr) (ce : Nat) (w : World) (hT : GrAt w An cn Ae ce g) :
    Calls Tryz.prog 21 #[gval An g.ns.length cn Ae g.es.length ce] w fun e w' => e = .returned (.bool (fewB g)) ∧ Below w.heap.size w w' := by
  have H : Hid (fewB g = (decide (g.ns.length ≤ 45) && decide (g.es.length ≤ 90))) := Lib.hid rfl
  have l1 := Nat.le_trans hT.cn.1 hT.cn.2
  have l2 := Nat.le_trans hT.ce.1 hT.ce.2
  clear hT
  unfold maxLen at l1 l2
  generalize fewB g = z at H ⊢
  generalize g.ns.length = a at *
  generalize g.es.length = b at *
  by_cases h1 : a ≤ 45
  · by_cases h2 : b ≤ 90
    · have HR := Lib.hid (show z = true by rw [H.out, decide_eq_true h1, decide_eq_true h2]; rfl)
      have t1 : decide ((a : Int) ≤ 45) = true := decide_eq_true (by omega)
      have t2 : decide ((b : Int) ≤ 90) = true := decide_eq_true (by omega)
      go_enter Tryz.func21, Tryz.ntmps21
      go_wp2_with fail
      go_ret
      exact ⟨ret_bool (by rw [HR.out]), (Below.refl _ _).alloc (Nat.le_refl _) _⟩
    · have HR := Lib.hid (show z = false by rw [H.out, decide_eq_true h1, decide_eq_false h2]; rfl)
      have t1 : decide ((a : Int) ≤ 45) = true := decide_eq_true (by omega)
      have t2 : decide ((b : Int) ≤ 90) = false := decide_eq_false (by omega)
      go_enter Tryz.func21, Tryz.ntmps21
      go_wp2_with fail
      go_ret
      exact ⟨ret_bool (by rw [HR.out]), (Below.refl _ _).alloc (Nat.le_refl _) _⟩
  · have HR := Lib.hid (show z = false by rw [H.out, decide_eq_false h1]; rfl)
    have t1 : decide ((a : Int) ≤ 45) = false := decide_eq_false (by omega)
    go_enter Tryz.func21, Tryz.ntmps21
    go_wp2_with fail
    go_ret
    exact ⟨ret_bool (by rw [HR.out]), (Below.refl _ _).alloc (Nat.le_refl _) _⟩

/-- slices.Contains -/
theorem contains_any (xs : List Int) (x : Int) (A : Option Addr) (B c : Nat) (w : World) (hl : xs.length ≤ maxLen) (hA : Ints w B A xs) :
    Calls Tryz.prog 64 #[.slice A xs.length c, .int .i64 x] w fun e w' => e = .returned (.bool (decide (x ∈ xs))) ∧ w = w' := by
  rcases Nat.eq_zero_or_pos xs.length with h | h
  · have e : xs = [] := List.eq_nil_of_length_eq_zero h
    subst e
    refine (Tryz.slices_Contains_int_empty A c x w).mono ?_
    rintro e w' ⟨rfl, rfl⟩
    exact ⟨ret_bool (by simp), rfl⟩
  · obtain ⟨b, off, rfl, _, hc⟩ := Ints.cells hA h
    refine (Tryz.slices_Contains_int b off xs.length c xs x w (Nat.le_refl _) (by unfold maxLen at hl; omega) hc).mono ?_
    rintro e w' ⟨rfl, rfl⟩
    refine ⟨ret_bool ?_, rfl⟩
    rw [List.take_length, List.contains_eq_mem]
/-- slices.BinarySearch in an ascending list -/
theorem bin_any (xs : List Int) (i : Nat) (A : Option Addr) (B c : Nat) (w : World) (hl : xs.length ≤ 1000000) (hA : Ints w B A xs) (hs : Asc xs) :
    Calls Tryz.prog 54 #[.slice A xs.length c, .int .i64 (i : Int)] w fun e w' => e = .returned (.tuple #[.int .i64 (cntL xs i : Nat), .bool (decide ((i : Int) ∈ xs))]) ∧ ∃ q, w' = w.drewN q := by
  rcases Nat.eq_zero_or_pos xs.length with h | h
  · have e : xs = [] := List.eq_nil_of_length_eq_zero h
    subst e
    refine (Tryz.slices_BinarySearch_int_empty A c i w).mono ?_
    rintro e w' ⟨rfl, rfl⟩
    exact ⟨by simp [cntL], 0, rfl⟩
  · obtain ⟨b, off, rfl, _, hc⟩ := Ints.cells hA h
    refine (Tryz.slices_BinarySearch_int b off xs.length c xs i w (Nat.le_refl _) (by omega) hc (by rw [List.take_length]; exact hs.imp fun h => Int.le_of_lt h)).mono ?_
    rintro e w' ⟨rfl, hq⟩
    refine ⟨?_, hq⟩
    rw [List.take_length, List.contains_eq_mem]
    rfl

end Go.Proofs.YthnhacncnhknnaaGreatDoor

/-
  Graphs: numbers, Numbers, placesWithout, places, checkAscending, ascending.
-/
namespace Go.Proofs.YthnhacncnhknnaaGreatDoor
open Go.RowKit

theorem wpList_make_Z {w : World} {ops : Array Oper} {rest : List Oper} {o : Oper} {a : Act} {Q : Exit → Act → World → Prop} (hgd : o.guard = none) (l c : Operand)
    (ho : o.op = Op.makeSlice 22 l c) (base n : Nat) (hl : a.eval l = .int .i64 (n : Int)) (hc : a.eval c = .int .i64 (n : Int)) (hn : n ≤ 1000000) (hbase : base ≤ w.heap.size)
    (hK : ∀ w', OwnI w' base (.slice (some ⟨w.heap.size, 0, none⟩) n n) (List.replicate n 0) → Below w.heap.size w w' → w.heap.size < w'.heap.size → wpList Tryz.prog ops Q rest (a.put o.dst (.slice (some ⟨w.heap.size, 0, none⟩) n n)) w') : wpList Tryz.prog ops Q (o :: rest) a w := by
  obtain ⟨i0, hi, hz0, hz1, hz2⟩ := info_parts infoInt
  refine wpList_make_full w hgd l c 22 ho base 3 i0 (.int .i64 0) 1 Tryz.underlying22 hi hz0 hz1 .i64 .i64 _ _ n hl hc rfl rfl (by rw [hz2]; omega) (by unfold maxLen; omega) hbase ?_
  intro w' h1 h2
  have h3 : OwnI w' base (.slice (some ⟨w.heap.size, 0, none⟩) n n) (List.replicate n 0) := by
    unfold OwnI OwnE
    rw [cellsE_int, List.length_replicate]
    have e : (madeCells (Value.int .i64 0).cells (n * 1)).toList = (List.replicate n (0 : Int)).map (Value.int .i64) := by
      rw [Nat.mul_one]
      refine (toList_madeCells_one _ _).trans ?_
      rw [List.map_replicate]
    rw [e] at h1
    exact h1
  exact hK w' h3 ((Below.refl _ w).grown h2 (Nat.le_refl _) (by intro k hk; cases hk)) (OwnE.lt h3 _ rfl).2

set_option maxRecDepth 100000 in
set_option maxHeartbeats 2000000 in
theorem placesP_any (l : List Int) (n : Nat) (A : Option Addr) (c : Nat) (w : World) (hl : l.length ≤ 1000) (hn : n ≤ 1000) (hs : Asc l) (h0 : ∀ x ∈ l, 0 ≤ x) (hA : Ints w w.heap.size A l) :
    Calls Tryz.prog 47 #[.slice A l.length c, .int .i64 (n : Int)] w fun e w' => ∃ v, e = .returned v ∧ OwnI w' w.heap.size v (plcs l n) ∧ Below w.heap.size w w' := by
  have HS := Lib.hid (fun (i : Nat) u (hu : Below w.heap.size w u) => bin_any l i A w.heap.size c u (by omega) (Reads.below hA hu) hs)
  have HIN := Lib.hid (fun (i : Nat) (h : (i : Int) ∈ l) => plc_in h)
  have HOUT := Lib.hid (fun (i : Nat) (h : ¬ (i : Int) ∈ l) => plc_out h)
  have HCL := Lib.hid (cnt_le hs h0)
  have HP := Lib.hid (fun k (h : k < n) => pad_set (plc l) 0 h)
  have HPL := Lib.hid (fun k (h : k ≤ n) => pad_len (plc l) 0 h)
  have HZ := Lib.hid (pad_zero (plc l) 0 n)
  have HE : Hid (pad (plc l) 0 n n = plcs l n) := Lib.hid (pad_all (plc l) 0 n)
  clear hA hs h0
  generalize plcs l n = R at HE ⊢
  generalize pad (plc l) 0 n = P at HP HPL HZ HE
  generalize plc l = f at HP HIN HOUT
  go_enter Tryz.func47, Tryz.ntmps47
  go_wp2_with (at_make; refine wpList_make_Z rfl _ _ rfl w.heap.size n rfl rfl (by omega) (Nat.le_refl _) ?_; intro w1 hown hb hsz)
  have HO := Lib.hid hown
  have HB := Lib.hid hb
  clear hown hb
  go_wp2_with fail
  go_loopw [13] (fun x wr => ∃ k : Nat, k ≤ n ∧ x = .int .i64 k ∧ OwnI wr w.heap.size (.slice (some ⟨w.heap.size, 0, none⟩) n n) (P k) ∧ Below w.heap.size w wr) (fun x _ => n - (intOf x).toNat)
  case atStart => exact ⟨0, Nat.zero_le _, rfl, by rw [HZ.out]; exact HO.out, HB.out⟩
  case round =>
    obtain ⟨k, hk, rfl, hown, hbel⟩ := hrel
    have HG := Lib.hid hbel
    by_cases hlt : k < n
    · have hc0 := HCL.out k
      have HC := HS.out k wr hbel
      by_cases hin : (k : Int) ∈ l
      · have hf := HIN.out k hin
        rw [decide_eq_true hin] at HC
        have HC := Lib.hid HC
        have hW : ∀ q, OwnI ((wr.drewN q).setCell ⟨w.heap.size, k, none⟩ (.int .i64 (-1))) w.heap.size (.slice (some ⟨w.heap.size, 0, none⟩) n n) (P (k + 1)) ∧ (wr.drewN q).cell? ⟨w.heap.size, k, none⟩ = some (.int .i64 ((P k).getD k 0)) ∧ (wr.drewN q).frozen? ⟨w.heap.size, k, none⟩ = false := fun q => by
          have ho : OwnI (wr.drewN q) w.heap.size (.slice (some ⟨w.heap.size, 0, none⟩) n n) (P k) := OwnE.below hown (below_draws (Below.refl _ _) q) (Nat.le_refl _)
          have hln := HPL.out k hk
          have := (OwnI.set hln.symm ho k (f k)).1
          rw [HP.out k hlt, hf] at this
          exact ⟨this, OwnI.cell hln.symm ho hlt, OwnI.free hln.symm ho k⟩
        have HW := Lib.hid hW
        clear hin hf hown hbel hW HIN HOUT HP HS
        generalize cntL l k = y at HC hc0
        go_wp2_with fail
        refine HC.out.mono ?_
        rintro e w2 ⟨rfl, q, rfl⟩
        have ck := (HW.out q).2.1
        have fk := (HW.out q).2.2
        go_wp2_with fail
        go_roundw
        case rel => exact ⟨k + 1, by omega, by go_num, (HW.out q).1, (below_draws HG.out q).setCell (p := ⟨w.heap.size, k, none⟩) (Nat.le_refl _) _⟩
        case measure => simp [intOf]; omega
      · have hf := HOUT.out k hin
        rw [decide_eq_false hin] at HC
        have HC := Lib.hid HC
        have hW : ∀ q, OwnI ((wr.drewN q).setCell ⟨w.heap.size, k, none⟩ (.int .i64 ((k : Int) - (cntL l k : Nat)))) w.heap.size (.slice (some ⟨w.heap.size, 0, none⟩) n n) (P (k + 1)) ∧ (wr.drewN q).cell? ⟨w.heap.size, k, none⟩ = some (.int .i64 ((P k).getD k 0)) ∧ (wr.drewN q).frozen? ⟨w.heap.size, k, none⟩ = false := fun q => by
          have ho : OwnI (wr.drewN q) w.heap.size (.slice (some ⟨w.heap.size, 0, none⟩) n n) (P k) := OwnE.below hown (below_draws (Below.refl _ _) q) (Nat.le_refl _)
          have hln := HPL.out k hk
          have := (OwnI.set hln.symm ho k (f k)).1
          rw [HP.out k hlt, hf] at this
          exact ⟨this, OwnI.cell hln.symm ho hlt, OwnI.free hln.symm ho k⟩
        have HW := Lib.hid hW
        clear hin hf hown hbel hW HIN HOUT HP HS
        generalize cntL l k = y at HC hc0 HW
        go_wp2_with fail
        refine HC.out.mono ?_
        rintro e w2 ⟨rfl, q, rfl⟩
        have ck := (HW.out q).2.1
        have fk := (HW.out q).2.2
        go_wp2_with fail
        go_roundw
        case rel => exact ⟨k + 1, by omega, by go_num, (HW.out q).1, (below_draws HG.out q).setCell (p := ⟨w.heap.size, k, none⟩) (Nat.le_refl _) _⟩
        case measure => simp [intOf]; omega
    · have e : k = n := by omega
      subst e
      have HW := Lib.hid (OwnE.cast HE.out hown)
      clear hown
      go_wp2_with fail
      go_ret
      exact ⟨_, rfl, HW.out, HG.out⟩

end Go.Proofs.YthnhacncnhknnaaGreatDoor

/-
  Graphs: append tq an empty literal; what regions that make memory keep; slices.Clip; moveEnds; Copied.
-/
namespace Go.Proofs.YthnhacncnhknnaaGreatDoor
open Go.RowKit

theorem below_al {wz x : World} (h : Below wz.heap.size wz x) (o : Obj) : Below wz.heap.size wz (x.alloc o) := h.alloc h.size o
/-- a slice of the call's own, or an empty literal -/
def OwnZ {α : Type} (E : El α) (t : TypeId) (w : World) (base : Nat) (v : Value) (xs : List α) : Prop := OwnE E t w base v xs ∨ (xs = [] ∧ ∃ a, v = .slice (some a) 0 0)
section
variable {α : Type} {E : El α} {t : TypeId} {w w' : World} {base : Nat} {v : Value} {xs : List α}
theorem OwnZ.reads_cap (h : OwnZ E t w base v xs) : ∃ A c, v = .slice A xs.length c ∧ Reads E w w.heap.size A xs ∧ xs.length ≤ c ∧ c ≤ maxLen := by
  rcases h with h | ⟨rfl, a, rfl⟩
  · exact OwnE.reads_cap h
  · exact ⟨some a, 0, rfl, .inl rfl, Nat.le_refl _, by unfold maxLen; omega⟩
theorem OwnZ.slice (h : OwnZ E t w base v xs) : ∃ ao cap, v = .slice ao xs.length cap := by
  obtain ⟨A, c, e, _⟩ := h.reads_cap
  exact ⟨A, c, e⟩
theorem OwnZ.below {B : Nat} (h : OwnZ E t w base v xs) (hb : Below B w w') (hB : w.heap.size ≤ B) : OwnZ E t w' base v xs := h.imp (fun h => OwnE.below h hb hB) id
theorem OwnZ.stored {a : Addr} (h : OwnZ E t w base v xs) (ha : a.block < base) (u : Value) : OwnZ E t (w.setCell a u) base v xs := h.imp (fun h => ownsRow_setCell_below h ha u) id
theorem OwnZ.mono {base' : Nat} (h : OwnZ E t w base v xs) (hb : base' ≤ base) : OwnZ E t w base' v xs := h.imp (fun h => OwnE.mono h hb) id
theorem OwnZ.cast {ys : List α} (e : xs = ys) (h : OwnZ E t w base v xs) : OwnZ E t w base v ys := e ▸ h

theorem run_append_lit {P : Program} {w : World} (t ty e : TypeId) (i : TypeInfo) (g : Addr) (c : Nat) (ad : Option Addr) (ht : P.underlying t = some (.slice e)) (hi : P.info? e = some i) :
    (Builtin.append_ #[t, t] ty #[.slice (some g) 0 0, .slice ad 0 c]).run P w = .ok (.slice (some g) 0 0) w := by
  cases ad <;> simp [Builtin.append_, run_underlying ht, sizeOf, typeInfo, hi, Builtin.lenOf, Builtin.firstCells, storeCells, loadCells, loadCellsFrom]
end

section
variable {α : Type} {E : El α}
theorem wp_append_lit {w : World} {o : Oper} {a : Act} {K : Act → World → Prop} {Q : Exit → Act → World → Prop} (s x : Operand) (T t : TypeId)
    (ho : o.op = .call { callee := .builtin .append, args := #[s, x], argTypes := #[T, T] }) {z : Value} {bytes : Nat}
    (hT : Tryz.prog.underlying T = some (.slice t)) (hinfo : (Tryz.prog.info? t).map (fun i => (i.zero, i.size, i.bytes)) = some (some z, E.size, bytes)) (hzc : z.cells.size = E.size) (hpos : 0 < E.size) (hby : bytes ≤ 1000)
    (g : Addr) (hs : a.eval s = .slice (some g) 0 0) (A : Option Addr) (m c B : Nat) (ys : List α) (hx : a.eval x = .slice A m c) (hm : m = ys.length) (hR : Reads E w B A ys) (hl2 : m ≤ 100000)
    (hK : ∀ v' w', OwnZ E t w' w.heap.size v' ys → w.grownBy w' none → K (a.put o.dst v') w') : o.wp Tryz.prog a w K Q := by
  obtain ⟨i0, hi, hz0, hz1, hz2⟩ := info_parts hinfo
  subst hm
  have lit : ∀ ad, a.eval x = .slice ad 0 c → ys = [] → o.wp Tryz.prog a w K Q := fun ad hx hy => by
    have hr := run_append_lit (P := Tryz.prog) (w := w) T o.type t i0 g c ad hT hi
    unfold Oper.wp execOp
    simp only [ho, resolve, invoke, builtin, Sem.run_bind, Sem.run_pure, Result.andThen_ok, List.map_toArray, List.map_cons, List.map_nil, hs, hx, hr]
    exact hK _ w (.inr ⟨hy, g, rfl⟩) (grown_refl w _)
  rcases Nat.eq_zero_or_pos ys.length with h0 | hp
  · rw [h0] at hx
    exact lit _ hx (List.eq_nil_of_length_eq_zero h0)
  · rcases hR with h | ⟨b, off, rfl, _, h3⟩
    · rw [h] at hp; simp at hp
    · have hb : ys.length * bytes ≤ 100000 * 1000 := Nat.mul_le_mul (by omega) hby
      obtain ⟨v', w', hrun, r1, r2⟩ := run_append_arg_grows (P := Tryz.prog) w T o.type t i0 z E.size bytes hT hi hz0 hz1 hz2 hzc hpos g 0 0 [] (by simp) (fun j u h => by simp at h) ⟨b, off, none⟩ ys.length c (cellsE E ys) (cellsE_length E ys) (by
          intro j u hj
          obtain ⟨hj1, _⟩ := List.getElem?_eq_some_iff.1 hj
          rw [cellsE_length] at hj1
          have hi2 : j / E.size < ys.length := (Nat.div_lt_iff_lt_mul hpos).2 hj1
          have hq := List.getElem?_eq_getElem hi2
          have hlt : j % E.size < (E.enc ys[j / E.size]).length := by rw [E.len]; exact Nat.mod_lt _ hpos
          have hu := cellsE_get E hq (List.getElem?_eq_getElem hlt)
          have ej : j / E.size * E.size + j % E.size = j := by rw [Nat.mul_comm]; exact Nat.div_add_mod j E.size
          rw [ej, hj] at hu
          have := h3 _ _ hq _ _ (List.getElem?_eq_getElem hlt)
          rw [addr_plain, show off + j = off + j / E.size * E.size + j % E.size by rw [Nat.add_assoc, ej], this, hu]) (by omega) (by unfold maxLen; omega) (by rw [Nat.zero_add]; omega)
      unfold Oper.wp execOp
      simp only [ho, resolve, invoke, builtin, Sem.run_bind, Sem.run_pure, Result.andThen_ok, List.map_toArray, List.map_cons, List.map_nil, hs, hx, hrun]
      refine hK v' w' (.inl ?_) r2
      unfold OwnE
      rw [Nat.zero_add, List.nil_append] at r1
      exact r1
/-- w' is w with more memory; what may have changed is of type t, from base on -/
def Grow (t : TypeId) (base : Nat) (w w' : World) : Prop := Below base w w' ∧ ∀ (i : Nat) (cs : Array Value) (t' : TypeId), t' ≠ t → w.heap[i]? = some (.cells cs t' (0, 0)) → w'.heap[i]? = some (.cells cs t' (0, 0))
theorem Grow.own {t : TypeId} {base : Nat} {w w' : World} {v : Value} {xs : List α} (hown : OwnE E t w base v xs) (hg : w.grownBy w' v.ownBlock) (hb : Below base w w') : Grow t base w w' :=
  ⟨hb, fun i _ _ ht h => (hg.block i (Array.getElem?_eq_some_iff.1 h).1 (fun e => own_far hown h (fun e2 => ht e2.symm) e.symm)).trans h⟩
theorem Grow.of {t : TypeId} {base : Nat} {w w' : World} (hb : Below w.heap.size w w') (hB : base ≤ w.heap.size) : Grow t base w w' := ⟨hb.mono hB, fun i _ _ _ h => (hb.block i (Array.getElem?_eq_some_iff.1 h).1).trans h⟩
theorem Grow.trans {t : TypeId} {base : Nat} {a b c : World} (h : Grow t base a b) (k : Grow t base b c) : Grow t base a c := ⟨h.1.trans k.1, fun i cs t' ht hh => k.2 i cs t' ht (h.2 i cs t' ht hh)⟩
theorem Grow.refl (t : TypeId) (base : Nat) (w : World) : Grow t base w w := ⟨Below.refl _ _, fun _ _ _ _ h => h⟩
theorem Grow.row {β : Type} {G : El β} {t t' : TypeId} {base b2 : Nat} {w w' : World} {v : Value} {xs : List β} (hg : Grow t base w w') (ht : t' ≠ t) (h : OwnE G t' w b2 v xs) : OwnE G t' w' b2 v xs := by
  refine ⟨h.1, ?_⟩
  rcases h.2 with hn | ⟨g, cap, cur, hv, hbg, hh, rest⟩
  · exact .inl hn
  · exact .inr ⟨g, cap, cur, hv, hbg, hg.2 g _ _ ht hh, rest⟩
theorem step_append_lit {w : World} {ops : Array Oper} {o : Oper} {a : Act} {K : Act → World → Prop} {Q : Exit → Act → World → Prop} {X : Prop} (hgd : o.guard = none) (s x : Operand) (T t : TypeId)
    (ho : o.op = .call { callee := .builtin .append, args := #[s, x], argTypes := #[T, T] }) {z : Value} {bytes : Nat}
    (hT : Tryz.prog.underlying T = some (.slice t)) (hinfo : (Tryz.prog.info? t).map (fun i => (i.zero, i.size, i.bytes)) = some (some z, E.size, bytes)) (hzc : z.cells.size = E.size) (hpos : 0 < E.size) (hby : bytes ≤ 1000)
    (g : Addr) (hs : a.eval s = .slice (some g) 0 0) (A : Option Addr) (m c B : Nat) (ys : List α) (hx : a.eval x = .slice A m c) (hm : m = ys.length) (hR : Reads E w B A ys) (hl2 : m ≤ 100000)
    (hK : ∀ v' w', OwnZ E t w' w.heap.size v' ys → w.grownBy w' none → K (a.put o.dst v') w') : if Region.wanted o (yielded ops a.tmps) = true then Oper.wp Tryz.prog o a w K Q else X := by
  have hw : Region.wanted o (yielded ops a.tmps) = true := by simp [Region.wanted, hgd]
  rw [if_pos hw]
  exact wp_append_lit s x T t ho hT hinfo hzc hpos hby g hs A m c B ys hx hm hR hl2 hK
end

/-! slices.Clip -/
/-! moveEnds -/
set_option maxRecDepth 100000 in
set_option maxHeartbeats 2000000 in
theorem moveEnds_any (x : Ed) (pl : List Int) (A : Option Addr) (c : Nat) (w : World) (hf : 0 ≤ x.fr ∧ x.fr < pl.length) (ht : 0 ≤ x.tq ∧ x.tq < pl.length) (hA : Ints w w.heap.size A pl) :
    Calls Tryz.prog 48 #[edv x, .slice A pl.length c] w fun e w' => e = .returned (edv ⟨x.ty, pl.getD x.fr.toNat 0, pl.getD x.tq.toNat 0⟩) ∧ Below w.heap.size w w' := by
  obtain ⟨ty, fr, tq⟩ := x
  dsimp only at hf ht ⊢
  obtain ⟨a, rfl⟩ : ∃ a : Nat, fr = a := ⟨fr.toNat, by omega⟩
  obtain ⟨b, rfl⟩ : ∃ b : Nat, tq = b := ⟨tq.toNat, by omega⟩
  rw [Int.toNat_natCast, Int.toNat_natCast]
  have ha : a < pl.length := by omega
  have hb : b < pl.length := by omega
  obtain ⟨g, off, rfl, hg, hc⟩ := Ints.cells hA ha
  have ca := hc a ha
  have cb := hc b hb
  have hB : Hid (∀ o o', Below w.heap.size w ((w.alloc o).alloc o')) := Lib.hid fun o o' => ((Below.refl _ _).alloc (Nat.le_refl _) _).alloc (by simp) _
  clear hA hc hf ht
  generalize pl.getD a 0 = p at ca ⊢
  generalize pl.getD b 0 = q at cb ⊢
  have a0 : (0 : Int) ≤ (a : Int) := by omega
  have a1 : (a : Int) < (pl.length : Int) := by omega
  have a2 : ((a : Int)).toNat = a := by omega
  have b0 : (0 : Int) ≤ (b : Int) := by omega
  have b1 : (b : Int) < (pl.length : Int) := by omega
  have b2 : ((b : Int)).toNat = b := by omega
  go_enter Tryz.func48, Tryz.ntmps48
  go_wp2_with fail
  go_region
  all_goals
    go_wp2_with fail
    refine bodyPost_ret (v := edv ⟨ty, p, q⟩) (by simp [results, Tryz.results48, go_sem]) rfl ⟨rfl, ?_⟩
    exact Below.drew (hB.out _ _)

/-! what regions keep -/
theorem below_a (u : World) (o : Obj) : Below u.heap.size u (u.alloc o) := (Below.refl _ _).alloc (Nat.le_refl _) o
theorem below_ad (u : World) (o : Obj) : Below u.heap.size u (u.alloc o).drew := Below.drew (below_a u o)
theorem below_d (u : World) : Below u.heap.size u u.drew := Below.drew (Below.refl _ _)
theorem below_g {u x : World} (hg : u.grownBy x none) : Below u.heap.size u x := (Below.refl _ u).grown hg (Nat.le_refl _) (by intro k hk; cases hk)
/-- the value in a cell -/
def valAt (W : World) (h j : Nat) : Value := (W.cell? ⟨h, j, none⟩).getD (.bool false)
/-- a variable of two cells -/
def Blk (h : Nat) (t : TypeId) (W : World) : Prop := ∃ x y, W.heap[h]? = some (.cells #[x, y] t (0, 0))
abbrev Sto (h : Nat) (W : World) : Prop := (W.cell? ⟨h, 0, none⟩ = some (valAt W h 0) ∧ W.cell? ⟨h, 1, none⟩ = some (valAt W h 1)) ∧ (W.frozen? ⟨h, 0, none⟩ = false ∧ W.frozen? ⟨h, 1, none⟩ = false)
theorem Blk.sto {h : Nat} {t : TypeId} {W : World} (hb : Blk h t W) : Sto h W := by
  obtain ⟨x, y, hh⟩ := hb
  obtain ⟨c0, c1⟩ := cell2 hh
  refine ⟨⟨?_, ?_⟩, frozen_of_row _ _ _ _ _ hh, frozen_of_row _ _ _ _ _ hh⟩
  · unfold valAt; rw [c0]; rfl
  · unfold valAt; rw [c1]; rfl
theorem Blk.up {h : Nat} {t : TypeId} {W W' : World} (hb : Blk h t W) (hu : Below W.heap.size W W') : Blk h t W' := by
  obtain ⟨x, y, hh⟩ := hb
  exact ⟨x, y, heap_up hu hh⟩
theorem store2 {W : World} {h : Nat} {t : TypeId} (hb : Blk h t W) (a b : Value) : ((W.setCell ⟨h, 0, none⟩ a).setCell ⟨h, 1, none⟩ b).heap[h]? = some (.cells #[a, b] t (0, 0)) := by
  obtain ⟨x, y, hh⟩ := hb
  exact heap_setCell_same _ h 1 _ _ b (heap_setCell_same W h 0 _ _ a hh)
theorem Blk.store {h : Nat} {t : TypeId} {W : World} (hb : Blk h t W) (a b : Value) : Blk h t ((W.setCell ⟨h, 0, none⟩ a).setCell ⟨h, 1, none⟩ b) := ⟨a, b, store2 hb a b⟩
/-- a box that is read, a variable that is written -/
abbrev One (g : Nat) (u v : Value) (h : Nat) (t : TypeId) (wz W : World) : Prop :=
  (W.cell? ⟨g, 0, none⟩ = some u ∧ W.cell? ⟨g, 1, none⟩ = some v) ∧ Sto h W ∧ Blk h t W ∧ Below (g + 1) wz W ∧ g + 1 ≤ W.heap.size
theorem one_of {g h : Nat} {u v : Value} {t t' : TypeId} {wz W : World} (h1 : wz.heap[g]? = some (.cells #[u, v] t' (0, 0))) (h2 : Blk h t W) (hb : Below (g + 1) wz W) (hs : g + 1 ≤ W.heap.size) : One g u v h t wz W :=
  ⟨cell2 ((hb.block g (Nat.lt_succ_self _)).trans h1), h2.sto, h2, hb, hs⟩
theorem One.up {g h : Nat} {u v : Value} {t t' : TypeId} {wz W W' : World} (h1 : wz.heap[g]? = some (.cells #[u, v] t' (0, 0))) (ho : One g u v h t wz W) (hb : Below W.heap.size W W') : One g u v h t wz W' :=
  one_of h1 (ho.2.2.1.up hb) (ho.2.2.2.1.trans (hb.mono ho.2.2.2.2)) (Nat.le_trans ho.2.2.2.2 hb.size)
theorem One.store {g h : Nat} {u v : Value} {t t' : TypeId} {wz W : World} (h1 : wz.heap[g]? = some (.cells #[u, v] t' (0, 0))) (hgh : g < h) (ho : One g u v h t wz W) (a b : Value) : One g u v h t wz ((W.setCell ⟨h, 0, none⟩ a).setCell ⟨h, 1, none⟩ b) :=
  one_of h1 (ho.2.2.1.store a b) ((ho.2.2.2.1.setCell (p := ⟨h, 0, none⟩) hgh a).setCell (p := ⟨h, 1, none⟩) hgh b) (by simpa using ho.2.2.2.2)

/-! Copied -/
set_option maxRecDepth 100000 in
set_option maxHeartbeats 4000000 in
theorem copied_any (g : Gr) (An : Option Addr) (cn : Nat) (Ae : Option Addr) (ce : Nat) (w : World) (hf : g.ns.length ≤ 1000 ∧ g.es.length ≤ 1000) (hT : GrAt w An cn Ae ce g) :
    Calls Tryz.prog 7 #[gval An g.ns.length cn Ae g.es.length ce] w fun e w' => (∃ v u, e = .returned (.agg #[v, u]) ∧ OwnZ EInt 3 w' w.heap.size v g.ns ∧ OwnZ EEd 58 w' w.heap.size u g.es) ∧ Below w.heap.size w w' := by
  obtain ⟨wz, hwz⟩ : ∃ wz, wz = (w.alloc (.cells #[.slice An g.ns.length cn, .slice Ae g.es.length ce] 25 (0, 0))).alloc (.cells #[.slice none 0 0, .slice none 0 0] 25 (0, 0)) := ⟨_, rfl⟩
  have hb0 : Below w.heap.size w wz := by rw [hwz]; exact ((Below.refl _ _).alloc (Nat.le_refl _) _).alloc (by simp) _
  have hh1 : wz.heap[w.heap.size]? = some (.cells #[.slice An g.ns.length cn, .slice Ae g.es.length ce] 25 (0, 0)) := by rw [hwz]; exact heap_two _ _ _
  have hh2 : Blk (w.heap.size + 1) 25 wz := ⟨_, _, by rw [hwz]; exact heap_two' _ _ _⟩
  have hzs : wz.heap.size = w.heap.size + 2 := by rw [hwz]; simp
  have hs1 : One w.heap.size (.slice An g.ns.length cn) (.slice Ae g.es.length ce) (w.heap.size + 1) 25 wz wz := one_of hh1 hh2 (Below.refl _ _) (by omega)
  have HU := Lib.hid (fun W W' h hb => One.up (h := w.heap.size + 1) (t := 25) (W := W) (W' := W') hh1 h hb)
  have HST := Lib.hid (fun W h a b => One.store (t := 25) (W := W) hh1 (Nat.lt_succ_self w.heap.size) h a b)
  have HBW : Hid (∀ W, One w.heap.size (.slice An g.ns.length cn) (.slice Ae g.es.length ce) (w.heap.size + 1) 25 wz W → Below w.heap.size w W) := Lib.hid fun W h => hb0.trans (h.2.2.2.1.mono (Nat.le_succ _))
  have HBZ : Hid (∀ W, One w.heap.size (.slice An g.ns.length cn) (.slice Ae g.es.length ce) (w.heap.size + 1) 25 wz W → w.heap.size + 2 ≤ W.heap.size) := Lib.hid fun W h => heap_lt h.2.2.1.choose_spec.choose_spec
  have HN := Lib.hid (fun W h => Reads.below hT.ns (HBW.out W h))
  have HE := Lib.hid (fun W h => Reads.below hT.es (HBW.out W h))
  have HS1 := Lib.hid hs1
  obtain ⟨l1, l2⟩ := hf
  have HZ := Lib.hid hzs
  clear hb0 hh1 hh2 hT hzs hs1
  go_enter Tryz.func7, Tryz.ntmps7
  go_wp2_with fail
  rw [← hwz]
  clear hwz
  go_region_held3 (One w.heap.size (.slice An g.ns.length cn) (.slice Ae g.es.length ce) (w.heap.size + 1) 25 wz)
    (first | assumption | exact HS1.out | exact HU.out _ _ (by first | assumption | exact HS1.out) (by first | exact below_a _ _ | exact below_ad _ _ | exact below_d _ | exact below_g (by assumption)) | exact HST.out _ (by assumption) _ _)
    ((first
      | (refine step_append_lit (E := EInt) (by rfl) _ _ 22 3 (by rfl) Tryz.underlying22 infoInt rfl (by decide) (by decide) _ (by rfl) An g.ns.length cn w.heap.size g.ns (by rfl) rfl (HN.out _ (by assumption)) (by omega) ?_; intro v1 w1 ho1 hg1; have hq1 := HU.out _ _ (by first | assumption | exact HS1.out) (below_g hg1); obtain ⟨ao1, cap1, rfl⟩ := ho1.slice)
      | (refine step_append_lit (E := EEd) (by rfl) _ _ 23 58 (by rfl) Tryz.underlying23 infoEd rfl (by decide) (by decide) _ (by rfl) Ae g.es.length ce w.heap.size g.es (by rfl) rfl (HE.out _ (by assumption)) (by omega) ?_; intro v2 w2 ho2 hg2; have hq2 := HU.out _ _ (by first | assumption | exact HS1.out) (below_g hg2); obtain ⟨ao2, cap2, rfl⟩ := ho2.slice)))
  all_goals
    have hb12 : Below w1.heap.size w1 w2 := by
      first
        | exact below_g hg2
        | exact (below_a _ _).trans ((below_g hg2).mono (by simp))
        | exact (below_ad _ _).trans ((below_g hg2).mono (by simp))
    have hs1 := (HBZ.out _ hq1)
    have hz := HZ.out
    have HO1 := Lib.hid ((ho1.below hb12 (Nat.le_refl _)).mono (base' := w.heap.size + 2) (by first | (simp; omega) | omega))
    have HO2 := Lib.hid (ho2.mono (base' := w.heap.size + 2) (by first | (simp; omega) | omega))
    have hh := store2 hq2.2.2.1 (.slice ao1 g.ns.length cap1) (.slice ao2 g.es.length cap2)
    obtain ⟨r0, r1⟩ := cell2 hh
    have HBF := Lib.hid (HBW.out _ hq2)
    clear hb12 hs1 hz hh ho1 ho2 hg1 hg2 hq1 hq2
    go_wp2_with fail
    refine bodyPost_ret (v := gval ao1 g.ns.length cap1 ao2 g.es.length cap2) (by simp [results, Tryz.results7, go_sem, r0, r1]) rfl ?_
    exact ⟨⟨_, _, rfl, ((HO1.out.stored (by simp) _).stored (by simp) _).mono (by omega), ((HO2.out.stored (by simp) _).stored (by simp) _).mono (by omega)⟩, (HBF.out.setCell (by simp) _).setCell (by simp) _⟩

end Go.Proofs.YthnhacncnhknnaaGreatDoor

/-
  Graphs: a function's box and its result variable; append tq a clipped slice.
-/
namespace Go.Proofs.YthnhacncnhknnaaGreatDoor
open Go.RowKit

/-- block g holds an edge -/
def EdIs (g : Nat) (x : Ed) (W : World) : Prop := W.heap[g]? = some (.cells #[.int .i64 x.ty, .int .i64 x.fr, .int .i64 x.tq] 58 (0, 0))
/-- block g is a box of two cells -/
def BoxIs (g : Nat) (u v : Value) (t : TypeId) (W : World) : Prop := W.heap[g]? = some (.cells #[u, v] t (0, 0))
theorem BoxIs.up {g : Nat} {u v : Value} {t : TypeId} {W W' : World} (h : BoxIs g u v t W) (hb : Below W.heap.size W W') : BoxIs g u v t W' := heap_up hb h
theorem BoxIs.cells {g : Nat} {u v : Value} {t : TypeId} {W : World} (h : BoxIs g u v t W) : W.cell? ⟨g, 0, none⟩ = some u ∧ W.cell? ⟨g, 1, none⟩ = some v := cell2 h
theorem BoxIs.set {g : Nat} {u v : Value} {t : TypeId} {W : World} (h : BoxIs g u v t W) {p : Addr} (hp : p.block ≠ g) (x : Value) : BoxIs g u v t (W.setCell p x) := (Below.heap_setCell W p x g (fun e => hp e.symm)).trans h
theorem Blk.set {g : Nat} {t : TypeId} {W : World} (h : Blk g t W) {p : Addr} (hp : p.block ≠ g) (x : Value) : Blk g t (W.setCell p x) := by
  obtain ⟨a, b, hh⟩ := h
  exact ⟨a, b, (Below.heap_setCell W p x g (fun e => hp e.symm)).trans hh⟩
theorem BoxIs.grow {g : Nat} {u v : Value} {t t0 : TypeId} {base : Nat} {W W' : World} (h : BoxIs g u v t W) (ht : t ≠ t0) (hg : Grow t0 base W W') : BoxIs g u v t W' := hg.2 g _ _ ht h
theorem Blk.grow {g : Nat} {t t0 : TypeId} {base : Nat} {W W' : World} (h : Blk g t W) (ht : t ≠ t0) (hg : Grow t0 base W W') : Blk g t W' := by
  obtain ⟨a, b, hh⟩ := h
  exact ⟨a, b, hg.2 g _ _ ht hh⟩
section
variable {α : Type} {E : El α}
end
theorem new_ed {w : World} {g : Nat} {m : Ed} {t : TypeId} (h : w.heap[g]? = some (.cells #[.int .i64 m.ty, .int .i64 m.fr, .int .i64 m.tq] t (0, 0))) : ∀ j u, (EEd.enc m)[j]? = some u → w.cell? ((⟨g, 0, none⟩ : Addr).add j) = some u := news_of (E := EEd) h rfl

theorem BoxIs.free {g : Nat} {u v : Value} {t : TypeId} {W : World} (h : BoxIs g u v t W) (j : Nat) : W.frozen? ⟨g, j, none⟩ = false := frozen_of_row _ _ _ _ _ h
theorem BoxIs.set0 {g : Nat} {u v : Value} {t : TypeId} {W : World} (h : BoxIs g u v t W) (x : Value) : BoxIs g x v t (W.setCell ⟨g, 0, none⟩ x) := heap_setCell_same W g 0 _ _ x h
theorem BoxIs.set1 {g : Nat} {u v : Value} {t : TypeId} {W : World} (h : BoxIs g u v t W) (x : Value) : BoxIs g u x t (W.setCell ⟨g, 1, none⟩ x) := heap_setCell_same W g 1 _ _ x h
theorem OwnZ.set {α : Type} {E : El α} {t t' : TypeId} {w : World} {base g : Nat} {v a b x : Value} {xs : List α} (h : OwnZ E t w base v xs) (hb : BoxIs g a b t' w) (ht : t ≠ t') (j : Nat) : OwnZ E t (w.setCell ⟨g, j, none⟩ x) base v xs := by
  refine h.imp (fun h => ?_) id
  refine ⟨h.1, ?_⟩
  rcases h.2 with hn | ⟨g2, cap, cur, hv, hbg, hh, rest⟩
  · exact .inl hn
  · refine .inr ⟨g2, cap, cur, hv, hbg, (Below.heap_setCell w ⟨g, j, none⟩ x g2 (fun e => ?_)).trans hh, rest⟩
    have e : g2 = g := e
    subst e
    unfold BoxIs at hb
    rw [hb] at hh
    simp only [Option.some.injEq, Obj.cells.injEq] at hh
    exact ht hh.2.1.symm
end Go.Proofs.YthnhacncnhknnaaGreatDoor
