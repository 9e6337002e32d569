/-
  Graphs in memory.
-/
import Derived.Test.YtiafmhdicgmfaaaGMath
import Derived.Test.YtiafmhdicgmfaaaBase
import Derived.Test.YtiafmhdicgmfaaaAppm
namespace Go.Proofs.Ytiafmhdicgmfaaa
open Go.RowKit

abbrev I64 (x : Int) : Prop := -9223372036854775808 ≤ x ∧ x ≤ 9223372036854775807
def EEd : El Ed := ⟨fun x => [.int .i64 x.ty, .int .i64 x.fr, .int .i64 x.to], 3, fun _ => rfl, fun x u hu => by simp at hu; rcases hu with rfl | rfl | rfl <;> rfl⟩
abbrev Eds (w : World) (B : Nat) (A : Option Addr) (xs : List Ed) : Prop := Reads EEd w B A xs
abbrev OwnEd (w : World) (base : Nat) (v : Value) (xs : List Ed) : Prop := OwnE EEd 36 w base v xs
theorem infoEd : (Try.prog.info? 36).map (fun i => (i.zero, i.size, i.bytes)) = some (some (.agg #[.int .i64 0, .int .i64 0, .int .i64 0]), 3, 24) := by kernel_rfl
theorem Eds.cells {w : World} {B : Nat} {A : Option Addr} {xs : List Ed} (h : Eds w B A xs) {k : Nat} (hk : k < xs.length) :
    ∃ b off, A = some ⟨b, off, none⟩ ∧ b < B ∧ ∀ i, i < xs.length → w.cell? ⟨b, off + i * 3, none⟩ = some (.int .i64 (xs.getD i default).ty) ∧ w.cell? ⟨b, off + i * 3 + 1, none⟩ = some (.int .i64 (xs.getD i default).fr) ∧ w.cell? ⟨b, off + i * 3 + 2, none⟩ = some (.int .i64 (xs.getD i default).to) := by
  obtain ⟨b, off, h1, h2, h3⟩ := Reads.at h hk
  refine ⟨b, off, h1, h2, fun i hi => ?_⟩
  have e : xs.getD i default = xs[i] := by rw [List.getD_eq_getElem?_getD, List.getElem?_eq_getElem hi]; rfl
  rw [e]
  exact ⟨h3 i hi 0 _ rfl, h3 i hi 1 _ rfl, h3 i hi 2 _ rfl⟩

/-- the value of a graph, a morphism or a part: two slices -/
abbrev gval (An : Option Addr) (n cn : Nat) (Ae : Option Addr) (m ce : Nat) : Value := .agg #[.slice An n cn, .slice Ae m ce]
/-- two slices read as a graph -/
structure GrAt (w : World) (An : Option Addr) (cn : Nat) (Ae : Option Addr) (ce : Nat) (g : Gr) : Prop where
  ns : Ints w w.heap.size An g.ns
  es : Eds w w.heap.size Ae g.es
  cn : g.ns.length ≤ cn ∧ cn ≤ maxLen
  ce : g.es.length ≤ ce ∧ ce ≤ maxLen
structure MoAt (w : World) (An : Option Addr) (cn : Nat) (Ae : Option Addr) (ce : Nat) (m : Mo) : Prop where
  ns : Ints w w.heap.size An m.ns
  es : Ints w w.heap.size Ae m.es
  cn : m.ns.length ≤ cn ∧ cn ≤ maxLen
  ce : m.es.length ≤ ce ∧ ce ≤ maxLen
theorem GrAt.up {w w' : World} {An : Option Addr} {cn : Nat} {Ae : Option Addr} {ce : Nat} {g : Gr} (h : GrAt w An cn Ae ce g) (hb : Below w.heap.size w w') : GrAt w' An cn Ae ce g := ⟨Reads.up h.ns hb, Reads.up h.es hb, h.cn, h.ce⟩
theorem MoAt.up {w w' : World} {An : Option Addr} {cn : Nat} {Ae : Option Addr} {ce : Nat} {g : Mo} (h : MoAt w An cn Ae ce g) (hb : Below w.heap.size w w') : MoAt w' An cn Ae ce g := ⟨Reads.up h.ns hb, Reads.up h.es hb, h.cn, h.ce⟩
/-- a slice value that reads as a list -/
def IsI (w : World) (v : Value) (xs : List Int) : Prop := ∃ A c, v = .slice A xs.length c ∧ Ints w w.heap.size A xs ∧ xs.length ≤ c ∧ c ≤ maxLen
def IsE (w : World) (v : Value) (xs : List Ed) : Prop := ∃ A c, v = .slice A xs.length c ∧ Eds w w.heap.size A xs ∧ xs.length ≤ c ∧ c ≤ maxLen
/-- a value that reads as a graph, or as a morphism -/
def IsG (w : World) (v : Value) (g : Gr) : Prop := ∃ An cn Ae ce, v = gval An g.ns.length cn Ae g.es.length ce ∧ GrAt w An cn Ae ce g
def IsM (w : World) (v : Value) (m : Mo) : Prop := ∃ An cn Ae ce, v = gval An m.ns.length cn Ae m.es.length ce ∧ MoAt w An cn Ae ce m
theorem IsI.up {w w' : World} {v : Value} {xs : List Int} (h : IsI w v xs) (hb : Below w.heap.size w w') : IsI w' v xs := by
  obtain ⟨A, c, e, h1, h2⟩ := h
  exact ⟨A, c, e, Reads.up h1 hb, h2⟩
theorem IsE.up {w w' : World} {v : Value} {xs : List Ed} (h : IsE w v xs) (hb : Below w.heap.size w w') : IsE w' v xs := by
  obtain ⟨A, c, e, h1, h2⟩ := h
  exact ⟨A, c, e, Reads.up h1 hb, h2⟩
theorem IsG.up {w w' : World} {v : Value} {g : Gr} (h : IsG w v g) (hb : Below w.heap.size w w') : IsG w' v g := by
  obtain ⟨An, cn, Ae, ce, e, h1⟩ := h
  exact ⟨An, cn, Ae, ce, e, h1.up hb⟩
theorem IsM.up {w w' : World} {v : Value} {g : Mo} (h : IsM w v g) (hb : Below w.heap.size w w') : IsM w' v g := by
  obtain ⟨An, cn, Ae, ce, e, h1⟩ := h
  exact ⟨An, cn, Ae, ce, e, h1.up hb⟩
theorem own_cap {w : World} {base : Nat} {e : TypeId} {size : Nat} {v : Value} {n : Nat} {xs : List Value} (h : w.ownsRow base e size v n xs) : ∃ ao cap, v = .slice ao n cap ∧ n ≤ cap ∧ cap ≤ maxLen := by
  rcases h.2 with ⟨hv, h0⟩ | ⟨g, cap, cur, hv, _, _, h1, h2, _⟩
  · exact ⟨none, 0, by rw [hv, h0], by omega, by unfold maxLen; omega⟩
  · exact ⟨_, _, hv, h1, h2⟩
theorem OwnE.reads_cap {α : Type} {E : El α} {t : TypeId} {w : World} {base : Nat} {v : Value} {xs : List α} (h : OwnE E t w base v xs) : ∃ A c, v = .slice A xs.length c ∧ Reads E w w.heap.size A xs ∧ xs.length ≤ c ∧ c ≤ maxLen := by
  obtain ⟨A, c, e, hR⟩ := OwnE.reads h
  obtain ⟨A', c', e', h1, h2⟩ := own_cap h
  rw [e] at e'
  injection e' with _ _ ec
  subst ec
  exact ⟨A, c, e, hR, h1, h2⟩
theorem isI_own {w : World} {base : Nat} {v : Value} {xs : List Int} (h : OwnI w base v xs) : IsI w v xs := OwnE.reads_cap h
theorem isE_own {w : World} {base : Nat} {v : Value} {xs : List Ed} (h : OwnEd w base v xs) : IsE w v xs := OwnE.reads_cap h
theorem isG_of {w : World} {v u : Value} {g : Gr} (h1 : IsI w v g.ns) (h2 : IsE w u g.es) : IsG w (.agg #[v, u]) g := by
  obtain ⟨A, c, rfl, h3, h4⟩ := h1
  obtain ⟨A', c', rfl, h5, h6⟩ := h2
  exact ⟨A, c, A', c', rfl, h3, h5, h4, h6⟩
theorem isM_of {w : World} {v u : Value} {g : Mo} (h1 : IsI w v g.ns) (h2 : IsI w u g.es) : IsM w (.agg #[v, u]) g := by
  obtain ⟨A, c, rfl, h3, h4⟩ := h1
  obtain ⟨A', c', rfl, h5, h6⟩ := h2
  exact ⟨A, c, A', c', rfl, h3, h5, h4, h6⟩
theorem isI_nil (w : World) : IsI w (.slice none 0 0) [] := ⟨none, 0, rfl, .inl rfl, Nat.le_refl _, by unfold maxLen; omega⟩
theorem isE_nil (w : World) : IsE w (.slice none 0 0) [] := ⟨none, 0, rfl, .inl rfl, Nat.le_refl _, by unfold maxLen; omega⟩
theorem isG_nil (w : World) : IsG w (gval none 0 0 none 0 0) noG := isG_of (g := noG) (isI_nil w) (isE_nil w)
theorem isM_nil (w : World) : IsM w (gval none 0 0 none 0 0) noM := isM_of (g := noM) (isI_nil w) (isI_nil w)

theorem box_cell {w w1 : World} {u v : Value} {t : TypeId} (h : Below (w.heap.size + 1) (w.alloc (.cells #[u, v] t (0, 0))) w1) : w1.cell? ⟨w.heap.size, 0, none⟩ = some u ∧ w1.cell? ⟨w.heap.size, 1, none⟩ = some v :=
  ⟨(h.cell (p := ⟨w.heap.size, 0, none⟩) (Nat.lt_succ_self _)).trans (by simp), (h.cell (p := ⟨w.heap.size, 1, none⟩) (Nat.lt_succ_self _)).trans (by simp)⟩
theorem box_below {w w1 : World} {o : Obj} (h : Below (w.heap.size + 1) (w.alloc o) w1) : Below w.heap.size w w1 := ((Below.refl _ _).alloc (Nat.le_refl _) _).trans (h.mono (Nat.le_succ _))
theorem below_one' {w w1 : World} {o : Obj} (h : Below (w.alloc o).heap.size (w.alloc o) w1) : Below (w.heap.size + 1) (w.alloc o) w1 := h.mono (by simp)

theorem boxes2 {w w1 : World} {o o2 : Obj} (h : Below ((w.alloc o).alloc o2).heap.size ((w.alloc o).alloc o2) w1) : w1.heap[w.heap.size]? = some o ∧ w1.heap[w.heap.size + 1]? = some o2 ∧ w.heap.size + 2 ≤ w1.heap.size :=
  ⟨(h.block w.heap.size (by simp; omega)).trans (heap_two w o o2), (h.block (w.heap.size + 1) (by simp)).trans (heap_two' w o o2), by have := h.size; simpa using this⟩
theorem cell2 {w : World} {b : Nat} {u v : Value} {t : TypeId} (h : w.heap[b]? = some (.cells #[u, v] t (0, 0))) : w.cell? ⟨b, 0, none⟩ = some u ∧ w.cell? ⟨b, 1, none⟩ = some v :=
  ⟨cell_of_row _ _ _ _ _ _ h, cell_of_row _ _ _ _ _ _ h⟩
theorem cell3 {w : World} {b : Nat} {u v x : Value} {t : TypeId} (h : w.heap[b]? = some (.cells #[u, v, x] t (0, 0))) : w.cell? ⟨b, 0, none⟩ = some u ∧ w.cell? ⟨b, 1, none⟩ = some v ∧ w.cell? ⟨b, 2, none⟩ = some x :=
  ⟨cell_of_row _ _ _ _ _ _ h, cell_of_row _ _ _ _ _ _ h, cell_of_row _ _ _ _ _ _ h⟩
theorem heap_up {w w1 : World} {b : Nat} {o : Obj} (hb : Below w.heap.size w w1) (h : w.heap[b]? = some o) : w1.heap[b]? = some o := (hb.block b (Array.getElem?_eq_some_iff.1 h).1).trans h
theorem heap_lt {w : World} {b : Nat} {o : Obj} (h : w.heap[b]? = some o) : b < w.heap.size := (Array.getElem?_eq_some_iff.1 h).1

/-! isIndex, kind, isEdge, right -/
theorem isIndex_any (x : Int) (n : Nat) (w : World) : Calls Try.prog 43 #[.int .i64 x, .int .i64 (n : Int)] w fun e w' => e = .returned (.bool (idxB x n)) ∧ w = w' := by
  have H : Hid (idxB x n = (decide (0 ≤ x) && decide (x < (n : Int)))) := Lib.hid rfl
  by_cases h1 : 0 ≤ x
  · by_cases h2 : x < (n : Int)
    · go_enter Try.func43, Try.ntmps43
      go_wp2
      go_ret
      exact ⟨ret_bool (by rw [H.out, decide_eq_true h1, decide_eq_true h2]; rfl), rfl⟩
    · have h2' : (n : Int) ≤ x := by omega
      go_enter Try.func43, Try.ntmps43
      go_wp2
      go_ret
      exact ⟨ret_bool (by rw [H.out, decide_eq_true h1, decide_eq_false (p := x < (n : Int)) (by omega)]; rfl), rfl⟩
  · have h1' : x < 0 := by omega
    go_enter Try.func43, Try.ntmps43
    go_wp2
    go_ret
    exact ⟨ret_bool (by rw [H.out, decide_eq_false (p := 0 ≤ x) (by omega)]; rfl), rfl⟩
theorem kind_any (x : Int) (w : World) : Calls Try.prog 42 #[.int .i64 x] w fun e w' => e = .returned (.bool (idxB x 100)) ∧ w = w' := by
  have H : Hid (idxB x 100 = (decide (0 ≤ x) && decide (x < ((100 : Nat) : Int)))) := Lib.hid rfl
  by_cases h1 : 0 ≤ x
  · by_cases h2 : x ≤ 99
    · go_enter Try.func42, Try.ntmps42
      go_wp2
      go_ret
      exact ⟨ret_bool (by rw [H.out, decide_eq_true h1, decide_eq_true (by omega)]; rfl), rfl⟩
    · have h2' : 99 < x := by omega
      go_enter Try.func42, Try.ntmps42
      go_wp2
      go_ret
      exact ⟨ret_bool (by rw [H.out, decide_eq_true h1, decide_eq_false (p := x < ((100 : Nat) : Int)) (by omega)]; rfl), rfl⟩
  · have h1' : x < 0 := by omega
    go_enter Try.func42, Try.ntmps42
    go_wp2
    go_ret
    exact ⟨ret_bool (by rw [H.out, decide_eq_false (p := 0 ≤ x) (by omega)]; rfl), rfl⟩

end Go.Proofs.Ytiafmhdicgmfaaa
