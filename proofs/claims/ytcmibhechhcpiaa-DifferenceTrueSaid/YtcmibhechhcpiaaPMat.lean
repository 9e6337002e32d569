/-
  Difference, the program: arrays of 13 rows of 13 numbers in memory.
  Difference, the program: a row of 13 numbers by value; its load and its index.
-/
import Derived.Test.YtcmibhechhcpiaaDFur
import Derived.Deep.MidRow
import Derived.Laws.Rows
namespace Go.Proofs.Ytcmibhechhcpiaa
open Go.RowKit

def matL (M : Nat → Nat → Int) : List Value := (List.range 169).map fun k => .int .i64 (M (k / 13) (k % 13))
def matA (M : Nat → Nat → Int) : Array Value := (matL M).toArray
theorem matL_length (M : Nat → Nat → Int) : (matL M).length = 169 := by simp [matL]
theorem matA_size (M : Nat → Nat → Int) : (matA M).size = 169 := by simp [matA, matL_length]
theorem mat_zero : Try.zeroCells85 = matA fun _ _ => 0 := by kernel_rfl
theorem matL_get (M : Nat → Nat → Int) {i j : Nat} (hi : i < 13) (hj : j < 13) : (matL M)[i * 13 + j]? = some (.int .i64 (M i j)) := by
  unfold matL
  rw [List.getElem?_map, List.getElem?_range (by omega)]
  simp only [Option.map_some]
  rw [show (i * 13 + j) / 13 = i by omega, show (i * 13 + j) % 13 = j by omega]
theorem matA_get (M : Nat → Nat → Int) {i j : Nat} (hi : i < 13) (hj : j < 13) : (matA M)[i * 13 + j]? = some (.int .i64 (M i j)) := by
  unfold matA
  rw [List.getElem?_toArray]
  exact matL_get M hi hj
theorem matL_set (M : Nat → Nat → Int) {i j : Nat} (hj : j < 13) (x : Int) : (matL M).set (i * 13 + j) (.int .i64 x) = matL (updM M i j x) := by
  apply List.ext_getElem?
  intro k
  by_cases hk : k < 169
  · rw [List.getElem?_set]
    unfold matL
    rw [List.length_map, List.length_range, List.getElem?_map, List.getElem?_map, List.getElem?_range hk]
    simp only [Option.map_some, updM]
    by_cases e : i * 13 + j = k
    · rw [if_pos e, if_pos (by omega), if_pos ⟨by omega, by omega⟩]
    · rw [if_neg e, if_neg (by omega)]
  · rw [List.getElem?_eq_none (by rw [List.length_set, matL_length]; omega), List.getElem?_eq_none (by rw [matL_length]; omega)]
theorem matA_set (M : Nat → Nat → Int) {i j : Nat} (hj : j < 13) (x : Int) : (matA M).setIfInBounds (i * 13 + j) (.int .i64 x) = matA (updM M i j x) := by
  unfold matA
  rw [List.setIfInBounds_toArray, matL_set M hj]
theorem matA_ext {M N : Nat → Nat → Int} (h : ∀ i j, i < 13 → j < 13 → M i j = N i j) : matA M = matA N := by
  unfold matA matL
  congr 1
  apply List.map_congr_left
  intro k hk
  simp only [List.mem_range] at hk
  rw [h (k / 13) (k % 13) (by omega) (by omega)]
theorem matA_all (M : Nat → Nat → Int) : (matA M).all (·.oneCell') = true := by
  refine all_oneCell_toArray fun v hv => ?_
  simp only [matL, List.mem_map] at hv
  obtain ⟨k, _, rfl⟩ := hv
  rfl
theorem infoSum1 : (Try.prog.info? 85).map (·.size) = some 169 := by kernel_rfl

/-- block g is an array M -/
def Mat (w : World) (g : Nat) (M : Nat → Nat → Int) : Prop := w.heap[g]? = some (.cells (matA M) 85 (0, 0))
theorem Mat.cell {w : World} {g : Nat} {M : Nat → Nat → Int} (h : Mat w g M) {i j : Nat} (hi : i < 13) (hj : j < 13) : w.cell? ⟨g, i * 13 + j, none⟩ = some (.int .i64 (M i j)) := by
  rw [cell_of_row _ _ _ _ _ _ h, matA_get M hi hj]
theorem Mat.free {w : World} {g : Nat} {M : Nat → Nat → Int} (h : Mat w g M) (i : Nat) : w.frozen? ⟨g, i, none⟩ = false := frozen_of_row _ _ _ _ _ h
theorem Mat.lt {w : World} {g : Nat} {M : Nat → Nat → Int} (h : Mat w g M) : g < w.heap.size := (Array.getElem?_eq_some_iff.1 h).1
theorem Mat.set {w : World} {g : Nat} {M : Nat → Nat → Int} (h : Mat w g M) {i j : Nat} (hj : j < 13) (x : Int) : Mat (w.setCell ⟨g, i * 13 + j, none⟩ (.int .i64 x)) g (updM M i j x) := by
  unfold Mat
  rw [heap_setCell_same _ _ _ _ _ _ h, matA_set M hj]
theorem Mat.other {w : World} {g : Nat} {M : Nat → Nat → Int} (h : Mat w g M) {p : Addr} (hp : g ≠ p.block) (v : Value) : Mat (w.setCell p v) g M := by
  unfold Mat
  rw [heap_setCell_other _ _ _ _ hp]
  exact h
theorem Mat.ext {w : World} {g : Nat} {M N : Nat → Nat → Int} (h : Mat w g M) (e : ∀ i j, i < 13 → j < 13 → M i j = N i j) : Mat w g N := by
  unfold Mat
  rw [← matA_ext e]
  exact h
theorem Mat.alloc {w : World} {g : Nat} {M : Nat → Nat → Int} (h : Mat w g M) (o : Obj) : Mat (w.alloc o) g M := (Below.heap_alloc w o g h.lt).trans h
theorem Mat.drewN {w : World} {g : Nat} {M : Nat → Nat → Int} (h : Mat w g M) (n : Nat) : Mat (w.drewN n) g M := h
theorem Mat.drew {w : World} {g : Nat} {M : Nat → Nat → Int} (h : Mat w g M) : Mat w.drew g M := h
theorem Mat.below {w w' : World} {g B : Nat} {M : Nat → Nat → Int} (h : Mat w g M) (hb : Below B w w') (hg : g < B) : Mat w' g M := (hb.block g hg).trans h
theorem Mat.new (w : World) (M : Nat → Nat → Int) : Mat (w.alloc (.cells (matA M) 85)) w.heap.size M := heap_alloc_new _ _
theorem Mat.there {w : World} {g : Nat} {M : Nat → Nat → Int} (h : Mat w g M) : w.there g 0 169 := fun j hj => by
  rw [Nat.zero_add]
  refine ⟨?_, h.free j⟩
  rw [show j = (j / 13) * 13 + j % 13 by omega, h.cell (by omega) (by omega)]
  rfl
theorem Mat.range {w : World} {g : Nat} {M : Nat → Nat → Int} (h : Mat w g M) : w.rangeAt g 0 (matL M) := fun j v hv => by
  rw [Nat.zero_add, cell_of_row _ _ _ _ _ _ h]
  unfold matA
  rw [List.getElem?_toArray]
  exact hv

theorem below_setCells {B : Nat} {a : World} (b : Nat) (hb : B ≤ b) : ∀ (vs : List Value) (o : Nat) (w : World), Below B a w → Below B a (w.setCells b o vs) := by
  intro vs
  induction vs with
  | nil => intro o w h; exact h
  | cons v vs ih => intro o w h; exact ih (o + 1) _ (h.setCell (p := ⟨b, o, none⟩) hb v)
theorem size_setCells (b : Nat) : ∀ (vs : List Value) (o : Nat) (w : World), (w.setCells b o vs).heap.size = w.heap.size := by
  intro vs
  induction vs with
  | nil => intro o w; rfl
  | cons v vs ih => intro o w; exact (ih (o + 1) _).trans (by simp [World.setCell])
/-- a result of this type, out of its variable -/
theorem results_mat {fn : Func} {p : Tmp} (h : fn.results = #[.cell p 85]) (tmps : Array Value) (w : World) (g : Nat) (M : Nat → Nat → Int)
    (hp : tmps.getD p undef = .pointer (some ⟨g, 0, none⟩)) (hg : w.rangeAt g 0 (matL M)) : (results fn tmps).run Try.prog w = .ok (.agg (matA M)) w := by
  have hp' : tmps[p]?.getD undef = .pointer (some ⟨g, 0, none⟩) := by simpa using hp
  simp [results, h, hp', asAddr, run_loadVar_mid w g 0 85 (matL M) _ hg Try.underlying85 rfl (by rw [matL_length]; exact infoSum1), matA]
theorem wpList_load_mat {ops : Array Oper} {rest : List Oper} {o : Oper} {a : Act} {w : World} {Q : Exit → Act → World → Prop} (hgd : o.guard = none) (x : Operand) (ho : o.op = .load 85 x)
    (g : Nat) (M : Nat → Nat → Int) (hx : a.eval x = .pointer (some ⟨g, 0, none⟩)) (hg : w.rangeAt g 0 (matL M))
    (h : wpList Try.prog ops Q rest (a.put o.dst (.agg (matA M))) w) : wpList Try.prog ops Q (o :: rest) a w :=
  wpList_load_mid hgd 85 x ho g 0 hx (matL M) _ hg Try.underlying85 rfl (by rw [matL_length]; exact infoSum1) h
theorem wpList_store_mat {ops : Array Oper} {rest : List Oper} {o : Oper} {a : Act} {w : World} {Q : Exit → Act → World → Prop} (hgd : o.guard = none) (x y : Operand) (ho : o.op = .store 85 x y)
    (g : Nat) (M : Nat → Nat → Int) (hx : a.eval x = .pointer (some ⟨g, 0, none⟩)) (hy : a.eval y = .agg (matA M)) (ht : w.there g 0 169)
    (h : ∀ w', w'.rangeAt g 0 (matL M) → (∀ B a, B ≤ g → Below B a w → Below B a w') → w'.heap.size = w.heap.size → wpList Try.prog ops Q rest (a.put o.dst undef) w') : wpList Try.prog ops Q (o :: rest) a w := by
  refine wpList_store_mid hgd 85 x y ho g 0 (matA M) hx hy (by rw [matA_size]; exact ht) (by rw [matA_size]; exact infoSum1) (matA_all M) ?_
  have e : (matA M).toList = matL M := by simp [matA]
  rw [e]
  exact h _ (World.rangeAt_setCells_same w g 0 (matL M) (by rw [matL_length]; exact ht)) (fun B a hB hb => below_setCells g hB _ 0 w hb) (size_setCells g _ 0 w)

end Go.Proofs.Ytcmibhechhcpiaa

namespace Go.Proofs.Ytcmibhechhcpiaa
open Go.RowKit

def rowL (f : Nat → Int) : List Value := (List.range 13).map fun j => .int .i64 (f j)
def rowA (f : Nat → Int) : Array Value := (rowL f).toArray
theorem rowL_get (f : Nat → Int) {j : Nat} (hj : j < 13) : (rowL f)[j]? = some (.int .i64 (f j)) := by
  unfold rowL
  rw [List.getElem?_map, List.getElem?_range hj]
  rfl
theorem infoRowE : (Try.prog.info? 83).map (·.size) = some 13 := by kernel_rfl
theorem infoIntE : (Try.prog.info? 3).map (·.size) = some 1 := by kernel_rfl
theorem Mat.rangeRow {w : World} {g : Nat} {M : Nat → Nat → Int} (h : Mat w g M) {i : Nat} (hi : i < 13) : w.rangeAt g (i * 13) (rowL (M i)) := fun j v hv => by
  have hj : j < 13 := by have := (List.getElem?_eq_some_iff.1 hv).1; simpa [rowL] using this
  rw [rowL_get _ hj] at hv
  rw [h.cell hi hj]
  exact hv
theorem wpList_load_rowM {ops : Array Oper} {rest : List Oper} {o : Oper} {a : Act} {w : World} {Q : Exit → Act → World → Prop} (hgd : o.guard = none) (x : Operand) (ho : o.op = .load 83 x)
    (g off : Nat) (f : Nat → Int) (hx : a.eval x = .pointer (some ⟨g, off, none⟩)) (hg : w.rangeAt g off (rowL f))
    (h : wpList Try.prog ops Q rest (a.put o.dst (.agg (rowA f))) w) : wpList Try.prog ops Q (o :: rest) a w :=
  wpList_load_mid hgd 83 x ho g off hx (rowL f) _ hg Try.underlying83 rfl (by rw [show (rowL f).length = 13 by simp [rowL]]; exact infoRowE) h
theorem run_index_row (f : Nat → Int) {j : Nat} (hj : j < 13) (w : World) : (Instr.index 83 (.agg (rowA f)) (.int .i64 (j : Int))).run Try.prog w = .ok (.int .i64 (f j)) w := by
  have h1 : (rowA f)[j]? = some (.int .i64 (f j)) := by unfold rowA; rw [List.getElem?_toArray]; exact rowL_get f hj
  have h2 : (0 : Int) ≤ (j : Int) ∧ (j : Int) < 13 := by omega
  obtain ⟨i0, hi, hs⟩ : ∃ i, Try.prog.info? 3 = some i ∧ i.size = 1 := by
    cases hq : Try.prog.info? 3 with
    | none => have := infoIntE; rw [hq] at this; cases this
    | some i => have := infoIntE; rw [hq] at this; exact ⟨i, rfl, by simpa using this⟩
  simp [Instr.index, run_underlying Try.underlying83, asIntOf, part, isAgg, run_underlying Try.underlying3, sizeOf, typeInfo, hi, hs, h1, h2]
  intro h
  omega

end Go.Proofs.Ytcmibhechhcpiaa
