/-
  Graphs: a graph, an edge, a list of numbers as an argument, opened.
-/
import Derived.Test.YtiafmhdicgmfaaaGMem
import Derived.Test.YtiafmhdicgmfaaaGVal
import Derived.Test.YtiafmhdicgmfaaaOpenE
import Derived.Lib.SmallJoins
namespace Go.Proofs.Ytiafmhdicgmfaaa
open Go.RowKit

section
open Go.ChangeShapes Go.WideShapes Go.Deep
variable {H : Type} {enc : TypeId × Value → H} {W : World} {fuel : Nat} {cs : List Value} {x : DataW H × List MemPlace}

theorem cellsInt : Try.prog.cellsOf 3 = 1 := by kernel_rfl
theorem cellsInts : Try.prog.cellsOf 22 = 1 := by kernel_rfl
theorem cellsEds : Try.prog.cellsOf 23 = 1 := by kernel_rfl
theorem cellsEd : Try.prog.cellsOf 36 = 3 := by kernel_rfl
theorem cellsGr : Try.prog.cellsOf 25 = 2 := by kernel_rfl
theorem int_of (h : DataW.trod enc Try.prog W 0 (fun _ => true) true fuel 3 cs = some x) : ∃ n, cs = [.int .i64 n] ∧ I64 n := by
  obtain ⟨n, e, _, hw⟩ := DataW.trod_int Try.underlying3 h
  exact ⟨n, e, bounds_i64 hw⟩
theorem agg_of {cs : Array Value} {l : List Value} (h : (Value.agg cs).cells.toList = l) : cs = l.toArray := by
  have h2 : (Value.agg cs).cells = cs := rfl
  rw [h2] at h
  rw [← h]
theorem two_of {cs : List Value} (hl : cs.length = 2) {u v : Value} (h0 : (cs.drop 0).take 1 = [u]) (h1 : (cs.drop 1).take 1 = [v]) : cs = [u, v] := by
  match cs, hl with
  | [a, b], _ => simp at h0 h1; rw [h0, h1]
theorem edge_of (h : DataW.trod enc Try.prog W 0 (fun _ => true) true fuel 36 cs = some x) : ∃ y : Ed, cs = EEd.enc y ∧ True := by
  obtain ⟨y0, y1, y2, n, _, hl, h0, h1, h2⟩ := trod_struct3 Try.underlying36 h
  dsimp only at h0 h1 h2
  rw [cellsInt] at h0 h1 h2
  rw [cellsEd] at hl
  obtain ⟨d, e0, _⟩ := int_of h0
  obtain ⟨a, e1, _⟩ := int_of h1
  obtain ⟨b, e2, _⟩ := int_of h2
  refine ⟨⟨d, a, b⟩, ?_, trivial⟩
  match cs, hl with
  | [c0, c1, c2], _ => simp at e0 e1 e2; rw [e0, e1, e2]; rfl
theorem open_I (h : DataW.trod enc Try.prog W 0 (fun _ => true) true fuel 22 cs = some x) :
    ∃ (A : Option Addr) (xs : List Int) (c : Nat), cs = [.slice A xs.length c] ∧ Ints W W.heap.size A xs ∧ xs.length ≤ c ∧ c ≤ maxLen := by
  obtain ⟨A, xs, c, e, hR, _, h1, h2⟩ := open_E EInt (fun _ => True) 3 22 Try.underlying22 cellsInt (by decide) (fun fuel cs x h => by obtain ⟨n, e, _⟩ := int_of h; exact ⟨n, e, trivial⟩) h
  exact ⟨A, xs, c, e, hR, h1, h2⟩
/-- a graph among the arguments -/
theorem open_G (h : DataW.trod enc Try.prog W 0 (fun _ => true) true fuel 25 cs = some x) :
    ∃ (g : Gr) (An : Option Addr) (cn : Nat) (Ae : Option Addr) (ce : Nat), cs = [.slice An g.ns.length cn, .slice Ae g.es.length ce] ∧ GrAt W An cn Ae ce g := by
  obtain ⟨y0, y1, n, hx, hl, h0, h1⟩ := trod_struct2 Try.underlying25 h
  dsimp only at h0 h1
  rw [cellsInts] at h0
  rw [cellsEds] at h1
  rw [cellsGr] at hl
  obtain ⟨An, ns, cn, e0, hN, hn1, hn2⟩ := open_I h0
  obtain ⟨Ae, es, ce, e1, hE, _, he1, he2⟩ := open_E EEd (fun _ => True) 36 23 Try.underlying23 cellsEd (by decide) (fun fuel cs x h => edge_of h) h1
  exact ⟨⟨ns, es⟩, An, cn, Ae, ce, two_of hl e0 e1, ⟨hN, hE, ⟨hn1, hn2⟩, ⟨he1, he2⟩⟩⟩
end

end Go.Proofs.Ytiafmhdicgmfaaa
