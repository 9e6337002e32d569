/-
  Types: a type graph as an argument, opened.
-/
import Derived.Test.YtgpcaofikmdpjaaTPc
import Derived.Test.YtgpcaofikmdpjaaDeep2
import Derived.Lib.SmallJoins
namespace Go.Proofs.Ytgpcaofikmdpjaa
open Go.RowKit

section
open Go.ChangeShapes Go.WideShapes Go.Deep
variable {H : Type} {enc : TypeId × Value → H} {W : World} {fuel : Nat} {cs : List Value} {x : DataW H × List MemPlace}

theorem cellsStr : Try.prog.cellsOf 9 = 1 := by kernel_rfl
theorem cellsInt : Try.prog.cellsOf 3 = 1 := by kernel_rfl
theorem cellsBool : Try.prog.cellsOf 4 = 1 := by kernel_rfl
theorem cellsStrs : Try.prog.cellsOf 56 = 1 := by kernel_rfl
theorem cellsAttrs : Try.prog.cellsOf 35 = 1 := by kernel_rfl
theorem cellsNods : Try.prog.cellsOf 22 = 1 := by kernel_rfl
theorem cellsEdgs : Try.prog.cellsOf 23 = 1 := by kernel_rfl
theorem cellsAttr : Try.prog.cellsOf 58 = 4 := by kernel_rfl
theorem cellsNod : Try.prog.cellsOf 55 = 4 := by kernel_rfl
theorem cellsEdg : Try.prog.cellsOf 60 = 7 := by kernel_rfl
theorem cellsTyp : Try.prog.cellsOf 25 = 2 := by kernel_rfl
theorem bytesAttr : Try.prog.bytesOf 58 = 56 := by kernel_rfl
theorem int_of (h : DataW.trod enc Try.prog W 0 (fun _ => true) true fuel 3 cs = some x) : ∃ n, cs = [.int .i64 n] ∧ I64 n := by
  obtain ⟨n, e, _, hw⟩ := DataW.trod_int Try.underlying3 h
  exact ⟨n, e, bounds_i64 hw⟩
theorem str_of (h : DataW.trod enc Try.prog W 0 (fun _ => true) true fuel 9 cs = some x) : ∃ s, cs = [.string s] := by
  obtain ⟨s, e, _⟩ := DataW.trod_string Try.underlying9 h
  exact ⟨s, e⟩
theorem bool_of (h : DataW.trod enc Try.prog W 0 (fun _ => true) true fuel 4 cs = some x) : ∃ b, cs = [.bool b] := by
  obtain ⟨b, e, _⟩ := DataW.trod_bool Try.underlying4 h
  exact ⟨b, e⟩
theorem four_of {cs : List Value} (hl : cs.length = 4) {a b c d : Value} (h0 : (cs.drop 0).take 1 = [a]) (h1 : (cs.drop 1).take 1 = [b]) (h2 : (cs.drop 2).take 1 = [c]) (h3 : (cs.drop 3).take 1 = [d]) : cs = [a, b, c, d] := by
  match cs, hl with
  | [x, y, z, u], _ => simp at h0 h1 h2 h3; rw [h0, h1, h2, h3]
theorem attr_of (h : DataW.trod enc Try.prog W 0 (fun _ => true) true fuel 58 cs = some x) : ∃ y : Att, DAtt.rel W W.heap.size y cs ∧ True := by
  obtain ⟨y0, y1, y2, y3, n, _, hl, h0, h1, h2, h3⟩ := Go.Joins.trod_struct4 Try.underlying58 h
  dsimp only at h0 h1 h2 h3
  rw [cellsStr] at h0
  rw [cellsInt] at h1 h2
  rw [cellsStrs] at h3
  rw [cellsAttr] at hl
  obtain ⟨s, e0⟩ := str_of h0
  obtain ⟨lo, e1, _⟩ := int_of h1
  obtain ⟨hi, e2, _⟩ := int_of h2
  obtain ⟨A, ns, c, e3, hR, _, hnc, _⟩ := open_E EStr (fun _ => True) 9 56 Try.underlying56 cellsStr (by decide) (fun fuel cs x h => by obtain ⟨s, e⟩ := str_of h; exact ⟨s, e, trivial⟩) h3
  exact ⟨⟨s, lo, hi, ns⟩, ⟨A, c, four_of hl e0 e1 e2 e3, hR, hnc⟩, trivial⟩
theorem node_of (h : DataW.trod enc Try.prog W 0 (fun _ => true) true fuel 55 cs = some x) : ∃ y : Nod, DNod.rel W W.heap.size y cs ∧ ((∀ n ∈ x.1.weights Try.prog 55, n ≤ reachBytes) → y.att.length ≤ 200000000000000) := by
  obtain ⟨y0, y1, y2, y3, n, hx, hl, h0, h1, h2, h3⟩ := Go.Joins.trod_struct4 Try.underlying55 h
  dsimp only at h0 h1 h2 h3
  rw [cellsStr] at h0
  rw [cellsInt] at h1
  rw [cellsBool] at h2
  rw [cellsAttrs] at h3
  rw [cellsNod] at hl
  obtain ⟨s, e0⟩ := str_of h0
  obtain ⟨par, e1, _⟩ := int_of h1
  obtain ⟨ab, e2⟩ := bool_of h2
  obtain ⟨A, as', c, e3, hR, _, hlen, _, _⟩ := open_D2 DAtt 58 35 Try.underlying35 cellsAttr (by decide) (fun _ _ => True) (fun fuel cs x h => attr_of h) h3
  refine ⟨⟨s, par, ab, as'⟩, ⟨A, c, four_of hl e0 e1 e2 e3, hR⟩, fun hw => ?_⟩
  subst hx
  have h4 := weights_len (x := y3.1) Try.underlying35 (fun n hn => hw n (by
    simp only [DataW.weights, Try.underlying55, DataW.weightsEach, List.map_cons, List.map_nil, List.mem_append]
    exact .inr (.inr (.inr (.inl hn)))))
  rw [bytesAttr, ← hlen] at h4
  have h5 : reachBytes < 2 ^ 47 := reachBytes_lt
  show as'.length ≤ _
  omega
theorem trod_struct7 {P : Program} {base : Nat} {spare : Nat → Bool} {held : Bool} {t : TypeId} {f0 f1 f2 f3 f4 f5 f6 : Field} (ht : P.underlying t = some (.struct #[f0, f1, f2, f3, f4, f5, f6])) (h : DataW.trod enc P W base spare held fuel t cs = some x) :
    ∃ y0 y1 y2 y3 y4 y5 y6 n, cs.length = P.cellsOf t ∧ DataW.trod enc P W base spare held n f0.type ((cs.drop f0.offset).take (P.cellsOf f0.type)) = some y0 ∧ DataW.trod enc P W base spare held n f1.type ((cs.drop f1.offset).take (P.cellsOf f1.type)) = some y1 ∧
      DataW.trod enc P W base spare held n f2.type ((cs.drop f2.offset).take (P.cellsOf f2.type)) = some y2 ∧ DataW.trod enc P W base spare held n f3.type ((cs.drop f3.offset).take (P.cellsOf f3.type)) = some y3 ∧
      DataW.trod enc P W base spare held n f4.type ((cs.drop f4.offset).take (P.cellsOf f4.type)) = some y4 ∧ DataW.trod enc P W base spare held n f5.type ((cs.drop f5.offset).take (P.cellsOf f5.type)) = some y5 ∧ DataW.trod enc P W base spare held n f6.type ((cs.drop f6.offset).take (P.cellsOf f6.type)) = some y6 := by
  obtain ⟨xs, n, _, rfl, hl, hlen, hf⟩ := DataW.trod_struct ht h
  match xs, hlen with
  | [y0, y1, y2, y3, y4, y5, y6], _ => exact ⟨y0, y1, y2, y3, y4, y5, y6, n, hl, by simpa using hf 0 f0 rfl, by simpa using hf 1 f1 rfl, by simpa using hf 2 f2 rfl, by simpa using hf 3 f3 rfl, by simpa using hf 4 f4 rfl, by simpa using hf 5 f5 rfl, by simpa using hf 6 f6 rfl⟩
theorem edge_of (h : DataW.trod enc Try.prog W 0 (fun _ => true) true fuel 60 cs = some x) : ∃ y : Edg, cs = EEdg.enc y ∧ True := by
  obtain ⟨y0, y1, y2, y3, y4, y5, y6, n, hl, h0, h1, h2, h3, h4, h5, h6⟩ := trod_struct7 Try.underlying60 h
  dsimp only at h0 h1 h2 h3 h4 h5 h6
  rw [cellsEdg] at hl
  rw [cellsStr] at h0
  rw [cellsInt] at h1 h2 h3 h4 h5 h6
  obtain ⟨s, e0⟩ := str_of h0
  obtain ⟨a1, e1, _⟩ := int_of h1
  obtain ⟨a2, e2, _⟩ := int_of h2
  obtain ⟨a3, e3, _⟩ := int_of h3
  obtain ⟨a4, e4, _⟩ := int_of h4
  obtain ⟨a5, e5, _⟩ := int_of h5
  obtain ⟨a6, e6, _⟩ := int_of h6
  refine ⟨⟨s, a1, a2, a3, a4, a5, a6⟩, ?_, trivial⟩
  match cs, hl with
  | [c0, c1, c2, c3, c4, c5, c6], _ =>
    simp at e0 e1 e2 e3 e4 e5 e6
    rw [e0, e1, e2, e3, e4, e5, e6]
    rfl
theorem two_of {cs : List Value} (hl : cs.length = 2) {u v : Value} (h0 : (cs.drop 0).take 1 = [u]) (h1 : (cs.drop 1).take 1 = [v]) : cs = [u, v] := by
  match cs, hl with
  | [a, b], _ => simp at h0 h1; rw [h0, h1]
/-- a type graph among the arguments -/
theorem open_T (h : DataW.trod enc Try.prog W 0 (fun _ => true) true fuel 25 cs = some x) :
    ∃ (t : Typ) (An : Option Addr) (cn : Nat) (Ae : Option Addr) (ce : Nat), cs = [.slice An t.nodes.length cn, .slice Ae t.edges.length ce] ∧ TyC W An Ae t ∧ CapT t cn ce ∧ ((∀ n ∈ x.1.weights Try.prog 25, n ≤ reachBytes) → BigT t) := by
  obtain ⟨y0, y1, n, hx, hl, h0, h1⟩ := trod_struct2 Try.underlying25 h
  dsimp only at h0 h1
  rw [cellsNods] at h0
  rw [cellsEdgs] at h1
  rw [cellsTyp] at hl
  obtain ⟨An, nodes, cn, e0, hN, hG, _, hc0, _⟩ := open_D2 DNod 55 22 Try.underlying22 cellsNod (by decide) (fun y d => (∀ n ∈ d.weights Try.prog 55, n ≤ reachBytes) → y.att.length ≤ 200000000000000) (fun fuel cs x h => node_of h) h0
  obtain ⟨Ae, edges, ce, e1, hE, _, hc1, _⟩ := open_E EEdg (fun _ => True) 60 23 Try.underlying23 cellsEdg (by decide) (fun fuel cs x h => edge_of h) h1
  refine ⟨⟨nodes, edges⟩, An, cn, Ae, ce, two_of hl e0 e1, ⟨hN, hE⟩, ⟨hc0, hc1⟩, fun hw y hy => ?_⟩
  obtain ⟨d, hd, hg⟩ := hG y hy
  subst hx
  refine hg fun n hn => hw n ?_
  simp only [DataW.weights, Try.underlying25, DataW.weightsEach, List.map_cons, List.map_nil, List.mem_append]
  exact .inl (weights_elem Try.underlying22 hd n hn)
theorem agg_of {cs : Array Value} {l : List Value} (h : (Value.agg cs).cells.toList = l) : cs = l.toArray := by
  have h2 : (Value.agg cs).cells = cs := rfl
  rw [h2] at h
  rw [← h]
set_option maxRecDepth 100000 in
theorem okWide_array {w : World} {r : Reach} {base : Nat} {t e : TypeId} {n : Nat} {v : Value} (ht : Try.prog.underlying t = some (.array n e)) (h : Value.okWide Try.prog w r base t v) : ∃ cs, v = .agg cs ∧ cs.size = Try.prog.cellsOf t := by
  simp only [Value.okWide, ht] at h
  obtain ⟨cs, h1, h2, _⟩ := h
  exact ⟨cs, h1, h2⟩
theorem cellsEd3 : Try.prog.cellsOf 42 = 3 := by kernel_rfl
theorem edge3_of (h : DataW.trod enc Try.prog W 0 (fun _ => true) true fuel 42 cs = some x) : ∃ d a b, cs = [.int .i64 d, .int .i64 a, .int .i64 b] ∧ I64 d ∧ I64 a ∧ I64 b := by
  obtain ⟨y0, y1, y2, n, _, hl, h0, h1, h2⟩ := trod_struct3 Try.underlying42 h
  dsimp only at h0 h1 h2
  rw [cellsInt] at h0 h1 h2
  rw [cellsEd3] at hl
  obtain ⟨d, e0, hd⟩ := int_of h0
  obtain ⟨a, e1, ha⟩ := int_of h1
  obtain ⟨b, e2, hb⟩ := int_of h2
  refine ⟨d, a, b, ?_, hd, ha, hb⟩
  match cs, hl with
  | [c0, c1, c2], _ => simp at e0 e1 e2; rw [e0, e1, e2]
end

end Go.Proofs.Ytgpcaofikmdpjaa
