/-
  Difference, the program: lists of arrays of sums.
-/
import Derived.Test.YtcmibhechhcpiaaPBeh
import Derived.Great.BuildSlice
namespace Go.Proofs.Ytcmibhechhcpiaa
open Go.RowKit

def EMat : El (Nat → Nat → Int) := ⟨matL, 169, matL_length, fun M u hu => by
  simp only [matL, List.mem_map] at hu
  obtain ⟨k, _, rfl⟩ := hu
  rfl⟩
theorem infoMats : (Try.prog.info? 85).map (fun i => (i.zero, i.size, i.bytes)) = some (some (.agg Try.zeroCells85), 169, 1352) := by kernel_rfl
abbrev OwnWk (w : World) (base : Nat) (v : Value) (xs : List (Nat → Nat → Int)) : Prop := OwnE EMat 85 w base v xs

theorem fill_one {base cs : Array Value} (hp : 0 < cs.size) (hb : base.size = cs.size) : Instr.fill (fun i => some (i * cs.size, cs.size)) base [(0, .agg cs)] = some cs := by
  have h := Go.Great.fill_whole hp [.agg cs] base (fun v hv => by simp at hv; subst hv; rfl) (by simp [hb])
  simpa [Value.cells] using h
/-- a slice of one array -/
theorem wpList_build_mat {ops : Array Oper} {rest : List Oper} {o : Oper} {a : Act} {w : World} {Q : Exit → Act → World → Prop} (hg : o.guard = none) (x : Operand) (ho : o.op = .buildSlice 87 1 #[(0, x)])
    (M : Nat → Nat → Int) (hx : a.eval x = .agg (matA M))
    (h : wpList Try.prog ops Q rest (a.put o.dst (.slice (some ⟨w.heap.size, 0, none⟩) 1 1)) (w.alloc (.cells (matA M) 85))) : wpList Try.prog ops Q (o :: rest) a w := by
  obtain ⟨i0, hi, hz0, hz1, hz2⟩ := info_parts infoMats
  have hm := matA_size M
  refine wpList_buildSlice hg 87 85 1 #[(0, x)] ho (matA M) i0 _ Try.underlying87 hi hz0 (by rw [hz1]; decide) (by rw [hz1]; decide) ?_ h
  have e : (#[(0, x)].map fun (i, x) => (i, a.eval x)).toList = [(0, Value.agg (matA M))] := by simp [hx]
  rw [e, hz1, ← hm]
  exact fill_one (by rw [hm]; decide) (by simp [hm])

end Go.Proofs.Ytcmibhechhcpiaa
