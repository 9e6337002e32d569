/-
  slices.ContainsFunc of tests with the closure of the law Solve: none found.
-/
import Derived.Test.YtcmibhechhcpiaaDLem
namespace Go.Proofs.Ytcmibhechhcpiaa
open Go.RowKit

abbrev clo (ptr : Value) : Value := .func (.func 20) #[] #[ptr]
theorem enterClo (a b : Value) (w : World) : (callFunc 20 #[a, b]).run Try.prog w = .ok (.enter 20 #[a, b]) w := by kernel_rfl

set_option maxHeartbeats 1000000 in
theorem indexT_none (ptr : Value) (xs : List Tst) (A : Option Addr) (c : Nat) (w : World) (hl : xs.length ≤ 1000000) (hT : Tsts w w.heap.size A xs)
    (hg : ∀ x ∈ xs, ∀ u, Below w.heap.size w u → Calls Try.prog 20 #[tval x, ptr] u fun e w' => e = .returned (.bool false) ∧ Below u.heap.size u w') :
    Calls Try.prog 46 #[.slice A xs.length c, clo ptr] w fun e w' => e = .returned (.int .i64 (-1)) ∧ Below w.heap.size w w' := by
  have HT := Lib.hid hT
  have HG := Lib.hid hg
  have hcf : ∀ (a b : Value) (w : World), (callFunc 20 #[a, b]).run Try.prog w = .ok (.enter 20 #[a, b]) w := enterClo
  clear hT hg
  go_enter Try.func46, Try.ntmps46
  go_wp2_with fail
  go_loopw [8] (fun ii wr => ∃ k : Nat, k ≤ xs.length ∧ ii = .int .i64 k ∧ Below w.heap.size w wr) (fun ii _ => xs.length - (intOf ii).toNat)
  case atStart => exact ⟨0, Nat.zero_le _, rfl, Below.refl _ _⟩
  case round =>
    obtain ⟨k, hk, rfl, hB⟩ := hrel
    by_cases hlt : k < xs.length
    · obtain ⟨b, off, rfl, hbb, k0, k1, k2, k3, k4⟩ := Tsts.cells (Reads.below HT.out hB) hlt
      have HI := Lib.hid (HG.out xs[k] (List.getElem_mem hlt) wr hB)
      generalize xs[k] = x at k0 k1 k2 k3 k4 HI
      obtain ⟨q, lv, la, rv, ra⟩ := x
      dsimp only at k0 k1 k2 k3 k4 HI
      have i0 : (0 : Int) ≤ (k : Int) := by omega
      have i1 : (k : Int) < (xs.length : Int) := by omega
      have i2 : ((k : Int)).toNat = k := by omega
      have HB := Lib.hid hB
      have hszr := hB.size
      clear hB
      go_wp2_with fail
      refine HI.out.mono ?_
      rintro e wi ⟨rfl, hbi⟩
      have HBi := Lib.hid (HB.out.trans (hbi.mono hszr))
      clear hbi k0 k1 k2 k3 k4 HI
      go_wp2_with fail
      go_roundw
      case rel => exact ⟨k + 1, by omega, by go_num, HBi.out⟩
      case measure => simp [intOf]; omega
    · have HB := Lib.hid hB
      clear hB
      go_wp2_with fail
      go_ret
      exact ⟨rfl, HB.out⟩

theorem containsT_none (ptr : Value) (xs : List Tst) (A : Option Addr) (c : Nat) (w : World) (hl : xs.length ≤ 1000000) (hT : Tsts w w.heap.size A xs)
    (hg : ∀ x ∈ xs, ∀ u, Below w.heap.size w u → Calls Try.prog 20 #[tval x, ptr] u fun e w' => e = .returned (.bool false) ∧ Below u.heap.size u w') :
    Calls Try.prog 19 #[.slice A xs.length c, clo ptr] w fun e w' => e = .returned (.bool false) ∧ Below w.heap.size w w' := by
  have HI := Lib.hid (indexT_none ptr xs A c w hl hT hg)
  clear hT hg
  go_enter Try.func19, Try.ntmps19
  go_wp2_with fail
  refine HI.out.mono ?_
  rintro e wi ⟨rfl, hbi⟩
  go_wp2_with fail
  go_ret
  exact ⟨rfl, hbi⟩

end Go.Proofs.Ytcmibhechhcpiaa
