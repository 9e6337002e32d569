/-
  Difference: the laws' arguments.
-/
import Derived.Test.YtcmibhechhcpiaaDAwake
import Derived.Test.YtcmibhechhcpiaaOpenE
namespace Go.Proofs.Ytcmibhechhcpiaa
open Go.RowKit

theorem cellsTst : Try.prog.cellsOf 32 = 5 := by kernel_rfl
theorem cellsTerm : Try.prog.cellsOf 30 = 2 := by kernel_rfl
theorem cellsUse : Try.prog.cellsOf 46 = 2 := by kernel_rfl
theorem cellsInt : Try.prog.cellsOf 3 = 1 := by kernel_rfl
theorem cellsI8 : Try.prog.cellsOf 60 = 1 := by kernel_rfl
theorem cellsCode : Try.prog.cellsOf 61 = 4 := by kernel_rfl

section
open Go.ChangeShapes Go.WideShapes Go.Deep
variable {H : Type} {enc : TypeId × Value → H} {W : World} {fuel : Nat} {cs : List Value} {x : DataW H × List MemPlace}

theorem int_of (h : DataW.trod enc Try.prog W 0 (fun _ => true) true fuel 3 cs = some x) : ∃ n, cs = [.int .i64 n] ∧ I64 n := by
  obtain ⟨n, e, _, hw⟩ := DataW.trod_int Try.underlying3 h
  exact ⟨n, e, bounds_i64 hw⟩
theorem i8_of (h : DataW.trod enc Try.prog W 0 (fun _ => true) true fuel 60 cs = some x) : ∃ n, cs = [.int .i8 n] ∧ I8 n := by
  obtain ⟨n, e, _, hw⟩ := DataW.trod_int Try.underlying60 h
  exact ⟨n, e, bounds_i8 hw⟩
theorem two_of {cs : List Value} (hl : cs.length = 2) {u v : Value} (h0 : (cs.drop 0).take 1 = [u]) (h1 : (cs.drop 1).take 1 = [v]) : cs = [u, v] := by
  match cs, hl with
  | [a, b], _ => simp at h0 h1; rw [h0, h1]
theorem term_of (h : DataW.trod enc Try.prog W 0 (fun _ => true) true fuel 30 cs = some x) : ∃ v a, cs = [.int .i64 v, .int .i64 a] ∧ I64 v ∧ I64 a := by
  obtain ⟨y0, y1, n, _, hl, h0, h1⟩ := trod_struct2 Try.underlying30 h
  dsimp only at h0 h1
  rw [cellsInt] at h0 h1
  rw [cellsTerm] at hl
  obtain ⟨v, e0, hv⟩ := int_of h0
  obtain ⟨a, e1, ha⟩ := int_of h1
  exact ⟨v, a, two_of hl e0 e1, hv, ha⟩
theorem use_of (h : DataW.trod enc Try.prog W 0 (fun _ => true) true fuel 46 cs = some x) : ∃ u : Int × Int, cs = EUse.enc u ∧ (I64 u.1 ∧ I64 u.2) := by
  obtain ⟨y0, y1, n, _, hl, h0, h1⟩ := trod_struct2 Try.underlying46 h
  dsimp only at h0 h1
  rw [cellsInt] at h0 h1
  rw [cellsUse] at hl
  obtain ⟨v, e0, hv⟩ := int_of h0
  obtain ⟨a, e1, ha⟩ := int_of h1
  exact ⟨(v, a), two_of hl e0 e1, hv, ha⟩
theorem tst_of (h : DataW.trod enc Try.prog W 0 (fun _ => true) true fuel 32 cs = some x) : ∃ y : Tst, cs = ETst.enc y ∧ T64 y := by
  obtain ⟨y0, y1, y2, n, _, hl, h0, h1, h2⟩ := trod_struct3 Try.underlying32 h
  dsimp only at h0 h1 h2
  rw [cellsInt] at h0
  rw [cellsTerm] at h1 h2
  rw [cellsTst] at hl
  obtain ⟨k, e0, hk⟩ := int_of h0
  obtain ⟨lv, la, e1, hlv, hla⟩ := term_of h1
  obtain ⟨rv, ra, e2, hrv, hra⟩ := term_of h2
  refine ⟨⟨k, lv, la, rv, ra⟩, ?_, hk, hlv, hla, hrv, hra⟩
  match cs, hl with
  | [c0, c1, c2, c3, c4], _ =>
    simp at e0 e1 e2
    rw [e0, e1.1, e1.2, e2.1, e2.2]
    rfl
theorem code_of (h : DataW.trod enc Try.prog W 0 (fun _ => true) true fuel 61 cs = some x) : ∃ y : Code4, cs = ECode.enc y ∧ C8 y := by
  obtain ⟨ys, m, _, _, hl, hyl, hi⟩ := DataW.trod_array Try.underlying61 h
  rw [cellsI8] at hi
  rw [cellsCode] at hl
  have e0 := hi 0 (by omega)
  have e1 := hi 1 (by omega)
  have e2 := hi 2 (by omega)
  have e3 := hi 3 (by omega)
  rw [List.getElem?_eq_getElem (by omega)] at e0 e1 e2 e3
  obtain ⟨n0, f0, b0⟩ := i8_of e0
  obtain ⟨n1, f1, b1⟩ := i8_of e1
  obtain ⟨n2, f2, b2⟩ := i8_of e2
  obtain ⟨n3, f3, b3⟩ := i8_of e3
  refine ⟨(n0, n1, n2, n3), ?_, b0, b1, b2, b3⟩
  match cs, hl with
  | [c0, c1, c2, c3], _ =>
    simp at f0 f1 f2 f3
    rw [f0, f1, f2, f3]
    rfl
instance : Inhabited Tst := ⟨⟨0, 0, 0, 0, 0⟩⟩

theorem open_t (h : DataW.trod enc Try.prog W 0 (fun _ => true) true fuel 22 cs = some x) :
    ∃ (A : Option Addr) (xs : List Tst) (c : Nat), cs = [.slice A xs.length c] ∧ Tsts W W.heap.size A xs ∧ (∀ y ∈ xs, T64 y) ∧ xs.length ≤ c ∧ c ≤ maxLen :=
  open_E ETst T64 32 22 Try.underlying22 cellsTst (by decide) (fun _ _ _ h => tst_of h) h
theorem open_u (h : DataW.trod enc Try.prog W 0 (fun _ => true) true fuel 39 cs = some x) :
    ∃ (A : Option Addr) (xs : List (Int × Int)) (c : Nat), cs = [.slice A xs.length c] ∧ Uses W W.heap.size A xs ∧ (∀ y ∈ xs, I64 y.1 ∧ I64 y.2) ∧ xs.length ≤ c ∧ c ≤ maxLen :=
  open_E EUse (fun y => I64 y.1 ∧ I64 y.2) 46 39 Try.underlying39 cellsUse (by decide) (fun _ _ _ h => use_of h) h
theorem open_c (h : DataW.trod enc Try.prog W 0 (fun _ => true) true fuel 56 cs = some x) :
    ∃ (A : Option Addr) (xs : List Code4) (c : Nat), cs = [.slice A xs.length c] ∧ Codes W W.heap.size A xs ∧ (∀ y ∈ xs, C8 y) ∧ xs.length ≤ c ∧ c ≤ maxLen :=
  open_E ECode C8 61 56 Try.underlying56 cellsCode (by decide) (fun _ _ _ h => code_of h) h
theorem open_i (h : DataW.trod enc Try.prog W 0 (fun _ => true) true fuel 24 cs = some x) :
    ∃ (A : Option Addr) (xs : List Int) (c : Nat), cs = [.slice A xs.length c] ∧ Ints W W.heap.size A xs ∧ (∀ y ∈ xs, I64 y) ∧ xs.length ≤ c ∧ c ≤ maxLen :=
  open_E EInt I64 3 24 Try.underlying24 cellsInt (by decide) (fun _ _ _ h => int_of h) h
def EI8 : El Int := ⟨fun n => [.int .i8 n], 1, fun _ => rfl, fun x u hu => by simp at hu; subst hu; rfl⟩
theorem open_s (h : DataW.trod enc Try.prog W 0 (fun _ => true) true fuel 64 cs = some x) :
    ∃ (A : Option Addr) (xs : List Int) (c : Nat), cs = [.slice A xs.length c] ∧ Reads EI8 W W.heap.size A xs ∧ (∀ y ∈ xs, I8 y) ∧ xs.length ≤ c ∧ c ≤ maxLen :=
  open_E EI8 I8 60 64 Try.underlying64 cellsI8 (by decide) (fun _ _ _ h => i8_of h) h

end

end Go.Proofs.Ytcmibhechhcpiaa
