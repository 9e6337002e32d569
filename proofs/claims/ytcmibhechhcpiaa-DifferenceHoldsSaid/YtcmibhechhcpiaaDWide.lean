/-
  The law Holds' closure wide, and slices.ContainsFunc of ints with it.
-/
import Derived.Test.YtcmibhechhcpiaaDSat
namespace Go.Proofs.Ytcmibhechhcpiaa
open Go.RowKit

def wideB (n : Int) : Bool := decide (n < -1099511627776) || decide (1099511627776 < n)
abbrev wid : Value := .func (.func 28) #[] #[]
theorem enterWide (a : Value) (w : World) : (callFunc 28 #[a]).run Try.prog w = .ok (.enter 28 #[a]) w := by kernel_rfl
theorem wide_any (n : Int) (w : World) : Calls Try.prog 28 #[.int .i64 n] w fun e w' => e = .returned (.bool (wideB n)) ∧ w = w' := by
  by_cases h1 : n < -1099511627776
  · have H := Lib.hid (show wideB n = true by unfold wideB; rw [decide_eq_true h1]; rfl)
    have t1 : decide (n < -1099511627776) = true := decide_eq_true h1
    go_enter Try.func28, Try.ntmps28
    go_wp2_with fail
    go_ret
    exact ⟨ret_bool H.out.symm, rfl⟩
  · have t1 : decide (n < -1099511627776) = false := decide_eq_false h1
    have H := Lib.hid (show wideB n = decide (1099511627776 < n) by unfold wideB; rw [decide_eq_false h1, Bool.false_or])
    clear h1
    go_enter Try.func28, Try.ntmps28
    go_wp2_with fail
    go_ret
    exact ⟨ret_bool H.out.symm, rfl⟩

set_option maxHeartbeats 1000000 in
theorem indexW (xs : List Int) (A : Option Addr) (c B : Nat) (w : World) (hl : xs.length ≤ 1000000) (hT : Ints w B A xs) :
    Calls Try.prog 56 #[.slice A xs.length c, wid] w fun e w' => (∃ z : Int, e = .returned (.int .i64 z) ∧ decide (0 ≤ z) = xs.any wideB) ∧ w = w' := by
  have HT := Lib.hid hT
  have hcf : ∀ (a : Value) (w : World), (callFunc 28 #[a]).run Try.prog w = .ok (.enter 28 #[a]) w := enterWide
  clear hT
  go_enter Try.func56, Try.ntmps56
  go_wp2_with fail
  go_loopw [8] (fun ii wr => ∃ k : Nat, k ≤ xs.length ∧ ii = .int .i64 k ∧ (∀ y ∈ xs.take k, wideB y = false) ∧ wr = w) (fun ii _ => xs.length - (intOf ii).toNat)
  case atStart => exact ⟨0, Nat.zero_le _, rfl, fun y hy => by simp at hy, rfl⟩
  case round =>
    obtain ⟨k, hk, rfl, hno, rfl⟩ := hrel
    by_cases hlt : k < xs.length
    · obtain ⟨b, off, rfl, hbb, hc⟩ := Ints.cells HT.out hlt
      have k0 := hc k hlt
      have e : xs.getD k 0 = xs[k] := by rw [List.getD_eq_getElem?_getD, List.getElem?_eq_getElem hlt]; rfl
      rw [e] at k0
      have HI := Lib.hid (fun u => wide_any xs[k] u)
      have HY : Hid (wideB xs[k] = true → xs.any wideB = true) := Lib.hid fun h => List.any_eq_true.2 ⟨_, List.getElem_mem hlt, h⟩
      have HN : Hid (wideB xs[k] = false → ∀ y ∈ xs.take (k + 1), wideB y = false) := Lib.hid fun h y hy => by
        rw [List.take_succ_eq_append_getElem hlt, List.mem_append] at hy
        rcases hy with hy | hy
        · exact hno y hy
        · simp at hy; rw [hy]; exact h
      generalize xs[k] = x at k0 HI HY HN
      have i0 : (0 : Int) ≤ (k : Int) := by omega
      have i1 : (k : Int) < (xs.length : Int) := by omega
      have i2 : ((k : Int)).toNat = k := by omega
      clear hc hno e
      cases hb : wideB x with
      | true =>
        have HX := Lib.hid (HY.out hb)
        rw [hb] at HI
        clear HY HN hb
        go_wp2_with fail
        refine (HI.out _).mono ?_
        rintro e wi ⟨rfl, rfl⟩
        go_wp2_with fail
        go_ret
        exact ⟨⟨_, rfl, by rw [HX.out]; exact decide_eq_true (by omega)⟩, rfl⟩
      | false =>
        have HX := Lib.hid (HN.out hb)
        rw [hb] at HI
        clear HY HN hb
        go_wp2_with fail
        refine (HI.out _).mono ?_
        rintro e wi ⟨rfl, rfl⟩
        go_wp2_with fail
        go_roundw
        case rel => exact ⟨k + 1, by omega, by go_num, HX.out, trivial⟩
        case measure => simp [intOf]; omega
    · have e : k = xs.length := by omega
      rw [e, List.take_length] at hno
      have HX := Lib.hid (show xs.any wideB = false from List.any_eq_false.2 fun y hy => by rw [hno y hy]; simp)
      clear hno e
      go_wp2_with fail
      go_ret
      exact ⟨⟨_, rfl, by rw [HX.out]; rfl⟩, rfl⟩

theorem containsW (xs : List Int) (A : Option Addr) (c B : Nat) (w : World) (hl : xs.length ≤ 1000000) (hT : Ints w B A xs) :
    Calls Try.prog 29 #[.slice A xs.length c, wid] w fun e w' => e = .returned (.bool (xs.any wideB)) ∧ w = w' := by
  have HI := Lib.hid (indexW xs A c B w hl hT)
  clear hT
  go_enter Try.func29, Try.ntmps29
  go_wp2_with fail
  refine HI.out.mono ?_
  rintro e wi ⟨⟨z, rfl, hz⟩, rfl⟩
  have HZ := Lib.hid hz
  clear hz
  go_wp2_with fail
  go_ret
  exact ⟨ret_bool HZ.out, rfl⟩
theorem any_fit {xs : List Int} (h : xs.any wideB = false) : ∀ y ∈ xs, Fit y := by
  intro y hy
  have := List.any_eq_false.1 h y hy
  unfold wideB at this
  simp only [Bool.or_eq_true, decide_eq_true_eq] at this
  unfold Fit
  omega
theorem wide_fit {y : Int} (h : wideB y = false) : Fit y := any_fit (xs := [y]) (by simp [h]) y (by simp)

end Go.Proofs.Ytcmibhechhcpiaa
