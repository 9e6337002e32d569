/-
  Difference, the program: standing.
-/
import Derived.Test.YtcmibhechhcpiaaPMat
namespace Go.Proofs.Ytcmibhechhcpiaa
open Go.RowKit

/-- no walk -/
def noneI : Int := 9223372036854775807
/-- a sum as the program writes it -/
def encN (s : Int) : Int := if s < far then s else noneI
def sumE (l : List Arc) (k : Nat) (i j : Nat) : Int := encN (sumK l k i j)
/-- the sums of no use, as far as they are written -/
def stM (i j : Nat) : Nat → Nat → Int := fun a b => if a < i ∨ (a = i ∧ b < j) then (if a = b then 0 else noneI) else 0
theorem stM_zero : stM 0 0 = fun _ _ => 0 := by
  funext a b
  unfold stM
  rw [if_neg (by omega)]
theorem stM_same (i : Nat) : stM i i = stM i (i + 1) := by
  funext a b
  unfold stM
  by_cases h1 : a < i ∨ (a = i ∧ b < i)
  · have h2 : a < i ∨ (a = i ∧ b < i + 1) := by omega
    rw [if_pos h1, if_pos h2]
  · rw [if_neg h1]
    by_cases h2 : a = i ∧ b = i
    · have h3 : a < i ∨ (a = i ∧ b < i + 1) := by omega
      have h4 : a = b := by omega
      rw [if_pos h3, if_pos h4]
    · have h3 : ¬ (a < i ∨ (a = i ∧ b < i + 1)) := by omega
      rw [if_neg h3]
theorem stM_set {i j : Nat} (h : i ≠ j) : updM (stM i j) i j noneI = stM i (j + 1) := by
  funext a b
  unfold updM stM
  by_cases h1 : a = i ∧ b = j
  · have h2 : a < i ∨ (a = i ∧ b < j + 1) := by omega
    have h3 : a ≠ b := by omega
    rw [if_pos h1, if_pos h2, if_neg h3]
  · rw [if_neg h1]
    by_cases h2 : a < i ∨ (a = i ∧ b < j)
    · have h3 : a < i ∨ (a = i ∧ b < j + 1) := by omega
      rw [if_pos h2, if_pos h3]
    · have h3 : ¬ (a < i ∨ (a = i ∧ b < j + 1)) := by omega
      rw [if_neg h2, if_neg h3]
theorem stM_row {i : Nat} {a b : Nat} (hb : b < 13) : stM i 13 a b = stM (i + 1) 0 a b := by
  unfold stM
  by_cases h1 : a < i ∨ (a = i ∧ b < 13)
  · have h2 : a < i + 1 ∨ (a = i + 1 ∧ b < 0) := by omega
    rw [if_pos h1, if_pos h2]
  · have h2 : ¬ (a < i + 1 ∨ (a = i + 1 ∧ b < 0)) := by omega
    rw [if_neg h1, if_neg h2]
theorem encN_far : encN far = noneI := if_neg (by omega)
theorem encN_of {s : Int} (h : s < far) : encN s = s := if_pos h
theorem stM_all (l : List Arc) {a b : Nat} (ha : a < 13) : stM 13 0 a b = sumE l 0 a b := by
  have h1 : a < 13 ∨ (a = 13 ∧ b < 0) := by omega
  unfold stM sumE
  rw [if_pos h1]
  by_cases h : a = b
  · have e : sumK l 0 a b = 0 := if_pos h
    rw [if_pos h, e]
    rfl
  · have e : sumK l 0 a b = far := if_neg h
    rw [if_neg h, e, encN_far]

set_option maxRecDepth 100000 in
set_option maxHeartbeats 2000000 in
theorem standing_any (l : List Arc) (w : World) :
    Calls Try.prog 49 #[] w fun e w' => e = .returned (.agg (matA (sumE l 0))) ∧ Below w.heap.size w w' := by
  have HS1 := Lib.hid stM_same
  have HS2 := Lib.hid (fun i j => @stM_set i j)
  have HS3 := Lib.hid (fun i a b => @stM_row i a b)
  have HS4 := Lib.hid (fun a b => @stM_all l a b)
  have HN := Lib.hid (show noneI = 9223372036854775807 from rfl)
  go_enter Try.func49, Try.ntmps49
  go_wp2_with fail
  go_loopw [4] (fun vi wr => ∃ i : Nat, i ≤ 13 ∧ vi = .int .i64 i ∧ Mat wr (w.heap.size + 1) (stM i 0) ∧ Mat wr w.heap.size (fun _ _ => 0) ∧ Below w.heap.size w wr) (fun vi _ => 13 - (intOf vi).toNat)
  case atStart =>
    refine ⟨0, Nat.zero_le _, rfl, ?_, ?_, ((Below.refl _ _).alloc (Nat.le_refl _) _).alloc (by simp) _⟩
    · rw [mat_zero, stM_zero]
      exact heap_two' _ _ _
    · rw [mat_zero]
      exact heap_two _ _ _
  case round =>
    obtain ⟨i, hi, rfl, hM, hR, hb⟩ := hrel
    have HR := Lib.hid hR
    by_cases hlt : i < 13
    · have t1 : decide ((i : Int) < 13) = true := decide_eq_true (by omega)
      obtain ⟨wo, hwo⟩ : ∃ wo, wo = wr := ⟨_, rfl⟩
      subst hwo
      have HM := Lib.hid hM
      have HB := Lib.hid hb
      clear hM hR hb
      go_wp2_with fail
      go_loopw [7] (fun vj wr => ∃ j : Nat, j ≤ 13 ∧ vj = .int .i64 j ∧ Mat wr (w.heap.size + 1) (stM i j) ∧ Mat wr w.heap.size (fun _ _ => 0) ∧ Below w.heap.size w wr) (fun vj _ => 13 - (intOf vj).toNat)
      case atStart => exact ⟨0, Nat.zero_le _, rfl, HM.out, HR.out, HB.out⟩
      case round =>
        obtain ⟨j, hj, rfl, hM, hR, hb⟩ := hrel
        have HR := Lib.hid hR
        have HB := Lib.hid hb
        by_cases hltj : j < 13
        · have t2 : decide ((j : Int) < 13) = true := decide_eq_true (by omega)
          have i0 : (0 : Int) ≤ (i : Int) := by omega
          have i1 : (i : Int) < 13 := by omega
          have i2 : ((i : Int)).toNat = i := by omega
          have j0 : (0 : Int) ≤ (j : Int) := by omega
          have j1 : (j : Int) < 13 := by omega
          have j2 : ((j : Int)).toNat = j := by omega
          by_cases hij : i = j
          · have HX := Lib.hid (HS1.out i)
            subst hij
            have t3 : ((i : Int) != (i : Int)) = false := by simp
            have HM := Lib.hid hM
            clear hM hR hb
            go_wp2_with fail
            go_roundw
            case rel => exact ⟨i + 1, by omega, by go_num, by rw [← HX.out]; exact HM.out, HR.out, HB.out⟩
            case measure => simp [intOf]; omega
          · have HX := Lib.hid (HS2.out i j hij)
            have t3 : ((i : Int) != (j : Int)) = true := by simp; omega
            have c1 := hM.cell hlt hltj
            have c2 := hM.free (i * 13 + j)
            have HM := Lib.hid hM
            clear hM hR hb hij
            go_wp2_with fail
            go_roundw
            case rel => exact ⟨j + 1, by omega, by go_num, by rw [← HX.out]; exact HM.out.set hltj _, HR.out.other (by simp) _, HB.out.setCell (by simp) _⟩
            case measure => simp [intOf]; omega
        · have t2 : decide ((j : Int) < 13) = false := decide_eq_false (by omega)
          have e : j = 13 := by omega
          subst e
          have HM := Lib.hid (hM.ext (fun a b _ hb => HS3.out i a b hb))
          clear hM hR hb
          go_wp2_with fail
          go_roundw
          case rel => exact ⟨i + 1, by omega, by go_num, HM.out, HR.out, HB.out⟩
          case measure => simp [intOf]; omega
    · have t1 : decide ((i : Int) < 13) = false := decide_eq_false (by omega)
      have e : i = 13 := by omega
      subst e
      have HM := Lib.hid (hM.ext (fun a b ha _ => HS4.out a b ha))
      have HB := Lib.hid hb
      clear hM hR hb
      go_wp2_with (first | (with_reducible refine wpList_load_mat rfl _ rfl (w.heap.size + 1) (sumE l 0) rfl HM.out.range ?_) | ((with_reducible refine wpList_store_mat rfl _ _ rfl w.heap.size (sumE l 0) rfl rfl HR.out.there ?_); intro w2 hr2 hb2 _))
      exact bodyPost_ret (v := .agg (matA (sumE l 0))) (results_mat rfl _ _ w.heap.size (sumE l 0) rfl hr2) rfl ⟨rfl, hb2 _ _ (Nat.le_refl _) HB.out⟩

end Go.Proofs.Ytcmibhechhcpiaa
