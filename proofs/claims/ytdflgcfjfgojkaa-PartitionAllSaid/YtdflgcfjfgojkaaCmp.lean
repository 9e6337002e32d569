/-
  slices.Compare and cmp.Compare at ints; what PartitionAll looks at.
-/
import Derived.Test.YtdflgcfjfgojkaaUni
namespace Go.Proofs.Ytdflgcfjfgojkaa
open Go.RowKit

/-- a comes before b -/
def lessS : List Nat → List Nat → Bool
  | [], [] => false
  | [], _ :: _ => true
  | _ :: _, [] => false
  | a :: r, b :: s => if a < b then true else if b < a then false else lessS r s

theorem isNaN_any (x : Int) (w : World) : Calls Try.prog 46 #[.int .i64 x] w fun e w' => e = .returned (.bool false) ∧ w = w' := by
  have t : (x != x) = false := by simp
  go_enter Try.func46, Try.ntmps46
  go_wp2
  go_ret
  exact ⟨rfl, rfl⟩

theorem cmp_less (x y : Int) (h : x < y) (w : World) : Calls Try.prog 43 #[.int .i64 x, .int .i64 y] w fun e w' => e = .returned (.int .i64 (-1)) ∧ w = w' := by
  go_enter Try.func43, Try.ntmps43
  go_wp2_with fail
  refine (isNaN_any _ _).mono ?_
  rintro e w' ⟨rfl, rfl⟩
  go_wp2_with fail
  refine (isNaN_any _ _).mono ?_
  rintro e w' ⟨rfl, rfl⟩
  go_wp2_with fail
  go_ret
  exact ⟨rfl, rfl⟩
theorem cmp_same (x : Int) (w : World) : Calls Try.prog 43 #[.int .i64 x, .int .i64 x] w fun e w' => e = .returned (.int .i64 0) ∧ w = w' := by
  go_enter Try.func43, Try.ntmps43
  go_wp2_with fail
  refine (isNaN_any _ _).mono ?_
  rintro e w' ⟨rfl, rfl⟩
  go_wp2_with fail
  refine (isNaN_any _ _).mono ?_
  rintro e w' ⟨rfl, rfl⟩
  go_wp2_with fail
  go_ret
  exact ⟨rfl, rfl⟩

/-- the first place where two lists of one length differ -/
theorem less_split {a b : List Nat} (hl : a.length = b.length) (h : lessS a b = true) : ∃ k, k < a.length ∧ (∀ j, j < k → at_ a j = at_ b j) ∧ at_ a k < at_ b k := by
  induction a generalizing b with
  | nil => cases b with
    | nil => simp [lessS] at h
    | cons _ _ => simp at hl
  | cons x r ih => cases b with
    | nil => simp at hl
    | cons y s =>
      simp only [lessS] at h
      by_cases h1 : x < y
      · exact ⟨0, by simp, fun j hj => by omega, h1⟩
      · rw [if_neg h1] at h
        by_cases h2 : y < x
        · rw [if_pos h2] at h; cases h
        · rw [if_neg h2] at h
          obtain ⟨k, k1, k2, k3⟩ := ih (by simpa using hl) h
          refine ⟨k + 1, by simpa using k1, fun j hj => ?_, k3⟩
          cases j with
          | zero => show x = y; omega
          | succ j => exact k2 j (by omega)

set_option maxHeartbeats 1000000 in
/-- slices.Compare of two lists of one length, the first before the second -/
theorem compare_less (xs ys : List Nat) (A A' : Option Addr) (c c' B B' : Nat) (w : World) (hl : xs.length = ys.length) (hx : xs.length ≤ 1000000) (h : lessS xs ys = true) (hA : Ints w B A (toI xs)) (hB : Ints w B' A' (toI ys)) :
    Calls Try.prog 28 #[.slice A xs.length c, .slice A' ys.length c'] w fun e w' => e = .returned (.int .i64 (-1)) ∧ w = w' := by
  obtain ⟨m, hm, hlo, hlt⟩ := less_split hl h
  have HLO := Lib.hid hlo
  have HLT := Lib.hid hlt
  have HA := Lib.hid hA
  have HB := Lib.hid hB
  have hl1 : xs.length ≤ ys.length := by omega
  have hl2 : ys.length ≤ xs.length := by omega
  clear hA hB hl h hlo hlt
  go_enter Try.func28, Try.ntmps28
  go_wp2_with fail
  go_loop [11] (fun i => ∃ k : Nat, k ≤ m ∧ i = .int .i64 k) (fun i => m - (intOf i).toNat)
  case atStart => exact ⟨0, Nat.zero_le _, rfl⟩
  case round =>
    obtain ⟨k, hk, rfl⟩ := hrel
    obtain ⟨b, off, rfl, hb, hc⟩ := HA.out.atN (k := k) (by omega)
    obtain ⟨b', off', rfl, hb', hd⟩ := HB.out.atN (k := k) (by omega)
    have ck := hc k (by omega)
    have dk := hd k (by omega)
    clear hc hd
    by_cases hkm : k < m
    · have he := HLO.out k hkm
      rw [he] at ck
      clear he
      generalize at_ ys k = y at ck dk
      go_wp2_with fail
      refine (cmp_same _ _).mono ?_
      rintro e w' ⟨rfl, rfl⟩
      go_wp2_with fail
      go_round
      case rel => exact ⟨k + 1, by omega, by go_num⟩
      case measure => simp [intOf]; omega
    · have e : k = m := by omega
      subst e
      have hlt := HLT.out
      generalize at_ xs k = x at ck hlt
      generalize at_ ys k = y at dk hlt
      go_wp2_with fail
      refine (cmp_less _ _ (by omega) _).mono ?_
      rintro e w' ⟨rfl, rfl⟩
      go_wp2_with fail
      go_ret
      exact ⟨rfl, rfl⟩

/-- what the law looks at, for all n at once -/
def upS : List (List Nat) → Bool
  | [] => true
  | [_] => true
  | a :: b :: r => lessS a b && upS (b :: r)
def allOk (n : Nat) : Bool := (allS n).all (fun p => decide (V p)) && upS (allS n) && (allS n).length == [1, 1, 2, 5, 15, 52, 203, 877].getD n 0
theorem allOk_all : ∀ n, n < 8 → allOk n = true := by decide +kernel
theorem upS_at {l : List (List Nat)} (h : upS l = true) {i : Nat} (hi : i + 1 < l.length) : lessS (l.getD i []) (l.getD (i + 1) []) = true := by
  induction l generalizing i with
  | nil => simp at hi
  | cons a r ih => cases r with
    | nil => simp at hi
    | cons b s =>
      simp only [upS, Bool.and_eq_true] at h
      cases i with
      | zero => exact h.1
      | succ i => exact ih h.2 (by simpa using hi)
theorem allS_facts2 {n : Nat} (hn : n ≤ 7) : (∀ i, i < (allS n).length → V ((allS n).getD i []) ∧ ((allS n).getD i []).length = n) ∧
    (∀ i, i + 1 < (allS n).length → lessS ((allS n).getD i []) ((allS n).getD (i + 1) []) = true) ∧ (allS n).length = [1, 1, 2, 5, 15, 52, 203, 877].getD n 0 := by
  have h := allOk_all n (by omega)
  simp only [allOk, Bool.and_eq_true, beq_iff_eq] at h
  obtain ⟨⟨h1, h2⟩, h3⟩ := h
  refine ⟨fun i hi => ?_, fun i hi => upS_at h2 hi, h3⟩
  have hm : (allS n).getD i [] ∈ allS n := by rw [List.getD, List.getElem?_eq_getElem hi]; exact List.getElem_mem hi
  exact ⟨by simpa using List.all_eq_true.1 h1 _ hm, (allS_facts n hn).2 _ hm⟩

end Go.Proofs.Ytdflgcfjfgojkaa
