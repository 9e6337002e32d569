/-
  Difference: Valid of the reference.
-/
import Derived.Test.YtcmibhechhcpiaaDMem
namespace Go.Proofs.Ytcmibhechhcpiaa
open Go.RowKit

theorem firstE_drop (n : Int) {xs : List Tst} {k : Nat} (hk : k < xs.length) : firstE n (xs.drop k) = if oneS n xs[k] ≠ 0 then oneS n xs[k] else firstE n (xs.drop (k + 1)) := by
  rw [List.drop_eq_getElem_cons hk]; rfl
theorem firstE_all (n : Int) (xs : List Tst) : firstE n (xs.drop xs.length) = 0 := by simp [firstE]

set_option maxHeartbeats 1000000 in
theorem valid_any (n : Int) (xs : List Tst) (A : Option Addr) (c : Nat) (w : World) (hl : xs.length ≤ maxLen) (hT : Tsts w w.heap.size A xs) :
    Calls Try.prog 17 #[.int .i64 n, .slice A xs.length c] w fun e w' => e = .returned (.int .i64 (validS n xs)) ∧ Below w.heap.size w w' := by
  unfold maxLen at hl
  by_cases h1 : n < 0 ∨ 12 < n
  · have H := Lib.hid (show validS n xs = 6 by unfold validS; rw [if_pos h1])
    have h2 : (decide (n < 0) || decide (12 < n)) = true := by simpa using h1
    clear hT
    by_cases h3 : n < 0
    · have t1 : decide (n < 0) = true := decide_eq_true h3
      clear h1 h2
      go_enter Try.func17, Try.ntmps17
      go_wp2_with fail
      go_ret
      exact ⟨ret_int (by rw [H.out]; rfl), Below.refl _ _⟩
    · have t1 : decide (n < 0) = false := decide_eq_false h3
      have t2 : decide (12 < n) = true := decide_eq_true (by omega)
      clear h1 h2
      go_enter Try.func17, Try.ntmps17
      go_wp2_with fail
      go_ret
      exact ⟨ret_int (by rw [H.out]; rfl), Below.refl _ _⟩
  · have t1 : decide (n < 0) = false := decide_eq_false (by omega)
    have t2 : decide (12 < n) = false := decide_eq_false (by omega)
    by_cases h40 : 40 < xs.length
    · have H := Lib.hid (show validS n xs = 3 by unfold validS; rw [if_neg h1, if_pos h40])
      clear hT h1
      go_enter Try.func17, Try.ntmps17
      go_wp2_with fail
      go_ret
      exact ⟨ret_int (by rw [H.out]; rfl), Below.refl _ _⟩
    · have H := Lib.hid (show validS n xs = firstE n xs by unfold validS; rw [if_neg h1, if_neg h40])
      have HT := Lib.hid hT
      have HF : Hid (∀ k (hk : k < xs.length), firstE n (xs.drop k) = if oneS n xs[k] ≠ 0 then oneS n xs[k] else firstE n (xs.drop (k + 1))) := Lib.hid fun k hk => firstE_drop n hk
      have hl4 : xs.length ≤ 40 := by omega
      clear hT hl h40 h1
      go_enter Try.func17, Try.ntmps17
      go_wp2_with fail
      go_loopw [5] (fun i wr => ∃ k : Nat, k ≤ xs.length ∧ i = .int .i64 k ∧ Below w.heap.size w wr ∧ firstE n xs = firstE n (xs.drop k)) (fun i _ => xs.length - (intOf i).toNat)
      case atStart => exact ⟨0, Nat.zero_le _, rfl, Below.refl _ _, rfl⟩
      case round =>
        obtain ⟨k, hk, rfl, hb, hf⟩ := hrel
        have HB := Lib.hid hb
        by_cases hlt : k < xs.length
        · obtain ⟨b, off, rfl, hbb, k0, k1, k2, k3, k4⟩ := Tsts.cells (Reads.below HT.out hb) hlt
          have HD := Lib.hid (hf.trans (HF.out k hlt))
          have HO := Lib.hid (fun u => one_any n xs[k] u)
          have hk0 : (0 : Int) ≤ (k : Int) := by omega
          have hk1 : (k : Int) < (xs.length : Int) := by omega
          have hk2 : ((k : Int)).toNat = k := by omega
          have hcap := hlt
          clear hf hb
          generalize hx : xs[k] = x at k0 k1 k2 k3 k4 HD HO
          generalize hR : oneS n x = e1 at HD HO
          clear hx hR
          by_cases he : e1 = 0
          · subst he
            have H2 := Lib.hid (show firstE n xs = firstE n (xs.drop (k + 1)) by rw [HD.out, if_neg (by omega)])
            go_wp2_with fail
            refine (HO.out _).mono ?_
            rintro e w1 ⟨rfl, hb1⟩
            have HB1 := Lib.hid (HB.out.trans (hb1.mono HB.out.size))
            clear hb1
            go_wp2_with fail
            go_roundw
            case rel => exact ⟨k + 1, by omega, by go_num, HB1.out, H2.out⟩
            case measure => simp [intOf]; omega
          · have H2 := Lib.hid (show firstE n xs = e1 by rw [HD.out, if_pos he])
            have t3 : ((e1 : Int) != 0) = true := by simp; omega
            clear he
            go_wp2_with fail
            refine (HO.out _).mono ?_
            rintro e w1 ⟨rfl, hb1⟩
            have HB1 := Lib.hid (HB.out.trans (hb1.mono HB.out.size))
            clear hb1
            go_wp2_with fail
            go_ret
            exact ⟨ret_int (by rw [H.out, H2.out]), HB1.out⟩
        · have H2 := Lib.hid (show firstE n xs = 0 by rw [hf, show k = xs.length by omega]; exact firstE_all n xs)
          clear hf
          go_wp2_with fail
          go_ret
          exact ⟨ret_int (by rw [H.out, H2.out]; rfl), HB.out⟩

end Go.Proofs.Ytcmibhechhcpiaa
