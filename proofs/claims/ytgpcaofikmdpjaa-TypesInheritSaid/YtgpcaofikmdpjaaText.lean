/-
  Contracts of isText, skip, unquote, quote, separator, IsName, Number of the program.
-/
import Derived.Test.YtgpcaofikmdpjaaScan2
namespace Go.Proofs.Ytgpcaofikmdpjaa
open Go.RowKit

set_option maxHeartbeats 1000000 in
theorem isText_any (k : Int) (s : ByteArray) (hs : s.size ≤ maxLen) (w : World) :
    Calls Try.prog 71 #[.int .i64 k, .string s] w fun e w' => e = .returned (.bool (rightS k s.data.toList)) ∧ w = w' := by
  have hl : s.data.toList.length = s.size := by simp
  by_cases hk : k = 3
  · subst hk
    by_cases h6 : s.size ≤ 60
    · have H := Lib.hid (show rightS 3 s.data.toList = (((pre isStr s.data.toList : Nat) : Int) == (s.size : Int)) by
        unfold rightS
        rw [if_pos rfl, hl, Bool.eq_iff_iff]
        simp; omega)
      have HC := Lib.hid (fun w => prefix_str s hs w)
      clear hl hs
      generalize pre isStr s.data.toList = n at H HC
      go_enter Try.func71, Try.ntmps71
      go_wp2_with (refine (HC.out _).mono ?_; rintro e w' ⟨rfl, rfl⟩)
      go_ret
      exact ⟨ret_bool (by rw [H.out]), rfl⟩
    · have H := Lib.hid (show rightS 3 s.data.toList = false by
        unfold rightS
        rw [if_pos rfl, hl, Bool.eq_false_iff]
        simp; omega)
      have hs' : s.size ≤ 9223372036854775807 := by unfold maxLen at hs; exact hs
      have t0 : decide ((s.size : Int) ≤ 60) = false := by simp; omega
      clear hl hs
      go_enter Try.func71, Try.ntmps71
      go_wp2
      go_ret
      exact ⟨ret_bool (by rw [H.out]), rfl⟩
  · have t0 : (k == 3) = false := by simpa using hk
    have H := Lib.hid (show rightS k s.data.toList = (((scanS s.data.toList).1 : Int) == k && (scanS s.data.toList).2.1 == s.size && (scanS s.data.toList).2.2 == 0) by
        unfold rightS
        rw [if_neg hk, hl])
    have HC := Lib.hid (fun w => scan_any s hs w)
    clear hl hk
    have hs' : s.size ≤ 9223372036854775807 := by unfold maxLen at hs; exact hs
    clear hs
    generalize scanS s.data.toList = x at H HC
    obtain ⟨a, b, c⟩ := x
    simp only [trip] at HC H
    cases h1 : ((c : Int) == 0) with
    | false =>
      have H2 := Lib.hid (show rightS k s.data.toList = false by
        rw [H.out, Bool.eq_false_iff]
        simp at h1 ⊢
        intros; omega)
      go_enter Try.func71, Try.ntmps71
      go_wp2_with (refine (HC.out _).mono ?_; rintro e w' ⟨rfl, rfl⟩)
      go_ret
      exact ⟨ret_bool (by rw [H2.out]), rfl⟩
    | true =>
      cases h2 : ((a : Int) == k) with
      | false =>
        have H2 := Lib.hid (show rightS k s.data.toList = false by
          rw [H.out, h2]; rfl)
        go_enter Try.func71, Try.ntmps71
        go_wp2_with (refine (HC.out _).mono ?_; rintro e w' ⟨rfl, rfl⟩)
        go_ret
        exact ⟨ret_bool (by rw [H2.out]), rfl⟩
      | true =>
        have H2 := Lib.hid (show rightS k s.data.toList = ((b : Int) == (s.size : Int)) by
          rw [H.out, h2, Bool.eq_iff_iff]
          simp at h1 ⊢
          omega)
        go_enter Try.func71, Try.ntmps71
        go_wp2_with (refine (HC.out _).mono ?_; rintro e w' ⟨rfl, rfl⟩)
        go_ret
        exact ⟨ret_bool (by rw [H2.out]), rfl⟩

theorem skip_nil (b : Bool) (n : Nat) : skipS b [] n = ([], n) := by cases b <;> rfl
theorem skip_feed {b : Bool} {c : UInt8} {r : List UInt8} {n : Nat} (h : c.toNat = 10) : skipS b (c :: r) n = skipS false r (n + 1) := by simp [skipS, h]
theorem skip_sharp {b : Bool} {c : UInt8} {r : List UInt8} {n : Nat} (h2 : c.toNat = 35) : skipS b (c :: r) n = skipS true r n := by simp [skipS, h2]
theorem skip_com {c : UInt8} {r : List UInt8} {n : Nat} (h : c.toNat ≠ 10) (h2 : c.toNat ≠ 35) : skipS true (c :: r) n = skipS true r n := by simp [skipS, h, h2]
theorem skip_blank {c : UInt8} {r : List UInt8} {n : Nat} (h : c.toNat ≠ 10) (h2 : c.toNat ≠ 35) (h3 : isBlk c = true) : skipS false (c :: r) n = skipS false r n := by simp [skipS, h, h2, h3]
theorem skip_stop {c : UInt8} {r : List UInt8} {n : Nat} (h : c.toNat ≠ 10) (h2 : c.toNat ≠ 35) (h3 : isBlk c = false) : skipS false (c :: r) n = (c :: r, n) := by simp [skipS, h, h2, h3]

/-- where skip comes to, from a on in line n -/
def SkipTo (s : ByteArray) (a n : Nat) (e : Ending) : Prop :=
  ∃ a' n' : Nat, e = .returned (.tuple #[.int .i64 a', .int .i64 n']) ∧ a ≤ a' ∧ a' ≤ s.size ∧ n' + a ≤ n + a' ∧ skipS false (s.data.toList.drop a) n = (s.data.toList.drop a', n')

theorem isName_any (s : ByteArray) (hs : s.size ≤ maxLen) (w : World) :
    Calls Try.prog 60 #[.string s] w fun e w' => e = .returned (.bool (rightS 1 s.data.toList)) ∧ w = w' := by
  go_enter Try.func60, Try.ntmps60
  go_wp2_with (refine (isText_any 1 s hs _).mono ?_; rintro e w' ⟨rfl, rfl⟩)
  go_ret
  exact ⟨rfl, rfl⟩

theorem bytes_ext {a b : ByteArray} (h : a.data.toList = b.data.toList) : a = b := by
  obtain ⟨⟨a⟩⟩ := a
  obtain ⟨⟨b⟩⟩ := b
  simp only at h
  rw [h]
theorem ret_str {a b : ByteArray} (h : a.data.toList = b.data.toList) : Ending.returned (.string a) = .returned (.string b) := by rw [bytes_ext h]

theorem take_snoc (s : ByteArray) (k : Nat) (h : k < s.size) : s.data.toList.take (k + 1) = s.data.toList.take k ++ [s[k]] := by
  rw [List.take_succ_eq_append_getElem (by simpa using h)]; rfl

end Go.Proofs.Ytgpcaofikmdpjaa
