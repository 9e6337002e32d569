/-
  Contracts of the functions of one byte, of the program and of the reference.
-/
import Derived.Test.YtgpcaofikmdpjaaRows
import Derived.Test.YtgpcaofikmdpjaaPlain
import Derived.WalkKit
import Derived.Outline
namespace Go.Proofs.Ytgpcaofikmdpjaa
open Go.RowKit

theorem ret_bool {a b : Bool} (h : a = b) : Ending.returned (.bool a) = .returned (.bool b) := by rw [h]

theorem isLetter_any (c : UInt8) (w : World) : Calls Try.prog 91 #[.int .u8 c.toNat] w fun e w' => e = .returned (.bool (isLet c)) ∧ w = w' := by
  go_enter Try.func91, Try.ntmps91
  go_wp2
  all_goals (go_ret; exact ⟨ret_bool (by unfold isLet; rw [Bool.eq_iff_iff]; simp; omega), rfl⟩)

theorem isDigit_any (c : UInt8) (w : World) : Calls Try.prog 94 #[.int .u8 c.toNat] w fun e w' => e = .returned (.bool (isDig c)) ∧ w = w' := by
  go_enter Try.func94, Try.ntmps94
  go_wp2
  all_goals (go_ret; exact ⟨ret_bool (by unfold isDig; rw [Bool.eq_iff_iff]; simp; omega), rfl⟩)

theorem isNameByte_any (c : UInt8) (w : World) : Calls Try.prog 93 #[.int .u8 c.toNat] w fun e w' => e = .returned (.bool (isNam c)) ∧ w = w' := by
  go_enter Try.func93, Try.ntmps93
  go_wp2
  all_goals (go_ret; exact ⟨ret_bool (by unfold isNam isLet isDig; rw [Bool.eq_iff_iff]; simp; omega), rfl⟩)

theorem isStringByte_any (c : UInt8) (w : World) : Calls Try.prog 81 #[.int .u8 c.toNat] w fun e w' => e = .returned (.bool (isStr c)) ∧ w = w' := by
  go_enter Try.func81, Try.ntmps81
  go_wp2
  all_goals (go_ret; exact ⟨ret_bool (by unfold isStr; rw [Bool.eq_iff_iff]; simp; omega), rfl⟩)

theorem letter_any (c : UInt8) (w : World) : Calls Try.prog 86 #[.int .u8 c.toNat] w fun e w' => e = .returned (.bool (isLet c)) ∧ w = w' := by
  go_enter Try.func86, Try.ntmps86
  go_wp2
  all_goals (go_ret; exact ⟨ret_bool (by unfold isLet; rw [Bool.eq_iff_iff]; simp; omega), rfl⟩)

theorem digit_any (c : UInt8) (w : World) : Calls Try.prog 87 #[.int .u8 c.toNat] w fun e w' => e = .returned (.bool (isDig c)) ∧ w = w' := by
  go_enter Try.func87, Try.ntmps87
  go_wp2
  all_goals (go_ret; exact ⟨ret_bool (by unfold isDig; rw [Bool.eq_iff_iff]; simp; omega), rfl⟩)

end Go.Proofs.Ytgpcaofikmdpjaa
