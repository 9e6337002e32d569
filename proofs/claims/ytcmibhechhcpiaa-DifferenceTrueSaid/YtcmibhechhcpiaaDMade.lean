/-
  Difference: remainder and Made of the reference.
-/
import Derived.Test.YtcmibhechhcpiaaDEq
import Derived.Deep.RegionHeld3
namespace Go.Proofs.Ytcmibhechhcpiaa
open Go.RowKit

theorem rem_facts (x n : Int) (hn : 0 < n) : (x.tmod n + n) % n = x % n ∧ -n < x.tmod n ∧ x.tmod n < n := by
  refine ⟨?_, ?_, Int.tmod_lt_of_pos x hn⟩
  · rw [Int.add_emod_right, Int.tmod_def, Int.sub_mul_emod_self_left]
  · rcases Int.le_total 0 x with h | h
    · have := Int.tmod_nonneg n h; omega
    · have h3 := Int.tmod_lt_of_pos (-x) hn
      rw [Int.neg_tmod] at h3
      omega

set_option maxHeartbeats 1000000 in
theorem remainder_any (x n : Int) (w : World) (hn : 0 < n) (hn2 : n ≤ 1000) :
    Calls Try.prog 59 #[.int .i64 x, .int .i64 n] w fun e w' => e = .returned (.int .i64 (x % n)) ∧ w = w' := by
  obtain ⟨h1, h2, h3⟩ := rem_facts x n hn
  have H1 := Lib.hid h1
  have hne : ¬ n = 0 := by omega
  clear h1
  go_enter Try.func59, Try.ntmps59
  go_wp2_with fail
  go_ret
  exact ⟨ret_int H1.out, rfl⟩

/-- the test over n variables that numbers describe -/
def madeS (n c0 c1 c2 c3 : Int) : Tst := ⟨1 + (c0 % 4) / 3, c1 % (n + 1) - 1, 0, c2 % (n + 1) - 1, c3.tmod 12⟩
theorem made_good {n : Int} (hn : 0 ≤ n) (c0 c1 c2 c3 : Int) : Good n (madeS n c0 c1 c2 c3) := by
  have h0 := Int.emod_nonneg c0 (show (4 : Int) ≠ 0 by omega)
  have h1 := Int.emod_lt_of_pos c0 (show (0 : Int) < 4 by omega)
  have h2 := Int.emod_nonneg c1 (show n + 1 ≠ 0 by omega)
  have h3 := Int.emod_lt_of_pos c1 (show 0 < n + 1 by omega)
  have h4 := Int.emod_nonneg c2 (show n + 1 ≠ 0 by omega)
  have h5 := Int.emod_lt_of_pos c2 (show 0 < n + 1 by omega)
  have h6 := rem_facts c3 12 (by omega)
  unfold Good madeS
  dsimp only
  omega

abbrev I8 (x : Int) : Prop := -128 ≤ x ∧ x ≤ 127
abbrev cval (c0 c1 c2 c3 : Int) : Value := .agg #[.int .i8 c0, .int .i8 c1, .int .i8 c2, .int .i8 c3]
set_option maxHeartbeats 2000000 in
theorem made_any (n c0 c1 c2 c3 : Int) (w : World) (hn : 0 ≤ n) (hn2 : n ≤ 12) (h0 : I8 c0) (h1 : I8 c1) (h2 : I8 c2) (h3 : I8 c3) :
    Calls Try.prog 38 #[.int .i64 n, cval c0 c1 c2 c3] w fun e w' => e = .returned (tval (madeS n c0 c1 c2 c3)) ∧ Below w.heap.size w w' := by
  have HR0 := Lib.hid (fun u => remainder_any c0 4 u (by omega) (by omega))
  have hwn : IntKind.i64.wrap (n + 1) = n + 1 := by rw [IntKind.wrap_i64]; omega
  have hw1 : IntKind.i64.wrap c1 = c1 := by rw [IntKind.wrap_i64]; omega
  have HR1 : Hid (∀ u, Calls Try.prog 59 #[.int .i64 (IntKind.i64.wrap c1), .int .i64 (IntKind.i64.wrap (n + 1))] u fun e w' => e = .returned (.int .i64 (c1 % (n + 1))) ∧ u = w') := by
    rw [hw1, hwn]
    exact Lib.hid fun u => remainder_any c1 (n + 1) u (by omega) (by omega)
  have hw2 : IntKind.i64.wrap c2 = c2 := by rw [IntKind.wrap_i64]; omega
  have HR2 : Hid (∀ u, Calls Try.prog 59 #[.int .i64 (IntKind.i64.wrap c2), .int .i64 (IntKind.i64.wrap (n + 1))] u fun e w' => e = .returned (.int .i64 (c2 % (n + 1))) ∧ u = w') := by
    rw [hw2, hwn]
    exact Lib.hid fun u => remainder_any c2 (n + 1) u (by omega) (by omega)
  clear hw1 hw2 hwn
  have HM := Lib.hid (show madeS n c0 c1 c2 c3 = ⟨1 + (c0 % 4) / 3, c1 % (n + 1) - 1, 0, c2 % (n + 1) - 1, c3.tmod 12⟩ from rfl)
  have a0 := Int.emod_nonneg c0 (show (4 : Int) ≠ 0 by omega)
  have a1 := Int.emod_lt_of_pos c0 (show (0 : Int) < 4 by omega)
  have a2 := Int.emod_nonneg c1 (show n + 1 ≠ 0 by omega)
  have a3 := Int.emod_lt_of_pos c1 (show 0 < n + 1 by omega)
  have a4 := Int.emod_nonneg c2 (show n + 1 ≠ 0 by omega)
  have a5 := Int.emod_lt_of_pos c2 (show 0 < n + 1 by omega)
  obtain ⟨_, a6, a7⟩ := rem_facts c3 12 (by omega)
  generalize madeS n c0 c1 c2 c3 = M at HM ⊢
  generalize c0 % 4 = r0 at HR0 HM a0 a1
  generalize c1 % (n + 1) = r1 at HR1 HM a2 a3
  generalize c2 % (n + 1) = r2 at HR2 HM a4 a5
  have HQ := Lib.hid (show r0.tdiv 3 = r0 / 3 from Int.tdiv_eq_ediv_of_nonneg a0)
  have b0 : 0 ≤ r0 / 3 := by omega
  have b1 : r0 / 3 ≤ 1 := by omega
  go_enter Try.func38, Try.ntmps38
  go_wp2_with fail
  refine (HR0.out _).mono ?_
  rintro e w' ⟨rfl, rfl⟩
  go_wp2_with fail
  go_region_held3 (fun w' => w'.cell? ⟨w.heap.size, 1, none⟩ = some (.int .i8 c1) ∧ w'.cell? ⟨w.heap.size, 2, none⟩ = some (.int .i8 c2)) (go_keep)
    (first
      | (with_reducible refine (HR1.out _).mono ?_; rintro e w' ⟨rfl, rfl⟩)
      | (with_reducible refine (HR2.out _).mono ?_; rintro e w' ⟨rfl, rfl⟩))
  go_wp2_with fail
  refine bodyPost_ret (v := .agg #[.int .i64 (1 + r0 / 3), .int .i64 (r1 - 1), .int .i64 0, .int .i64 (r2 - 1), .int .i64 (c3.tmod 12)]) (by simp [results, Try.results38, go_sem]) rfl ?_
  exact ⟨by rw [HM.out], Below.drew (((Below.refl _ _).alloc (Nat.le_refl _) _).alloc (by simp) _)⟩

end Go.Proofs.Ytcmibhechhcpiaa
