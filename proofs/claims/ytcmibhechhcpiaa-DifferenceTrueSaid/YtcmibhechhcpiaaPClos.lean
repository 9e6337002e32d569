/-
  Difference, the program: the test of the next use.
-/
import Derived.Test.YtcmibhechhcpiaaPStand
import Derived.Test.YtcmibhechhcpiaaPFind
namespace Go.Proofs.Ytcmibhechhcpiaa
open Go.RowKit

set_option maxRecDepth 100000 in
set_option maxHeartbeats 2000000 in
theorem clos_any (k : Nat) (l : List Arc) (a : Arc) (j p : Nat) (q : Int) (gs gf ga gm : Nat) (w : World) (ha : a.f < 13 ∧ a.g < 13) (hc : -2000001 ≤ a.c ∧ a.c ≤ 2000001) (hj : j < 13) (hq : -1000000000 ≤ q ∧ q ≤ 1000000000)
    (hs : ∀ i j, sumK l k i j < far → -1000000000 ≤ sumK l k i j ∧ sumK l k i j ≤ 1000000000)
    (hM : Mat w gs (sumE l k)) (hF : w.cell? ⟨gf, 2, none⟩ = some (.int .i64 j)) (hA : w.cell? ⟨ga, 0, none⟩ = some (.int .i64 p)) (hS : w.cell? ⟨gm, 0, none⟩ = some (.int .i64 q)) :
    Calls Try.prog 70 #[aval a, .pointer (some ⟨gs, 0, none⟩), .pointer (some ⟨gf, 0, none⟩), .pointer (some ⟨ga, 0, none⟩), .pointer (some ⟨gm, 0, none⟩)] w fun e w' => e = .returned (.bool (pick l k p j q a)) ∧ Below w.heap.size w w' := by
  have HP : Hid (pick l k p j q a = (decide (a.f = p) && (decide (sumK l k a.g j < far) && decide (q + a.c + sumK l k a.g j < 0)))) := Lib.hid rfl
  generalize pick l k p j q a = R at HP ⊢
  obtain ⟨xt, xs, xf, xg, xc⟩ := a
  dsimp only at HP ha hc
  obtain ⟨hf1, hg1⟩ := ha
  obtain ⟨hc1, hc2⟩ := hc
  obtain ⟨hq1, hq2⟩ := hq
  have HB := Lib.hid ((Below.refl w.heap.size w).alloc (Nat.le_refl _) (.cells #[.int .i64 xt, .int .i64 xs, .int .i64 xf, .int .i64 xg, .int .i64 xc] 98 (0, 0)))
  have m1 := (HB.out.cell (p := ⟨gs, xg * 13 + j, none⟩) hM.lt).trans (hM.cell hg1 hj)
  have m2 := (HB.out.cell (p := ⟨gf, 2, none⟩) (block_lt_of_cell hF)).trans hF
  have m3 := (HB.out.cell (p := ⟨ga, 0, none⟩) (block_lt_of_cell hA)).trans hA
  have m4 := (HB.out.cell (p := ⟨gm, 0, none⟩) (block_lt_of_cell hS)).trans hS
  have HSE : Hid (sumE l k xg j = encN (sumK l k xg j)) := Lib.hid rfl
  have HSB := Lib.hid (hs xg j)
  clear hM hF hA hS hs
  generalize sumE l k xg j = z at m1 HSE
  generalize sumK l k xg j = s at HP HSE HSB
  have f0 : (0 : Int) ≤ (xf : Int) := by omega
  have f1 : (xf : Int) < 13 := by omega
  have f2 : ((xf : Int)).toNat = xf := by omega
  have g0 : (0 : Int) ≤ (xg : Int) := by omega
  have g1 : (xg : Int) < 13 := by omega
  have g2 : ((xg : Int)).toNat = xg := by omega
  have j0 : (0 : Int) ≤ (j : Int) := by omega
  have j1 : (j : Int) < 13 := by omega
  have j2 : ((j : Int)).toNat = j := by omega
  by_cases hp : xf = p
  · subst hp
    have HP1 : Hid (R = (decide (s < far) && decide (q + xc + s < 0))) := Lib.hid (by rw [HP.out, decide_eq_true rfl, Bool.true_and])
    clear HP
    by_cases hfar : s < far
    · obtain ⟨hs1, hs2⟩ := HSB.out hfar
      have hz : z = s := HSE.out.trans (encN_of hfar)
      subst hz
      have t3 : (z != 9223372036854775807) = true := by simp; omega
      have HP2 : Hid (R = decide (q + xc + z < 0)) := Lib.hid (by rw [HP1.out, decide_eq_true hfar, Bool.true_and])
      clear HP1 hfar HSE HSB
      by_cases hn : q + xc + z < 0
      · have HR : Hid (R = true) := Lib.hid (by rw [HP2.out]; exact decide_eq_true hn)
        have t4 : decide (q + xc + z < 0) = true := decide_eq_true hn
        clear HP2
        go_enter Try.func70, Try.ntmps70
        go_wp2_with fail
        go_quiet (fail)
        go_wp2_with fail
        go_ret
        exact ⟨ret_bool HR.out.symm, below_draws HB.out _⟩
      · have HR : Hid (R = false) := Lib.hid (by rw [HP2.out]; exact decide_eq_false hn)
        have t4 : decide (q + xc + z < 0) = false := decide_eq_false hn
        clear HP2
        go_enter Try.func70, Try.ntmps70
        go_wp2_with fail
        go_quiet (fail)
        go_wp2_with fail
        go_ret
        exact ⟨ret_bool HR.out.symm, below_draws HB.out _⟩
    · have hz : z = 9223372036854775807 := HSE.out.trans (by unfold encN; rw [if_neg hfar]; rfl)
      subst hz
      have HR : Hid (R = false) := Lib.hid (by rw [HP1.out, decide_eq_false hfar, Bool.false_and])
      clear HP1 hfar HSE HSB
      go_enter Try.func70, Try.ntmps70
      go_wp2_with fail
      go_quiet (fail)
      go_wp2_with fail
      go_ret
      exact ⟨ret_bool HR.out.symm, below_draws HB.out _⟩
  · have HR : Hid (R = false) := Lib.hid (by rw [HP.out, decide_eq_false hp, Bool.false_and])
    have t3 : ((xf : Int) == (p : Int)) = false := by simp; omega
    clear HP HSE HSB hp
    go_enter Try.func70, Try.ntmps70
    go_wp2_with fail
    go_quiet (fail)
    go_wp2_with fail
    go_ret
    exact ⟨ret_bool HR.out.symm, below_draws HB.out _⟩

end Go.Proofs.Ytcmibhechhcpiaa
