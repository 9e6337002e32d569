/-
  Types, the program: isIndex, areBounds, isInterval; what lies in boxes.
-/
import Derived.Test.YtgpcaofikmdpjaaTPc
namespace Go.Proofs.Ytgpcaofikmdpjaa
open Go.RowKit

theorem isIndex_any (i n : Int) (w : World) : Calls Try.prog 46 #[.int .i64 i, .int .i64 n] w fun e w' => e = .returned (.bool (inB i 0 (n - 1))) ∧ w = w' := by
  by_cases h1 : 0 ≤ i
  · by_cases h2 : i < n
    · have H := Lib.hid (show inB i 0 (n - 1) = true by unfold inB; rw [decide_eq_true h1, Bool.true_and]; exact decide_eq_true (by omega))
      have t1 : decide (0 ≤ i) = true := decide_eq_true h1
      have t2 : decide (i < n) = true := decide_eq_true h2
      go_enter Try.func46, Try.ntmps46
      go_wp2_with fail
      go_ret
      exact ⟨ret_bool H.out.symm, rfl⟩
    · have H := Lib.hid (show inB i 0 (n - 1) = false by unfold inB; rw [decide_eq_true h1, Bool.true_and]; exact decide_eq_false (by omega))
      have t1 : decide (0 ≤ i) = true := decide_eq_true h1
      have t2 : decide (i < n) = false := decide_eq_false h2
      go_enter Try.func46, Try.ntmps46
      go_wp2_with fail
      go_ret
      exact ⟨ret_bool H.out.symm, rfl⟩
  · have H := Lib.hid (show inB i 0 (n - 1) = false by unfold inB; rw [decide_eq_false h1, Bool.false_and])
    have t1 : decide (0 ≤ i) = false := decide_eq_false h1
    go_enter Try.func46, Try.ntmps46
    go_wp2_with fail
    go_ret
    exact ⟨ret_bool H.out.symm, rfl⟩

set_option maxRecDepth 100000 in
theorem areBounds_any (lo hi : Int) (w : World) : Calls Try.prog 54 #[.int .i64 lo, .int .i64 hi] w fun e w' => e = .returned (.bool (boundS lo hi)) ∧ w = w' := by
  have HX : Hid (boundS lo hi = ((decide (0 ≤ lo) && decide (lo ≤ 40)) && (decide (hi = -1) || (decide (lo ≤ hi) && decide (hi ≤ 40))))) := Lib.hid rfl
  generalize boundS lo hi = R at HX ⊢
  by_cases h1 : hi = -1
  · subst h1
    by_cases h2 : 0 ≤ lo
    · have t2 : decide (0 ≤ lo) = true := decide_eq_true h2
      have H : Hid (R = decide (lo ≤ 40)) := Lib.hid (by rw [HX.out, t2, decide_eq_true rfl]; simp)
      clear HX
      cases t3 : decide (lo ≤ 40)
      all_goals
        rw [t3] at H
        go_enter Try.func54, Try.ntmps54
        go_wp2_with fail
        go_ret
        exact ⟨ret_bool H.out.symm, rfl⟩
    · have t2 : decide (0 ≤ lo) = false := decide_eq_false h2
      have H : Hid (R = false) := Lib.hid (by rw [HX.out, t2]; simp)
      clear HX
      go_enter Try.func54, Try.ntmps54
      go_wp2_with fail
      go_ret
      exact ⟨ret_bool H.out.symm, rfl⟩
  · have t1 : (hi == -1) = false := by simp [h1]
    have HX1 : Hid (R = ((decide (0 ≤ lo) && decide (lo ≤ 40)) && (decide (lo ≤ hi) && decide (hi ≤ 40)))) := Lib.hid (by rw [HX.out, decide_eq_false h1, Bool.false_or])
    clear HX
    cases t2 : decide (lo ≤ hi)
    all_goals
      cases t3 : decide (hi ≤ 40)
      all_goals
        cases t4 : decide (0 ≤ lo)
        all_goals
          cases t5 : decide (lo ≤ 40)
          all_goals
            rw [t2, t3, t4, t5] at HX1
            go_enter Try.func54, Try.ntmps54
            go_wp2_with fail
            go_ret
            exact ⟨ret_bool (by rw [HX1.out]; rfl), rfl⟩

/-- whether an attribute may have its bounds -/
def interS (a : Att) : Bool := if 0 < a.ns.length then decide (a.lo = 0) && decide (a.hi = (a.ns.length : Int) - 1) else inB a.lo (-1000000) 1000000 && inB a.hi a.lo 1000000

set_option maxRecDepth 100000 in
theorem isInterval_any (a : Att) (A : Option Addr) (c : Nat) (w : World) (hl : a.ns.length ≤ 1000) :
    Calls Try.prog 66 #[aval a A c] w fun e w' => e = .returned (.bool (interS a)) ∧ Below w.heap.size w w' := by
  have HE : Hid (interS a = if 0 < a.ns.length then decide (a.lo = 0) && decide (a.hi = (a.ns.length : Int) - 1) else inB a.lo (-1000000) 1000000 && inB a.hi a.lo 1000000) := Lib.hid rfl
  have HB0 := Lib.hid (fun (o : Obj) => (Below.refl w.heap.size w).alloc (Nat.le_refl _) o)
  generalize interS a = R at HE ⊢
  obtain ⟨nm, lo, hi, ns⟩ := a
  dsimp only at HE hl
  by_cases h0 : 0 < ns.length
  · have t0 : decide (0 < (ns.length : Int)) = true := decide_eq_true (by omega)
    have HR : Hid (R = (decide (lo = 0) && decide (hi = (ns.length : Int) - 1))) := Lib.hid (by rw [HE.out, if_pos h0])
    clear HE
    by_cases h1 : lo = 0
    · subst h1
      by_cases h2 : hi = (ns.length : Int) - 1
      · subst h2
        go_enter Try.func66, Try.ntmps66
        go_wp2_with fail
        go_ret
        exact ⟨ret_bool (by rw [HR.out]; simp), HB0.out _⟩
      · have t2 : (hi == (ns.length : Int) - 1) = false := by simp [h2]
        have HR2 : Hid (R = false) := Lib.hid (by rw [HR.out, decide_eq_false h2]; rfl)
        clear HR h2
        go_enter Try.func66, Try.ntmps66
        go_wp2_with fail
        go_ret
        exact ⟨ret_bool HR2.out.symm, HB0.out _⟩
    · have t2 : (lo == 0) = false := by simp [h1]
      have HR2 : Hid (R = false) := Lib.hid (by rw [HR.out, decide_eq_false h1]; rfl)
      clear HR h1
      go_enter Try.func66, Try.ntmps66
      go_wp2_with fail
      go_ret
      exact ⟨ret_bool HR2.out.symm, HB0.out _⟩
  · have t0 : decide (0 < (ns.length : Int)) = false := decide_eq_false (by omega)
    have HR : Hid (R = ((decide (-1000000 ≤ lo) && decide (lo ≤ hi)) && decide (hi ≤ 1000000))) := Lib.hid (by
      rw [HE.out, if_neg h0]
      unfold inB
      rw [Bool.eq_iff_iff]
      simp only [Bool.and_eq_true, decide_eq_true_eq]
      omega)
    clear HE
    cases t2 : decide (-1000000 ≤ lo)
    all_goals
      cases t3 : decide (lo ≤ hi)
      all_goals
        cases t4 : decide (hi ≤ 1000000)
        all_goals
          rw [t2, t3, t4] at HR
          go_enter Try.func66, Try.ntmps66
          go_wp2_with fail
          go_ret
          exact ⟨ret_bool (by rw [HR.out]; rfl), HB0.out _⟩

/-- the error of a name behind others; b: whether one of them has it -/
def chkR (n : ByteArray) (b : Bool) : Nat := if isNm n = false then 2 else if b = true then 5 else 0

theorem attE_inter (a : Att) : attE a = if namesE a.ns ≠ 0 then namesE a.ns else if interS a = true then 0 else 6 := by
  unfold attE interS
  by_cases h : a.ns.length = 0
  · have e : namesE a.ns = 0 := by unfold namesE; rw [if_neg (by omega), h]; rfl
    rw [if_pos h, e, if_neg (show ¬ (0 : Nat) ≠ 0 from fun h => h rfl), if_neg (show ¬ 0 < a.ns.length by omega)]
  · rw [if_neg h, if_pos (show 0 < a.ns.length by omega)]
    by_cases e : namesE a.ns = 0
    · rw [e, if_neg (show ¬ (0 : Nat) ≠ 0 from fun h => h rfl), if_neg (show ¬ (0 : Nat) ≠ 0 from fun h => h rfl)]
      by_cases h1 : a.lo = 0
      · by_cases h2 : a.hi = (a.ns.length : Int) - 1
        · rw [decide_eq_true h1, decide_eq_true h2, if_neg (by omega)]; rfl
        · rw [decide_eq_true h1, decide_eq_false h2, if_pos (Or.inr h2)]; rfl
      · rw [decide_eq_false h1, if_pos (Or.inl h1)]; rfl
    · rw [if_pos e, if_pos e]

end Go.Proofs.Ytgpcaofikmdpjaa
