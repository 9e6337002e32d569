/-
  Difference, the program: place, opposite, find.
  Difference, the program: find.
-/
import Derived.Test.YtcmibhechhcpiaaDArcs
import Derived.Test.YtcmibhechhcpiaaDMath
namespace Go.Proofs.Ytcmibhechhcpiaa
open Go.RowKit

/-- a link as a value -/
abbrev aval (a : Arc) : Value := .agg #[.int .i64 a.t, .int .i64 a.s, .int .i64 a.f, .int .i64 a.g, .int .i64 a.c]
def zeroA : Arc := ⟨0, 0, 0, 0, 0⟩
/-- the link of a use -/
def findS (xs : List Tst) (u : Int × Int) : Option Arc :=
  if u.1 < 0 ∨ (xs.length : Int) ≤ u.1 then none else
  if u.2 = 1 then some ⟨u.1.toNat, 1, ((xs.getD u.1.toNat default).lv + 1).toNat, ((xs.getD u.1.toNat default).rv + 1).toNat, (xs.getD u.1.toNat default).ra - (xs.getD u.1.toNat default).la⟩ else
  if u.2 = -1 ∧ (xs.getD u.1.toNat default).k = 2 then some ⟨u.1.toNat, -1, ((xs.getD u.1.toNat default).rv + 1).toNat, ((xs.getD u.1.toNat default).lv + 1).toNat, -((xs.getD u.1.toNat default).ra - (xs.getD u.1.toNat default).la)⟩ else none

theorem place_any (i : Int) (f : Nat) (w : World) (h : (f : Int) = i + 1) (hf : f ≤ 100) :
    Calls Try.prog 42 #[.int .i64 i] w fun e w' => e = .returned (.int .i64 f) ∧ w' = w := by
  have H := Lib.hid h
  have h1 : -1 ≤ i := by omega
  have h2 : i ≤ 99 := by omega
  clear h
  go_enter Try.func42, Try.ntmps42
  go_wp2
  go_ret
  exact ⟨ret_int H.out.symm, rfl⟩

set_option maxHeartbeats 1000000 in
theorem opposite_any (a : Arc) (w : World) (hc : -10000000 ≤ a.c ∧ a.c ≤ 10000000) :
    Calls Try.prog 67 #[aval a] w fun e w' => e = .returned (aval (oppA a)) ∧ Below w.heap.size w w' := by
  obtain ⟨t, s, f, g, c⟩ := a
  obtain ⟨h1, h2⟩ := hc
  dsimp only at h1 h2
  go_enter Try.func67, Try.ntmps67
  go_wp2
  refine bodyPost_ret (v := .agg #[.int .i64 0, .int .i64 0, .int .i64 g, .int .i64 f, .int .i64 (-c - 1)]) (by simp [results, Try.results67, go_sem]) rfl ?_
  exact ⟨rfl, ((Below.refl _ _).alloc (Nat.le_refl _) _).alloc (by simp) _⟩

end Go.Proofs.Ytcmibhechhcpiaa

namespace Go.Proofs.Ytcmibhechhcpiaa
open Go.RowKit

theorem quiet_left {P : Program} {f : FuncId} {args : Array Value} {w : World} {n : Nat} {v : Value}
    (h : Calls P f args (w.drewN n) fun e w' => e = .returned v ∧ w' = w.drewN n) : Calls P f args (w.drewN n) fun e w'' => e = .returned v ∧ ∃ m, w'' = w.drewN m :=
  h.mono fun _ _ ⟨he, hm⟩ => ⟨he, n, hm⟩

theorem find_below (w : World) (o1 o2 o3 : Obj) (n : Nat) (v0 v1 v2 v3 v4 : Value) :
    Below w.heap.size w (((((((((w.alloc o1).alloc o2).alloc o3).drewN n).setCell ⟨w.heap.size + 1, 0, none⟩ v0).setCell ⟨w.heap.size + 1, 1, none⟩ v1).setCell ⟨w.heap.size + 1, 2, none⟩ v2).setCell ⟨w.heap.size + 1, 3, none⟩ v3).setCell ⟨w.heap.size + 1, 4, none⟩ v4) :=
  (((((below_draws ((((Below.refl _ _).alloc (Nat.le_refl _) _).alloc (by simp) _).alloc (by simp; omega) _) n).setCell (p := ⟨w.heap.size + 1, 0, none⟩) (by simp) _).setCell (p := ⟨w.heap.size + 1, 1, none⟩) (by simp) _).setCell (p := ⟨w.heap.size + 1, 2, none⟩) (by simp) _).setCell (p := ⟨w.heap.size + 1, 3, none⟩) (by simp) _).setCell (p := ⟨w.heap.size + 1, 4, none⟩) (by simp) _

set_option maxRecDepth 100000 in
set_option maxHeartbeats 2000000 in
theorem find_any (n : Int) (xs : List Tst) (A : Option Addr) (c : Nat) (u : Int × Int) (w : World) (hg : ∀ x ∈ xs, Good n x) (hn : n ≤ 12) (hT : Tsts w w.heap.size A xs) :
    Calls Try.prog 55 #[.slice A xs.length c, .agg #[.int .i64 u.1, .int .i64 u.2]] w fun e w' => e = .returned (.tuple #[aval ((findS xs u).getD zeroA), .bool (findS xs u).isSome]) ∧ Below w.heap.size w w' := by
  obtain ⟨u1, u2⟩ := u
  by_cases h0 : u1 < 0 ∨ (xs.length : Int) ≤ u1
  · have H := Lib.hid (show findS xs (u1, u2) = none by unfold findS; rw [if_pos h0])
    generalize findS xs (u1, u2) = R at H ⊢
    clear hT hg
    by_cases h1 : u1 < 0
    · have t1 : decide (u1 < 0) = true := decide_eq_true h1
      clear h0
      go_enter Try.func55, Try.ntmps55
      go_wp2
      refine bodyPost_ret (v := .tuple #[.agg #[.int .i64 0, .int .i64 0, .int .i64 0, .int .i64 0, .int .i64 0], .bool false]) (by simp [results, Try.results55, go_sem]) rfl ?_
      exact ⟨by rw [H.out]; rfl, ((Below.refl _ _).alloc (Nat.le_refl _) _).alloc (by simp) _⟩
    · have t1 : decide (u1 < 0) = false := decide_eq_false h1
      have t2 : decide ((xs.length : Int) ≤ u1) = true := decide_eq_true (by omega)
      clear h0
      go_enter Try.func55, Try.ntmps55
      go_wp2
      refine bodyPost_ret (v := .tuple #[.agg #[.int .i64 0, .int .i64 0, .int .i64 0, .int .i64 0, .int .i64 0], .bool false]) (by simp [results, Try.results55, go_sem]) rfl ?_
      exact ⟨by rw [H.out]; rfl, ((Below.refl _ _).alloc (Nat.le_refl _) _).alloc (by simp) _⟩
  · obtain ⟨k, rfl⟩ : ∃ k : Nat, u1 = k := ⟨u1.toNat, by omega⟩
    have hk : k < xs.length := by omega
    have HD0 : Hid (findS xs ((k : Int), u2) = if u2 = 1 then some ⟨k, 1, (xs[k].lv + 1).toNat, (xs[k].rv + 1).toNat, xs[k].ra - xs[k].la⟩ else
        if u2 = -1 ∧ xs[k].k = 2 then some ⟨k, -1, (xs[k].rv + 1).toNat, (xs[k].lv + 1).toNat, -(xs[k].ra - xs[k].la)⟩ else none) := by
      have e : xs.getD k default = xs[k] := by rw [List.getD_eq_getElem?_getD, List.getElem?_eq_getElem hk]; rfl
      unfold findS
      dsimp only
      rw [if_neg (by omega), Int.toNat_natCast, e]
      exact Lib.hid rfl
    generalize findS xs ((k : Int), u2) = R at HD0 ⊢
    obtain ⟨b, off, rfl, hbb, k0, k1, k2, k3, k4⟩ := Tsts.cells hT hk
    obtain ⟨g1, ⟨g2, g3, g4, g5⟩, g6, g7, g8, g9⟩ := hg _ (List.getElem_mem hk)
    generalize xs[k] = x at k0 k1 k2 k3 k4 HD0 g1 g2 g3 g4 g5 g6 g7 g8 g9
    obtain ⟨q, lv, la, rv, ra⟩ := x
    dsimp only at k0 k1 k2 k3 k4 HD0 g1 g2 g3 g4 g5 g6 g7 g8 g9
    obtain ⟨f, hf⟩ : ∃ f : Nat, (f : Int) = lv + 1 := ⟨(lv + 1).toNat, by omega⟩
    obtain ⟨g, hg'⟩ : ∃ g : Nat, (g : Int) = rv + 1 := ⟨(rv + 1).toNat, by omega⟩
    have e1 : (lv + 1).toNat = f := by omega
    have e2 : (rv + 1).toNat = g := by omega
    rw [e1, e2] at HD0
    clear e1 e2
    have HB : Below w.heap.size w ((w.alloc (.cells #[.int .i64 k, .int .i64 u2] 46 (0, 0))).alloc (.cells #[.int .i64 0, .int .i64 0, .int .i64 0, .int .i64 0, .int .i64 0] 98 (0, 0))) :=
      ((Below.refl _ _).alloc (Nat.le_refl _) _).alloc (by simp) _
    have m0 := (HB.cell (p := ⟨b, off + k * 5, none⟩) hbb).trans k0
    have m1 := (HB.cell (p := ⟨b, off + k * 5 + 1, none⟩) hbb).trans k1
    have m2 := (HB.cell (p := ⟨b, off + k * 5 + 2, none⟩) hbb).trans k2
    have m3 := (HB.cell (p := ⟨b, off + k * 5 + 3, none⟩) hbb).trans k3
    have m4 := (HB.cell (p := ⟨b, off + k * 5 + 4, none⟩) hbb).trans k4
    have HP1 := Lib.hid (fun u => place_any lv f u hf (by omega))
    have HP2 := Lib.hid (fun u => place_any rv g u hg' (by omega))
    have EF := Lib.hid hf
    have EG := Lib.hid hg'
    have hk0 : (0 : Int) ≤ (k : Int) := by omega
    have hk1 : (k : Int) < (xs.length : Int) := by omega
    have hk2 : ((k : Int)).toNat = k := by omega
    have t1 : decide ((k : Int) < 0) = false := decide_eq_false (by omega)
    have t2 : decide ((xs.length : Int) ≤ (k : Int)) = false := decide_eq_false (by omega)
    have t2' : decide (xs.length ≤ k) = false := decide_eq_false (by omega)
    have HQ : q = 1 ∨ q = 2 := g1
    clear hT hg hf hg' k0 k1 k2 k3 k4 HB h0 g1
    by_cases h1 : u2 = 1
    · have HD : Hid (R = some ⟨k, 1, f, g, ra - la⟩) := Lib.hid (by rw [HD0.out, if_pos h1])
      subst h1
      clear HD0 HQ
      go_enter Try.func55, Try.ntmps55
      go_wp2_with fail
      go_quiet ((go_at_call 42; first | exact Calls.quiet_of_same (HP1.out _) | exact Calls.quiet_of_same (HP2.out _)))
      go_wp2_with fail
      refine bodyPost_ret (v := .tuple #[.agg #[.int .i64 k, .int .i64 1, .int .i64 f, .int .i64 g, .int .i64 (ra - la)], .bool true]) (by simp [results, Try.results55, go_sem]) rfl ?_
      exact ⟨by rw [HD.out]; rfl, find_below w _ _ _ _ _ _ _ _ _⟩
    · have t3 : (u2 == 1) = false := by simp [h1]
      by_cases h2 : u2 = -1
      · subst h2
        rcases HQ with rfl | rfl
        · have HD : Hid (R = none) := Lib.hid (by rw [HD0.out]; rfl)
          clear HD0 h1
          go_enter Try.func55, Try.ntmps55
          go_wp2_with fail
          go_quiet ((go_at_call 42; first | exact Calls.quiet_of_same (HP1.out _) | exact Calls.quiet_of_same (HP2.out _)))
          go_wp2_with fail
          refine bodyPost_ret (v := .tuple #[.agg #[.int .i64 0, .int .i64 0, .int .i64 0, .int .i64 0, .int .i64 0], .bool false]) (by simp [results, Try.results55, go_sem]) rfl ?_
          exact ⟨by rw [HD.out]; rfl, find_below w _ _ _ _ _ _ _ _ _⟩
        · have HD : Hid (R = some ⟨k, -1, g, f, -(ra - la)⟩) := Lib.hid (by rw [HD0.out]; rfl)
          clear HD0 h1
          go_enter Try.func55, Try.ntmps55
          go_wp2_with fail
          go_quiet ((go_at_call 42; first | exact Calls.quiet_of_same (HP1.out _) | exact Calls.quiet_of_same (HP2.out _)))
          go_wp2_with fail
          refine bodyPost_ret (v := .tuple #[.agg #[.int .i64 k, .int .i64 (-1), .int .i64 g, .int .i64 f, .int .i64 (-(ra - la))], .bool true]) (by simp [results, Try.results55, go_sem]) rfl ?_
          exact ⟨by rw [HD.out]; rfl, find_below w _ _ _ _ _ _ _ _ _⟩
      · have t4 : (u2 == -1) = false := by simp [h2]
        have HD : Hid (R = none) := Lib.hid (by rw [HD0.out, if_neg h1, if_neg (fun h => h2 h.1)])
        clear HD0 h1 h2 HQ
        go_enter Try.func55, Try.ntmps55
        go_wp2_with fail
        go_quiet ((go_at_call 42; first | exact Calls.quiet_of_same (HP1.out _) | exact Calls.quiet_of_same (HP2.out _)))
        go_wp2_with fail
        refine bodyPost_ret (v := .tuple #[.agg #[.int .i64 0, .int .i64 0, .int .i64 0, .int .i64 0, .int .i64 0], .bool false]) (by simp [results, Try.results55, go_sem]) rfl ?_
        exact ⟨by rw [HD.out]; rfl, find_below w _ _ _ _ _ _ _ _ _⟩

end Go.Proofs.Ytcmibhechhcpiaa
