/-
  Difference: tests, uses and arcs in memory; contracts of within, One, Valid of the reference.
-/
import Derived.Test.YtcmibhechhcpiaaBase
import Derived.Test.YtcmibhechhcpiaaDMath
namespace Go.Proofs.Ytcmibhechhcpiaa
open Go.RowKit

structure Tst where
  k : Int
  lv : Int
  la : Int
  rv : Int
  ra : Int
def ETst : El Tst := ⟨fun x => [.int .i64 x.k, .int .i64 x.lv, .int .i64 x.la, .int .i64 x.rv, .int .i64 x.ra], 5, fun _ => rfl, fun x u hu => by simp at hu; rcases hu with rfl | rfl | rfl | rfl | rfl <;> rfl⟩
def EUse : El (Int × Int) := ⟨fun x => [.int .i64 x.1, .int .i64 x.2], 2, fun _ => rfl, fun x u hu => by simp at hu; rcases hu with rfl | rfl <;> rfl⟩
def EArc : El Arc := ⟨fun a => [.int .i64 a.t, .int .i64 a.s, .int .i64 a.f, .int .i64 a.g, .int .i64 a.c], 5, fun _ => rfl, fun x u hu => by simp at hu; rcases hu with rfl | rfl | rfl | rfl | rfl <;> rfl⟩
abbrev Tsts (w : World) (B : Nat) (A : Option Addr) (xs : List Tst) : Prop := Reads ETst w B A xs
/-- a test as a value -/
abbrev tval (x : Tst) : Value := .agg #[.int .i64 x.k, .int .i64 x.lv, .int .i64 x.la, .int .i64 x.rv, .int .i64 x.ra]

theorem Tsts.cells {w : World} {B : Nat} {A : Option Addr} {xs : List Tst} (h : Tsts w B A xs) {k : Nat} (hk : k < xs.length) :
    ∃ b off, A = some ⟨b, off, none⟩ ∧ b < B ∧ w.cell? ⟨b, off + k * 5, none⟩ = some (.int .i64 xs[k].k) ∧ w.cell? ⟨b, off + k * 5 + 1, none⟩ = some (.int .i64 xs[k].lv) ∧ w.cell? ⟨b, off + k * 5 + 2, none⟩ = some (.int .i64 xs[k].la) ∧
      w.cell? ⟨b, off + k * 5 + 3, none⟩ = some (.int .i64 xs[k].rv) ∧ w.cell? ⟨b, off + k * 5 + 4, none⟩ = some (.int .i64 xs[k].ra) := by
  obtain ⟨b, off, h1, h2, h3⟩ := Reads.at h hk
  exact ⟨b, off, h1, h2, h3 k hk 0 _ rfl, h3 k hk 1 _ rfl, h3 k hk 2 _ rfl, h3 k hk 3 _ rfl, h3 k hk 4 _ rfl⟩

def withinS (n v a : Int) : Nat := if v < -1 ∨ n ≤ v ∨ a < -1000000 ∨ 1000000 < a then 6 else 0
def oneS (n : Int) (x : Tst) : Nat := if x.k ≠ 1 ∧ x.k ≠ 2 then 1 else if withinS n x.lv x.la ≠ 0 then withinS n x.lv x.la else withinS n x.rv x.ra
def firstE (n : Int) : List Tst → Nat
  | [] => 0
  | x :: r => if oneS n x ≠ 0 then oneS n x else firstE n r
def validS (n : Int) (l : List Tst) : Nat := if n < 0 ∨ 12 < n then 6 else if 40 < l.length then 3 else firstE n l

theorem below_one {w w1 : World} {o : Obj} (h : Below (w.alloc o).heap.size (w.alloc o) w1) : Below (w.heap.size + 1) (w.alloc o) w1 := by simpa using h

theorem within_any (n v a : Int) (w : World) :
    Calls Try.prog 62 #[.int .i64 n, .agg #[.int .i64 v, .int .i64 a]] w fun e w' => e = .returned (.int .i64 (withinS n v a)) ∧ Below w.heap.size w w' := by
  by_cases h1 : v < -1
  · have H := Lib.hid (show withinS n v a = 6 by unfold withinS; rw [if_pos (by omega)])
    have t1 : decide (v < -1) = true := decide_eq_true h1
    go_enter Try.func62, Try.ntmps62
    go_wp2_with fail
    go_ret
    exact ⟨ret_int (by rw [H.out]; rfl), (Below.refl _ _).alloc (Nat.le_refl _) _⟩
  · have t1 : decide (v < -1) = false := decide_eq_false h1
    by_cases h2 : n ≤ v
    · have H := Lib.hid (show withinS n v a = 6 by unfold withinS; rw [if_pos (by omega)])
      have t2 : decide (n ≤ v) = true := decide_eq_true h2
      go_enter Try.func62, Try.ntmps62
      go_wp2_with fail
      go_ret
      exact ⟨ret_int (by rw [H.out]; rfl), (Below.refl _ _).alloc (Nat.le_refl _) _⟩
    · have t2 : decide (n ≤ v) = false := decide_eq_false h2
      by_cases h3 : a < -1000000
      · have H := Lib.hid (show withinS n v a = 6 by unfold withinS; rw [if_pos (by omega)])
        have t3 : decide (a < -1000000) = true := decide_eq_true h3
        go_enter Try.func62, Try.ntmps62
        go_wp2_with fail
        go_ret
        exact ⟨ret_int (by rw [H.out]; rfl), (Below.refl _ _).alloc (Nat.le_refl _) _⟩
      · have t3 : decide (a < -1000000) = false := decide_eq_false h3
        by_cases h4 : 1000000 < a
        · have H := Lib.hid (show withinS n v a = 6 by unfold withinS; rw [if_pos (by omega)])
          have t4 : decide (1000000 < a) = true := decide_eq_true h4
          go_enter Try.func62, Try.ntmps62
          go_wp2_with fail
          go_ret
          exact ⟨ret_int (by rw [H.out]; rfl), (Below.refl _ _).alloc (Nat.le_refl _) _⟩
        · have H := Lib.hid (show withinS n v a = 0 by unfold withinS; rw [if_neg (by omega)])
          have t4 : decide (1000000 < a) = false := decide_eq_false h4
          go_enter Try.func62, Try.ntmps62
          go_wp2_with fail
          go_ret
          exact ⟨ret_int (by rw [H.out]; rfl), (Below.refl _ _).alloc (Nat.le_refl _) _⟩

set_option maxHeartbeats 1000000 in
theorem one_any (n : Int) (x : Tst) (w : World) :
    Calls Try.prog 45 #[.int .i64 n, tval x] w fun e w' => e = .returned (.int .i64 (oneS n x)) ∧ Below w.heap.size w w' := by
  obtain ⟨k, lv, la, rv, ra⟩ := x
  have HW := Lib.hid (fun v a u => within_any n v a u)
  have hsz : ∀ (u : World) (o : Obj), u.heap.size ≤ (u.alloc o).heap.size := fun u o => by simp
  have HS := Lib.hid hsz
  clear hsz
  by_cases hk : k ≠ 1 ∧ k ≠ 2
  · have H := Lib.hid (show oneS n ⟨k, lv, la, rv, ra⟩ = 1 by unfold oneS; rw [if_pos hk])
    have t1 : (k != 1) = true := by simp [bne]; exact hk.1
    have t2 : (k != 2) = true := by simp [bne]; exact hk.2
    clear hk
    go_enter Try.func45, Try.ntmps45
    go_wp2_with fail
    go_ret
    exact ⟨ret_int (by rw [H.out]; rfl), (Below.refl _ _).alloc (Nat.le_refl _) _⟩
  · have hk' : k = 1 ∨ k = 2 := by omega
    have H0 : Hid (oneS n ⟨k, lv, la, rv, ra⟩ = if withinS n lv la ≠ 0 then withinS n lv la else withinS n rv ra) := by unfold oneS; rw [if_neg hk]; exact Lib.hid rfl
    generalize oneS n ⟨k, lv, la, rv, ra⟩ = R at H0 ⊢
    clear hk
    generalize hW1 : withinS n lv la = e1 at H0
    generalize hW2 : withinS n rv ra = e2 at H0
    have C1 : Hid (∀ u, Calls Try.prog 62 #[.int .i64 n, .agg #[.int .i64 lv, .int .i64 la]] u fun e w' => e = .returned (.int .i64 (e1 : Nat)) ∧ Below u.heap.size u w') := by rw [← hW1]; exact Lib.hid (fun u => HW.out lv la u)
    have C2 : Hid (∀ u, Calls Try.prog 62 #[.int .i64 n, .agg #[.int .i64 rv, .int .i64 ra]] u fun e w' => e = .returned (.int .i64 (e2 : Nat)) ∧ Below u.heap.size u w') := by rw [← hW2]; exact Lib.hid (fun u => HW.out rv ra u)
    clear hW1 hW2 HW
    rcases hk' with rfl | rfl
    all_goals
      by_cases he : e1 = 0
      · have H := Lib.hid (show R = e2 by rw [H0.out, if_neg (by omega)])
        subst he
        go_enter Try.func45, Try.ntmps45
        go_wp2_with fail
        refine (C1.out _).mono ?_
        rintro e w1 ⟨rfl, hb1⟩
        have hb1' := below_one hb1
        have k3 := (hb1'.cell (p := ⟨w.heap.size, 3, none⟩) (by simp)).trans (show _ = some (Value.int .i64 rv) from by simp)
        have k4 := (hb1'.cell (p := ⟨w.heap.size, 4, none⟩) (by simp)).trans (show _ = some (Value.int .i64 ra) from by simp)
        have HB1 := Lib.hid (((Below.refl w.heap.size w).alloc (Nat.le_refl _) _).trans (hb1'.mono (by omega)))
        clear hb1 hb1'
        go_wp2_with fail
        refine (C2.out _).mono ?_
        rintro e w2 ⟨rfl, hb2⟩
        go_wp2_with fail
        go_ret
        exact ⟨ret_int (by rw [H.out]), HB1.out.trans (hb2.mono HB1.out.size)⟩
      · have H := Lib.hid (show R = e1 by rw [H0.out, if_pos he])
        have t3 : ((e1 : Int) != 0) = true := by simp; omega
        clear he
        go_enter Try.func45, Try.ntmps45
        go_wp2_with fail
        refine (C1.out _).mono ?_
        rintro e w1 ⟨rfl, hb1⟩
        have HB1 := Lib.hid (((Below.refl w.heap.size w).alloc (Nat.le_refl _) _).trans (hb1.mono (by simp)))
        clear hb1
        go_wp2_with fail
        go_ret
        exact ⟨ret_int (by rw [H.out]), HB1.out⟩

end Go.Proofs.Ytcmibhechhcpiaa
