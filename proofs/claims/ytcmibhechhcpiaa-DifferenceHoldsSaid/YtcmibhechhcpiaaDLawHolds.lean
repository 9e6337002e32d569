/-
  DifferenceHolds: for every test and all values the law returns true. No condition.
-/
import Derived.Test.YtcmibhechhcpiaaDWide
import Derived.Test.YtcmibhechhcpiaaDProg
import Derived.Test.YtcmibhechhcpiaaChecked
import Derived.Test.YtcmibhechhcpiaaRows
namespace Go.Proofs.Ytcmibhechhcpiaa
open Go.RowKit

set_option maxRecDepth 100000 in
set_option maxHeartbeats 4000000 in
theorem lawHolds (hp : PC) (x : Tst) (vs : List Int) (A : Option Addr) (c : Nat) (w : World) (hx : T64 x) (_ : ∀ y ∈ vs, I64 y) (hl : vs.length ≤ maxLen) (hA : Ints w w.heap.size A vs) :
    Calls Try.prog 6 #[tval x, .slice A vs.length c] w fun e w' => e = .returned (.bool true) ∧ Below w.heap.size w w' := by
  have HA := Lib.hid hA
  unfold maxLen at hl
  obtain ⟨k, lv, la, rv, ra⟩ := x
  clear hA
  by_cases h45 : 20 < vs.length
  · clear hx
    go_enter Try.func6, Try.ntmps6
    have HB0 := Lib.hid (fun (o : Obj) => (Below.refl w.heap.size w).alloc (Nat.le_refl _) o)
    go_wp2_with fail
    refine (awake_any hp _).mono ?_
    rintro e w1 ⟨rfl, hb1⟩
    have HB1 := Lib.hid ((HB0.out _).trans (hb1.mono (by simp)))
    clear hb1
    go_wp2_with fail
    refine (awake_any hp _).mono ?_
    rintro e w2 ⟨rfl, hb2⟩
    go_wp2_with fail
    go_ret
    exact ⟨rfl, HB1.out.trans (hb2.mono HB1.out.size)⟩
  · cases h1 : wideB la with
    | true =>
      have HW1 : Hid (∀ u, Calls Try.prog 28 #[.int .i64 la] u fun e w' => e = .returned (.bool true) ∧ u = w') := Lib.hid fun u => by have := wide_any la u; rw [h1] at this; exact this
      clear h1 hx
      have HBX : Hid (∀ u, Below (w.heap.size + 1) (w.alloc (.cells #[.int .i64 k, .int .i64 lv, .int .i64 la, .int .i64 rv, .int .i64 ra] 32 (0, 0))) u → u.cell? ⟨w.heap.size, 0, none⟩ = some (.int .i64 k) ∧ u.cell? ⟨w.heap.size, 1, none⟩ = some (.int .i64 lv) ∧ u.cell? ⟨w.heap.size, 2, none⟩ = some (.int .i64 la) ∧ u.cell? ⟨w.heap.size, 3, none⟩ = some (.int .i64 rv) ∧ u.cell? ⟨w.heap.size, 4, none⟩ = some (.int .i64 ra)) := Lib.hid fun u hu =>
        ⟨(hu.cell (p := ⟨w.heap.size, 0, none⟩) (by simp)).trans (by simp), (hu.cell (p := ⟨w.heap.size, 1, none⟩) (by simp)).trans (by simp), (hu.cell (p := ⟨w.heap.size, 2, none⟩) (by simp)).trans (by simp), (hu.cell (p := ⟨w.heap.size, 3, none⟩) (by simp)).trans (by simp), (hu.cell (p := ⟨w.heap.size, 4, none⟩) (by simp)).trans (by simp)⟩
      have hcf : ∀ (a : Value) (w : World), (callFunc 28 #[a]).run Try.prog w = .ok (.enter 28 #[a]) w := enterWide
      go_enter Try.func6, Try.ntmps6
      have HB0 := Lib.hid (fun (o : Obj) => (Below.refl w.heap.size w).alloc (Nat.le_refl _) o)
      go_wp2_with fail
      refine (awake_any hp _).mono ?_
      rintro e w1 ⟨rfl, hb1⟩
      have hb1' := below_one hb1
      have hsz : w.heap.size < w1.heap.size := by have := hb1'.size; simp at this; omega
      have HA1 := Lib.hid (Reads.up HA.out ((HB0.out _).trans (hb1'.mono (by omega))))
      have HB1 := Lib.hid ((HB0.out _).trans (hb1'.mono (by omega)))
      have HB1' := Lib.hid hb1'
      obtain ⟨p0, p1, p2, p3, p4⟩ := HBX.out w1 hb1'
      clear hb1 hb1' HB0
      go_wp2_with fail
      refine (HW1.out _).mono ?_
      rintro e w' ⟨rfl, rfl⟩
      go_wp2_with fail
      refine (awake_any hp _).mono ?_
      rintro e w2 ⟨rfl, hb2⟩
      go_wp2_with fail
      go_ret
      exact ⟨rfl, HB1.out.trans (hb2.mono HB1.out.size)⟩
    | false =>
      cases h2 : wideB ra with
      | true =>
        have HW1 : Hid (∀ u, Calls Try.prog 28 #[.int .i64 la] u fun e w' => e = .returned (.bool false) ∧ u = w') := Lib.hid fun u => by have := wide_any la u; rw [h1] at this; exact this
        have HW2 : Hid (∀ u, Calls Try.prog 28 #[.int .i64 ra] u fun e w' => e = .returned (.bool true) ∧ u = w') := Lib.hid fun u => by have := wide_any ra u; rw [h2] at this; exact this
        clear h1 h2 hx
        have HBX : Hid (∀ u, Below (w.heap.size + 1) (w.alloc (.cells #[.int .i64 k, .int .i64 lv, .int .i64 la, .int .i64 rv, .int .i64 ra] 32 (0, 0))) u → u.cell? ⟨w.heap.size, 0, none⟩ = some (.int .i64 k) ∧ u.cell? ⟨w.heap.size, 1, none⟩ = some (.int .i64 lv) ∧ u.cell? ⟨w.heap.size, 2, none⟩ = some (.int .i64 la) ∧ u.cell? ⟨w.heap.size, 3, none⟩ = some (.int .i64 rv) ∧ u.cell? ⟨w.heap.size, 4, none⟩ = some (.int .i64 ra)) := Lib.hid fun u hu =>
          ⟨(hu.cell (p := ⟨w.heap.size, 0, none⟩) (by simp)).trans (by simp), (hu.cell (p := ⟨w.heap.size, 1, none⟩) (by simp)).trans (by simp), (hu.cell (p := ⟨w.heap.size, 2, none⟩) (by simp)).trans (by simp), (hu.cell (p := ⟨w.heap.size, 3, none⟩) (by simp)).trans (by simp), (hu.cell (p := ⟨w.heap.size, 4, none⟩) (by simp)).trans (by simp)⟩
        have hcf : ∀ (a : Value) (w : World), (callFunc 28 #[a]).run Try.prog w = .ok (.enter 28 #[a]) w := enterWide
        go_enter Try.func6, Try.ntmps6
        have HB0 := Lib.hid (fun (o : Obj) => (Below.refl w.heap.size w).alloc (Nat.le_refl _) o)
        go_wp2_with fail
        refine (awake_any hp _).mono ?_
        rintro e w1 ⟨rfl, hb1⟩
        have hb1' := below_one hb1
        have hsz : w.heap.size < w1.heap.size := by have := hb1'.size; simp at this; omega
        have HA1 := Lib.hid (Reads.up HA.out ((HB0.out _).trans (hb1'.mono (by omega))))
        have HB1 := Lib.hid ((HB0.out _).trans (hb1'.mono (by omega)))
        have HB1' := Lib.hid hb1'
        obtain ⟨p0, p1, p2, p3, p4⟩ := HBX.out w1 hb1'
        clear hb1 hb1' HB0
        go_wp2_with fail
        refine (HW1.out _).mono ?_
        rintro e w' ⟨rfl, rfl⟩
        go_wp2_with fail
        refine (HW2.out _).mono ?_
        rintro e w' ⟨rfl, rfl⟩
        go_wp2_with fail
        refine (awake_any hp _).mono ?_
        rintro e w2 ⟨rfl, hb2⟩
        go_wp2_with fail
        go_ret
        exact ⟨rfl, HB1.out.trans (hb2.mono HB1.out.size)⟩
      | false =>
        cases h3 : vs.any wideB with
        | true =>
          have HW1 : Hid (∀ u, Calls Try.prog 28 #[.int .i64 la] u fun e w' => e = .returned (.bool false) ∧ u = w') := Lib.hid fun u => by have := wide_any la u; rw [h1] at this; exact this
          have HW2 : Hid (∀ u, Calls Try.prog 28 #[.int .i64 ra] u fun e w' => e = .returned (.bool false) ∧ u = w') := Lib.hid fun u => by have := wide_any ra u; rw [h2] at this; exact this
          have HCW : Hid (∀ u, Ints u u.heap.size A vs → Calls Try.prog 29 #[.slice A vs.length c, wid] u fun e w' => e = .returned (.bool true) ∧ u = w') := Lib.hid fun u hu => by have := containsW vs A c _ u (by omega) hu; rw [h3] at this; exact this
          clear h1 h2 h3 hx
          have HBX : Hid (∀ u, Below (w.heap.size + 1) (w.alloc (.cells #[.int .i64 k, .int .i64 lv, .int .i64 la, .int .i64 rv, .int .i64 ra] 32 (0, 0))) u → u.cell? ⟨w.heap.size, 0, none⟩ = some (.int .i64 k) ∧ u.cell? ⟨w.heap.size, 1, none⟩ = some (.int .i64 lv) ∧ u.cell? ⟨w.heap.size, 2, none⟩ = some (.int .i64 la) ∧ u.cell? ⟨w.heap.size, 3, none⟩ = some (.int .i64 rv) ∧ u.cell? ⟨w.heap.size, 4, none⟩ = some (.int .i64 ra)) := Lib.hid fun u hu =>
            ⟨(hu.cell (p := ⟨w.heap.size, 0, none⟩) (by simp)).trans (by simp), (hu.cell (p := ⟨w.heap.size, 1, none⟩) (by simp)).trans (by simp), (hu.cell (p := ⟨w.heap.size, 2, none⟩) (by simp)).trans (by simp), (hu.cell (p := ⟨w.heap.size, 3, none⟩) (by simp)).trans (by simp), (hu.cell (p := ⟨w.heap.size, 4, none⟩) (by simp)).trans (by simp)⟩
          have hcf : ∀ (a : Value) (w : World), (callFunc 28 #[a]).run Try.prog w = .ok (.enter 28 #[a]) w := enterWide
          go_enter Try.func6, Try.ntmps6
          have HB0 := Lib.hid (fun (o : Obj) => (Below.refl w.heap.size w).alloc (Nat.le_refl _) o)
          go_wp2_with fail
          refine (awake_any hp _).mono ?_
          rintro e w1 ⟨rfl, hb1⟩
          have hb1' := below_one hb1
          have hsz : w.heap.size < w1.heap.size := by have := hb1'.size; simp at this; omega
          have HA1 := Lib.hid (Reads.up HA.out ((HB0.out _).trans (hb1'.mono (by omega))))
          have HB1 := Lib.hid ((HB0.out _).trans (hb1'.mono (by omega)))
          have HB1' := Lib.hid hb1'
          obtain ⟨p0, p1, p2, p3, p4⟩ := HBX.out w1 hb1'
          clear hb1 hb1' HB0
          go_wp2_with fail
          refine (HW1.out _).mono ?_
          rintro e w' ⟨rfl, rfl⟩
          go_wp2_with fail
          refine (HW2.out _).mono ?_
          rintro e w' ⟨rfl, rfl⟩
          go_wp2_with fail
          refine (HCW.out _ HA1.out).mono ?_
          rintro e w' ⟨rfl, rfl⟩
          go_wp2_with fail
          refine (awake_any hp _).mono ?_
          rintro e w2 ⟨rfl, hb2⟩
          go_wp2_with fail
          go_ret
          exact ⟨rfl, HB1.out.trans (hb2.mono HB1.out.size)⟩
        | false =>
          have HF1 := Lib.hid (wide_fit h1)
          have HF2 := Lib.hid (wide_fit h2)
          have HFV := Lib.hid (any_fit h3)
          have HW1 : Hid (∀ u, Calls Try.prog 28 #[.int .i64 la] u fun e w' => e = .returned (.bool false) ∧ u = w') := Lib.hid fun u => by have := wide_any la u; rw [h1] at this; exact this
          have HW2 : Hid (∀ u, Calls Try.prog 28 #[.int .i64 ra] u fun e w' => e = .returned (.bool false) ∧ u = w') := Lib.hid fun u => by have := wide_any ra u; rw [h2] at this; exact this
          have HCW : Hid (∀ u, Ints u u.heap.size A vs → Calls Try.prog 29 #[.slice A vs.length c, wid] u fun e w' => e = .returned (.bool false) ∧ u = w') := Lib.hid fun u hu => by have := containsW vs A c _ u (by omega) hu; rw [h3] at this; exact this
          clear h1 h2 h3
          have HBX : Hid (∀ u, Below (w.heap.size + 1) (w.alloc (.cells #[.int .i64 k, .int .i64 lv, .int .i64 la, .int .i64 rv, .int .i64 ra] 32 (0, 0))) u → u.cell? ⟨w.heap.size, 0, none⟩ = some (.int .i64 k) ∧ u.cell? ⟨w.heap.size, 1, none⟩ = some (.int .i64 lv) ∧ u.cell? ⟨w.heap.size, 2, none⟩ = some (.int .i64 la) ∧ u.cell? ⟨w.heap.size, 3, none⟩ = some (.int .i64 rv) ∧ u.cell? ⟨w.heap.size, 4, none⟩ = some (.int .i64 ra)) := Lib.hid fun u hu =>
            ⟨(hu.cell (p := ⟨w.heap.size, 0, none⟩) (by simp)).trans (by simp), (hu.cell (p := ⟨w.heap.size, 1, none⟩) (by simp)).trans (by simp), (hu.cell (p := ⟨w.heap.size, 2, none⟩) (by simp)).trans (by simp), (hu.cell (p := ⟨w.heap.size, 3, none⟩) (by simp)).trans (by simp), (hu.cell (p := ⟨w.heap.size, 4, none⟩) (by simp)).trans (by simp)⟩
          have hcf : ∀ (a : Value) (w : World), (callFunc 28 #[a]).run Try.prog w = .ok (.enter 28 #[a]) w := enterWide
          go_enter Try.func6, Try.ntmps6
          have HB0 := Lib.hid (fun (o : Obj) => (Below.refl w.heap.size w).alloc (Nat.le_refl _) o)
          go_wp2_with fail
          refine (awake_any hp _).mono ?_
          rintro e w1 ⟨rfl, hb1⟩
          have hb1' := below_one hb1
          have hsz : w.heap.size < w1.heap.size := by have := hb1'.size; simp at this; omega
          have HA1 := Lib.hid (Reads.up HA.out ((HB0.out _).trans (hb1'.mono (by omega))))
          have HB1 := Lib.hid ((HB0.out _).trans (hb1'.mono (by omega)))
          have HB1' := Lib.hid hb1'
          obtain ⟨p0, p1, p2, p3, p4⟩ := HBX.out w1 hb1'
          clear hb1 hb1' HB0
          go_wp2_with fail
          refine (HW1.out _).mono ?_
          rintro e w' ⟨rfl, rfl⟩
          go_wp2_with fail
          refine (HW2.out _).mono ?_
          rintro e w' ⟨rfl, rfl⟩
          go_wp2_with fail
          refine (HCW.out _ HA1.out).mono ?_
          rintro e w' ⟨rfl, rfl⟩
          go_wp2_with fail
          have HCELL : Hid (∀ u, Below w1.heap.size w1 u → u.cell? ⟨w.heap.size, 0, none⟩ = some (.int .i64 k) ∧ u.cell? ⟨w.heap.size, 1, none⟩ = some (.int .i64 lv) ∧ u.cell? ⟨w.heap.size, 2, none⟩ = some (.int .i64 la) ∧ u.cell? ⟨w.heap.size, 3, none⟩ = some (.int .i64 rv) ∧ u.cell? ⟨w.heap.size, 4, none⟩ = some (.int .i64 ra) ∧ Below w1.heap.size w1 u) := Lib.hid fun u hu => by
            obtain ⟨a0, a1, a2, a3, a4⟩ := HBX.out u (HB1'.out.trans (hu.mono (by omega)))
            exact ⟨a0, a1, a2, a3, a4, hu⟩
          have HCL : Hid (∀ u, u.cell? ⟨w.heap.size, 0, none⟩ = some (.int .i64 k) ∧ u.cell? ⟨w.heap.size, 1, none⟩ = some (.int .i64 lv) ∧ u.cell? ⟨w.heap.size, 2, none⟩ = some (.int .i64 la) ∧ u.cell? ⟨w.heap.size, 3, none⟩ = some (.int .i64 rv) ∧ u.cell? ⟨w.heap.size, 4, none⟩ = some (.int .i64 ra) ∧ Below w1.heap.size w1 u → Calls Try.prog 30 #[.slice A vs.length c] u fun e w' => ∃ A' c', e = .returned (.slice A' vs.length c') ∧ Ints w' w'.heap.size A' vs ∧ w'.cell? ⟨w.heap.size, 0, none⟩ = some (.int .i64 k) ∧ w'.cell? ⟨w.heap.size, 1, none⟩ = some (.int .i64 lv) ∧ w'.cell? ⟨w.heap.size, 2, none⟩ = some (.int .i64 la) ∧ w'.cell? ⟨w.heap.size, 3, none⟩ = some (.int .i64 rv) ∧ w'.cell? ⟨w.heap.size, 4, none⟩ = some (.int .i64 ra) ∧ Below w1.heap.size w1 w') := Lib.hid fun u hu => by
            obtain ⟨_, _, _, _, _, hu⟩ := hu
            refine (cloneI_any vs _ _ _ _ (by omega) (Reads.up HA1.out hu)).mono ?_
            rintro e w' ⟨A', c', rfl, h1, h2⟩
            exact ⟨A', c', rfl, h1, HCELL.out w' (hu.trans (h2.mono hu.size))⟩
          have HPH : Hid (∀ A' c' u, Ints u u.heap.size A' vs → u.cell? ⟨w.heap.size, 0, none⟩ = some (.int .i64 k) ∧ u.cell? ⟨w.heap.size, 1, none⟩ = some (.int .i64 lv) ∧ u.cell? ⟨w.heap.size, 2, none⟩ = some (.int .i64 la) ∧ u.cell? ⟨w.heap.size, 3, none⟩ = some (.int .i64 rv) ∧ u.cell? ⟨w.heap.size, 4, none⟩ = some (.int .i64 ra) ∧ Below w1.heap.size w1 u → Calls Try.prog 21 #[.agg #[.int .i64 k, .int .i64 lv, .int .i64 la, .int .i64 rv, .int .i64 ra], .slice A' vs.length c'] u fun e w' => e = .returned (.bool (holdsS ⟨k, lv, la, rv, ra⟩ vs)) ∧ w'.cell? ⟨w.heap.size, 0, none⟩ = some (.int .i64 k) ∧ w'.cell? ⟨w.heap.size, 1, none⟩ = some (.int .i64 lv) ∧ w'.cell? ⟨w.heap.size, 2, none⟩ = some (.int .i64 la) ∧ w'.cell? ⟨w.heap.size, 3, none⟩ = some (.int .i64 rv) ∧ w'.cell? ⟨w.heap.size, 4, none⟩ = some (.int .i64 ra) ∧ Below w1.heap.size w1 w') := Lib.hid fun A' c' u hT hu => by
            obtain ⟨_, _, _, _, _, hu⟩ := hu
            refine (hp.hol ⟨k, lv, la, rv, ra⟩ vs A' c' u hx HF1.out HF2.out HFV.out (by omega) hT).mono ?_
            rintro e w' ⟨rfl, h2⟩
            exact ⟨rfl, HCELL.out w' (hu.trans (h2.mono hu.size))⟩
          have HRH : Hid (∀ u, u.cell? ⟨w.heap.size, 0, none⟩ = some (.int .i64 k) ∧ u.cell? ⟨w.heap.size, 1, none⟩ = some (.int .i64 lv) ∧ u.cell? ⟨w.heap.size, 2, none⟩ = some (.int .i64 la) ∧ u.cell? ⟨w.heap.size, 3, none⟩ = some (.int .i64 rv) ∧ u.cell? ⟨w.heap.size, 4, none⟩ = some (.int .i64 ra) ∧ Below w1.heap.size w1 u → Calls Try.prog 31 #[.agg #[.int .i64 k, .int .i64 lv, .int .i64 la, .int .i64 rv, .int .i64 ra], .slice A vs.length c] u fun e w' => e = .returned (.bool (holdsS ⟨k, lv, la, rv, ra⟩ vs)) ∧ w'.cell? ⟨w.heap.size, 0, none⟩ = some (.int .i64 k) ∧ w'.cell? ⟨w.heap.size, 1, none⟩ = some (.int .i64 lv) ∧ w'.cell? ⟨w.heap.size, 2, none⟩ = some (.int .i64 la) ∧ w'.cell? ⟨w.heap.size, 3, none⟩ = some (.int .i64 rv) ∧ w'.cell? ⟨w.heap.size, 4, none⟩ = some (.int .i64 ra) ∧ Below w1.heap.size w1 w') := Lib.hid fun u hu => by
            obtain ⟨_, _, _, _, _, hu⟩ := hu
            refine (holRf ⟨k, lv, la, rv, ra⟩ vs A c u hx HF1.out HF2.out HFV.out (by omega) (Reads.up HA1.out hu)).mono ?_
            rintro e w' ⟨rfl, h2⟩
            exact ⟨rfl, HCELL.out w' (hu.trans (h2.mono hu.size))⟩
          have p5 := (HCELL.out w1 (Below.refl _ _)).2.2.2.2.2
          clear HBX HB1' HA
          generalize holdsS ⟨k, lv, la, rv, ra⟩ vs = bz at HPH HRH
          have tz : (bz == bz) = true := by simp
          go_region_held3 (fun u => u.cell? ⟨w.heap.size, 0, none⟩ = some (.int .i64 k) ∧ u.cell? ⟨w.heap.size, 1, none⟩ = some (.int .i64 lv) ∧ u.cell? ⟨w.heap.size, 2, none⟩ = some (.int .i64 la) ∧ u.cell? ⟨w.heap.size, 3, none⟩ = some (.int .i64 rv) ∧ u.cell? ⟨w.heap.size, 4, none⟩ = some (.int .i64 ra) ∧ Below w1.heap.size w1 u) (first | assumption | (exact ⟨by assumption, by assumption, by assumption, by assumption, by assumption, Below.drew (by assumption)⟩))
            (first
              | (with_reducible refine (HCL.out _ (by assumption)).mono ?_; rintro e w2 ⟨A2, c2, rfl, hT2, hs2⟩)
              | (with_reducible refine (HPH.out _ _ _ (by assumption) (by assumption)).mono ?_; rintro e w3 ⟨rfl, hs3⟩)
              | (with_reducible refine (HRH.out _ (by assumption)).mono ?_; rintro e w4 ⟨rfl, hs4⟩))
          obtain ⟨_, _, _, _, _, hu⟩ := hs4
          have HB4 := Lib.hid (HB1.out.trans (hu.mono HB1.out.size))
          clear hT2 hs2 hs3 hu p0 p1 p2 p3 p4 p5 HCL HPH HRH HCELL
          go_wp2_with fail
          go_ret
          exact ⟨rfl, HB4.out⟩

end Go.Proofs.Ytcmibhechhcpiaa
namespace Go.Proofs.Ytcmibhechhcpiaa.differenceHolds
open Go.ChangeShapes Go.WideShapes Go.ChangeAt Go.RowKit Go.Deep

set_option maxRecDepth 100000 in
theorem lifted (os : Os) (started : os.Started) (H : Type) (enc : TypeId × Value → H) :
    ReturnsInHanded {} Try.checked os 6 .any (Rows.differenceHoldsSpec.pre6 enc Try.prog Try.f6 Rows.differenceHoldsRow.domain false) (Rows.differenceHoldsSpec.post enc Try.prog Try.f6 false true false false) := by
  refine returnsInHanded_of_change (C := Try.checked) ownNone started (by kernel_rfl) Try.func6
    (ChangeSpec.witness6 (enc := enc) (C := Try.checked) false ⟨#[], #[.agg #[.int .i64 0, .int .i64 0, .int .i64 0, .int .i64 0, .int .i64 0], .slice none 0 0], []⟩ 8 (by kernel_rfl) (by kernel_rfl) (by kernel_rfl) (by kernel_rfl)) ?_
  intro W base args ds gs before hval0 hW hcnd _
  have hval : ∀ (j : Nat) t v, Try.f6.params[j]? = some t → args[j]? = some v → Value.okWide Try.prog W .any base t v := hval0
  have hW' := hW
  obtain ⟨p, q, hA0, hV, rfl, hfz, hnd⟩ := hW
  have hA : DataW.TrodAll enc Try.prog W 0 (fun _ => true) true Try.f6.params.toList args.toList ds p := hA0
  rw [Try.params6] at hA hval
  obtain ⟨v0, v1, d0, d1, p0, p1, rfl, rfl, rfl, h0, h1⟩ := trodAll_two hA
  obtain ⟨rfl, rfl⟩ := trodVars_none hV
  clear hA0 hval0
  simp only [List.append_nil] at hW'
  have hlt : ∀ x ∈ p0 ++ p1, x.block < W.heap.size := fun x hx => by simpa using hW'.lt x (by simpa using hx)
  have k0 := h0
  obtain ⟨cs0, rfl, _⟩ := okWide_struct Try.underlying32 (hval 0 32 v0 rfl rfl)
  obtain ⟨f0, g0⟩ := h0
  obtain ⟨y0, e0, hG0⟩ := tst_of g0
  obtain rfl := agg_of (e0)
  have k1 := h1
  obtain ⟨a1, len1, cap1, rfl⟩ := okWide_slice Try.underlying24 (hval 1 24 v1 rfl rfl)
  obtain ⟨f1, g1⟩ := h1
  obtain ⟨A1, xs1, c1, e1, hT1, hG1, hl1, hm1⟩ := open_i g1
  simp [Value.cells] at e1
  obtain ⟨rfl, rfl, rfl⟩ := e1
  refine (lawHolds pc y0 xs1 a1 cap1 W hG0 hG1 (Nat.le_trans hl1 hm1) hT1).mono fun e W' ⟨he, hg⟩ => ?_
  subst he
  exact ⟨_, rfl, _, _, _, [], p0 ++ p1, [], hW', trodAll_cons_mk (shut_bool Try.underlying4 _) trodAll_mk0, trodAll_mk2 (Below.trod laidOut (by kernel_rfl) (of_decide_eq_true (by kernel_rfl)) k0 hg (fun x hx => hlt x (List.mem_append_left _ hx))) (Below.trod laidOut (by kernel_rfl) (of_decide_eq_true (by kernel_rfl)) k1 hg (fun x hx => hlt x (List.mem_append_right _ hx))), rfl, hg.frame _, fun h => by cases h⟩

theorem over : Rows.differenceHoldsRow.holds Try.pinned (OpenSpec.ofChange Rows.differenceHoldsSpec) :=
  OpenClaim.holds_of_wide 6 Try.f6 rfl rfl rfl rfl rfl rfl rfl ⟨rfl, rfl, rfl, rfl, rfl⟩ rfl rfl rfl rfl rfl (by kernel_rfl) Try.func6 (by kernel_rfl)
    (of_decide_eq_true (by kernel_rfl)) (by unfold Func.isWrapper; first | (rw [if_pos (by decide +kernel)]; kernel_rfl) | (rw [if_neg (by decide +kernel)]; exact ⟨rfl, rfl⟩))
    (fun os started H enc _ => lifted os started H enc)

theorem proved : Rows.DifferenceHoldsSaid := over

end Go.Proofs.Ytcmibhechhcpiaa.differenceHolds
