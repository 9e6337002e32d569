/-
  Difference, the program: isTerm, check, Valid.
-/
import Derived.Test.YtcmibhechhcpiaaDArcs
namespace Go.Proofs.Ytcmibhechhcpiaa
open Go.RowKit

set_option maxHeartbeats 1000000 in
theorem isTerm_any (n v a : Int) (w : World) :
    Calls Try.prog 61 #[.int .i64 n, .agg #[.int .i64 v, .int .i64 a]] w fun e w' => e = .returned (.bool (decide (withinS n v a = 0))) ∧ Below w.heap.size w w' := by
  by_cases h1 : -1 ≤ v
  · have t1 : decide (-1 ≤ v) = true := decide_eq_true h1
    by_cases h2 : v < n
    · have t2 : decide (v < n) = true := decide_eq_true h2
      by_cases h3 : -1000000 ≤ a
      · have t3 : decide (-1000000 ≤ a) = true := decide_eq_true h3
        by_cases h4 : a ≤ 1000000
        · have t4 : decide (a ≤ 1000000) = true := decide_eq_true h4
          have H := Lib.hid (show decide (withinS n v a = 0) = true from decide_eq_true (within_zero.2 ⟨h1, h2, h3, h4⟩))
          go_enter Try.func61, Try.ntmps61
          go_wp2_with fail
          go_ret
          exact ⟨ret_bool H.out.symm, (Below.refl _ _).alloc (Nat.le_refl _) _⟩
        · have H := Lib.hid (show decide (withinS n v a = 0) = false from decide_eq_false (fun h => h4 (within_zero.1 h).2.2.2))
          have t4 : decide (a ≤ 1000000) = false := decide_eq_false h4
          go_enter Try.func61, Try.ntmps61
          go_wp2_with fail
          go_ret
          exact ⟨ret_bool H.out.symm, (Below.refl _ _).alloc (Nat.le_refl _) _⟩
      · have H := Lib.hid (show decide (withinS n v a = 0) = false from decide_eq_false (fun h => h3 (within_zero.1 h).2.2.1))
        have t3 : decide (-1000000 ≤ a) = false := decide_eq_false h3
        go_enter Try.func61, Try.ntmps61
        go_wp2_with fail
        go_ret
        exact ⟨ret_bool H.out.symm, (Below.refl _ _).alloc (Nat.le_refl _) _⟩
    · have H := Lib.hid (show decide (withinS n v a = 0) = false from decide_eq_false (fun h => h2 (within_zero.1 h).2.1))
      have t2 : decide (v < n) = false := decide_eq_false h2
      go_enter Try.func61, Try.ntmps61
      go_wp2_with fail
      go_ret
      exact ⟨ret_bool H.out.symm, (Below.refl _ _).alloc (Nat.le_refl _) _⟩
  · have H := Lib.hid (show decide (withinS n v a = 0) = false from decide_eq_false (fun h => h1 (within_zero.1 h).1))
    have t1 : decide (-1 ≤ v) = false := decide_eq_false h1
    go_enter Try.func61, Try.ntmps61
    go_wp2_with fail
    go_ret
    exact ⟨ret_bool H.out.symm, (Below.refl _ _).alloc (Nat.le_refl _) _⟩

theorem one_split (n : Int) (x : Tst) (hk : x.k = 1 ∨ x.k = 2) : oneS n x = if withinS n x.lv x.la = 0 ∧ withinS n x.rv x.ra = 0 then 0 else 6 := by
  have h6 : ∀ v a, withinS n v a = 0 ∨ withinS n v a = 6 := fun v a => by unfold withinS; split <;> simp
  unfold oneS
  rw [if_neg (by omega)]
  rcases h6 x.lv x.la with h1 | h1 <;> rcases h6 x.rv x.ra with h2 | h2 <;> simp [h1, h2]

set_option maxHeartbeats 1000000 in
theorem check1_any (n : Int) (x : Tst) (w : World) :
    Calls Try.prog 44 #[.int .i64 n, tval x] w fun e w' => e = .returned (.int .i64 (oneS n x)) ∧ Below w.heap.size w w' := by
  have HO := Lib.hid (fun h => one_split n x h)
  have HK : Hid (x.k ≠ 1 ∧ x.k ≠ 2 → oneS n x = 1) := Lib.hid fun h => by unfold oneS; rw [if_pos h]
  obtain ⟨k, lv, la, rv, ra⟩ := x
  have HW := Lib.hid (fun v a u => isTerm_any n v a u)
  dsimp only at HO HK
  by_cases hk : k ≠ 1 ∧ k ≠ 2
  · have H := Lib.hid (HK.out hk)
    have t1 : (k != 1) = true := by simp [bne]; exact hk.1
    have t2 : (k != 2) = true := by simp [bne]; exact hk.2
    clear hk
    go_enter Try.func44, Try.ntmps44
    go_wp2_with fail
    go_ret
    exact ⟨ret_int (by rw [H.out]; rfl), (Below.refl _ _).alloc (Nat.le_refl _) _⟩
  · have hk' : k = 1 ∨ k = 2 := by omega
    have H := Lib.hid (HO.out hk')
    generalize oneS n ⟨k, lv, la, rv, ra⟩ = R at H ⊢
    clear hk HO HK
    have C1 := Lib.hid (fun u => HW.out lv la u)
    have C2 := Lib.hid (fun u => HW.out rv ra u)
    clear HW
    generalize withinS n lv la = e1 at H C1
    generalize withinS n rv ra = e2 at H C2
    rcases hk' with rfl | rfl
    all_goals
      by_cases he : e1 = 0
      · have C1' : Hid (∀ u, Calls Try.prog 61 #[.int .i64 n, .agg #[.int .i64 lv, .int .i64 la]] u fun e w' => e = .returned (.bool true) ∧ Below u.heap.size u w') := Lib.hid fun u => by have := C1.out u; rw [decide_eq_true he] at this; exact this
        by_cases he2 : e2 = 0
        · have C2' : Hid (∀ u, Calls Try.prog 61 #[.int .i64 n, .agg #[.int .i64 rv, .int .i64 ra]] u fun e w' => e = .returned (.bool true) ∧ Below u.heap.size u w') := Lib.hid fun u => by have := C2.out u; rw [decide_eq_true he2] at this; exact this
          have H2 : Hid (R = 0) := Lib.hid (by rw [H.out, if_pos ⟨he, he2⟩])
          clear C1 C2 he he2 H
          go_enter Try.func44, Try.ntmps44
          go_wp2_with fail
          refine (C1'.out _).mono ?_
          rintro e w1 ⟨rfl, hb1⟩
          have hb1' := below_one hb1
          have k3 := (hb1'.cell (p := ⟨w.heap.size, 3, none⟩) (by simp)).trans (show _ = some (Value.int .i64 rv) from by simp)
          have k4 := (hb1'.cell (p := ⟨w.heap.size, 4, none⟩) (by simp)).trans (show _ = some (Value.int .i64 ra) from by simp)
          have HB1 := Lib.hid (((Below.refl w.heap.size w).alloc (Nat.le_refl _) _).trans (hb1'.mono (by omega)))
          clear hb1 hb1'
          go_wp2_with fail
          refine (C2'.out _).mono ?_
          rintro e w2 ⟨rfl, hb2⟩
          go_wp2_with fail
          go_ret
          exact ⟨ret_int (by rw [H2.out]; rfl), HB1.out.trans (hb2.mono HB1.out.size)⟩
        · have C2' : Hid (∀ u, Calls Try.prog 61 #[.int .i64 n, .agg #[.int .i64 rv, .int .i64 ra]] u fun e w' => e = .returned (.bool false) ∧ Below u.heap.size u w') := Lib.hid fun u => by have := C2.out u; rw [decide_eq_false he2] at this; exact this
          have H2 : Hid (R = 6) := Lib.hid (by rw [H.out, if_neg (fun h => he2 h.2)])
          clear C1 C2 he he2 H
          go_enter Try.func44, Try.ntmps44
          go_wp2_with fail
          refine (C1'.out _).mono ?_
          rintro e w1 ⟨rfl, hb1⟩
          have hb1' := below_one hb1
          have k3 := (hb1'.cell (p := ⟨w.heap.size, 3, none⟩) (by simp)).trans (show _ = some (Value.int .i64 rv) from by simp)
          have k4 := (hb1'.cell (p := ⟨w.heap.size, 4, none⟩) (by simp)).trans (show _ = some (Value.int .i64 ra) from by simp)
          have HB1 := Lib.hid (((Below.refl w.heap.size w).alloc (Nat.le_refl _) _).trans (hb1'.mono (by omega)))
          clear hb1 hb1'
          go_wp2_with fail
          refine (C2'.out _).mono ?_
          rintro e w2 ⟨rfl, hb2⟩
          go_wp2_with fail
          go_ret
          exact ⟨ret_int (by rw [H2.out]; rfl), HB1.out.trans (hb2.mono HB1.out.size)⟩
      · have C1' : Hid (∀ u, Calls Try.prog 61 #[.int .i64 n, .agg #[.int .i64 lv, .int .i64 la]] u fun e w' => e = .returned (.bool false) ∧ Below u.heap.size u w') := Lib.hid fun u => by have := C1.out u; rw [decide_eq_false he] at this; exact this
        have H2 : Hid (R = 6) := Lib.hid (by rw [H.out, if_neg (fun h => he h.1)])
        clear C1 C2 he H
        go_enter Try.func44, Try.ntmps44
        go_wp2_with fail
        refine (C1'.out _).mono ?_
        rintro e w1 ⟨rfl, hb1⟩
        have HB1 := Lib.hid (((Below.refl w.heap.size w).alloc (Nat.le_refl _) _).trans (hb1.mono (by simp)))
        clear hb1
        go_wp2_with fail
        go_ret
        exact ⟨ret_int (by rw [H2.out]; rfl), HB1.out⟩

set_option maxHeartbeats 1000000 in
theorem pvalid_any (n : Int) (xs : List Tst) (A : Option Addr) (c : Nat) (w : World) (hl : xs.length ≤ maxLen) (hT : Tsts w w.heap.size A xs) :
    Calls Try.prog 16 #[.int .i64 n, .slice A xs.length c] w fun e w' => e = .returned (.int .i64 (validS n xs)) ∧ Below w.heap.size w w' := by
  unfold maxLen at hl
  by_cases h1 : n < 0 ∨ 12 < n
  · have H := Lib.hid (show validS n xs = 6 by unfold validS; rw [if_pos h1])
    have h2 : (decide (n < 0) || decide (12 < n)) = true := by simpa using h1
    clear hT
    by_cases h3 : n < 0
    · have t1 : decide (n < 0) = true := decide_eq_true h3
      clear h1 h2
      go_enter Try.func16, Try.ntmps16
      go_wp2_with fail
      go_ret
      exact ⟨ret_int (by rw [H.out]; rfl), Below.refl _ _⟩
    · have t1 : decide (n < 0) = false := decide_eq_false h3
      have t2 : decide (12 < n) = true := decide_eq_true (by omega)
      clear h1 h2
      go_enter Try.func16, Try.ntmps16
      go_wp2_with fail
      go_ret
      exact ⟨ret_int (by rw [H.out]; rfl), Below.refl _ _⟩
  · have t1 : decide (n < 0) = false := decide_eq_false (by omega)
    have t2 : decide (12 < n) = false := decide_eq_false (by omega)
    by_cases h40 : 40 < xs.length
    · have H := Lib.hid (show validS n xs = 3 by unfold validS; rw [if_neg h1, if_pos h40])
      clear hT h1
      go_enter Try.func16, Try.ntmps16
      go_wp2_with fail
      go_ret
      exact ⟨ret_int (by rw [H.out]; rfl), Below.refl _ _⟩
    · have H := Lib.hid (show validS n xs = firstE n xs by unfold validS; rw [if_neg h1, if_neg h40])
      have HT := Lib.hid hT
      have HF : Hid (∀ k (hk : k < xs.length), firstE n (xs.drop k) = if oneS n xs[k] ≠ 0 then oneS n xs[k] else firstE n (xs.drop (k + 1))) := Lib.hid fun k hk => firstE_drop n hk
      have hl4 : xs.length ≤ 40 := by omega
      clear hT hl h40 h1
      go_enter Try.func16, Try.ntmps16
      go_wp2_with fail
      go_loopw [21] (fun i wr => ∃ k : Nat, k ≤ xs.length ∧ i = .int .i64 k ∧ Below w.heap.size w wr ∧ firstE n xs = firstE n (xs.drop k)) (fun i _ => xs.length - (intOf i).toNat)
      case atStart => exact ⟨0, Nat.zero_le _, rfl, Below.refl _ _, rfl⟩
      case round =>
        obtain ⟨k, hk, rfl, hb, hf⟩ := hrel
        have HB := Lib.hid hb
        by_cases hlt : k < xs.length
        · obtain ⟨b, off, rfl, hbb, k0, k1, k2, k3, k4⟩ := Tsts.cells (Reads.below HT.out hb) hlt
          have HD := Lib.hid (hf.trans (HF.out k hlt))
          have HO := Lib.hid (fun u => check1_any n xs[k] u)
          have hk0 : (0 : Int) ≤ (k : Int) := by omega
          have hk1 : (k : Int) < (xs.length : Int) := by omega
          have hk2 : ((k : Int)).toNat = k := by omega
          have hcap := hlt
          clear hf hb
          generalize hx : xs[k] = x at k0 k1 k2 k3 k4 HD HO
          generalize hR : oneS n x = e1 at HD HO
          clear hx hR
          by_cases he : e1 = 0
          · subst he
            have H2 := Lib.hid (show firstE n xs = firstE n (xs.drop (k + 1)) by rw [HD.out, if_neg (by omega)])
            go_wp2_with fail
            refine (HO.out _).mono ?_
            rintro e w1 ⟨rfl, hb1⟩
            have HB1 := Lib.hid ((HB.out.alloc HB.out.size _).trans (hb1.mono (by have := HB.out.size; simp; omega)))
            clear hb1
            go_wp2_with fail
            go_roundw
            case rel => exact ⟨k + 1, by omega, by go_num, HB1.out, H2.out⟩
            case measure => simp [intOf]; omega
          · have H2 := Lib.hid (show firstE n xs = e1 by rw [HD.out, if_pos he])
            have t3 : ((e1 : Int) != 0) = true := by simp; omega
            clear he
            go_wp2_with fail
            refine (HO.out _).mono ?_
            rintro e w1 ⟨rfl, hb1⟩
            have HB1 := Lib.hid ((HB.out.alloc HB.out.size _).trans (hb1.mono (by have := HB.out.size; simp; omega)))
            clear hb1
            go_wp2_with fail
            go_ret
            exact ⟨ret_int (by rw [H.out, H2.out]), HB1.out⟩
        · have H2 := Lib.hid (show firstE n xs = 0 by rw [hf, show k = xs.length by omega]; exact firstE_all n xs)
          clear hf
          go_wp2_with fail
          go_ret
          exact ⟨ret_int (by rw [H.out, H2.out]; rfl), HB.out⟩

end Go.Proofs.Ytcmibhechhcpiaa
