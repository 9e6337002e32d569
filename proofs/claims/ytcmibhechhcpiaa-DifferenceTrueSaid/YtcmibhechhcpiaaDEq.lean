/-
  slices.Equal at ints; SameUses and SameTests of the reference.
-/
import Derived.Test.YtcmibhechhcpiaaDClone
import Derived.Test.YtcmibhechhcpiaaDCheck
namespace Go.Proofs.Ytcmibhechhcpiaa
open Go.RowKit

instance : DecidableEq Tst := fun a b => decidable_of_iff (a.k = b.k ∧ a.lv = b.lv ∧ a.la = b.la ∧ a.rv = b.rv ∧ a.ra = b.ra) (by cases a; cases b; simp)

set_option maxHeartbeats 1000000 in
theorem equal_any (xs ys : List Int) (A A' : Option Addr) (B B' c c' : Nat) (w : World) (hx : xs.length ≤ maxLen) (hA : Ints w B A xs) (hB : Ints w B' A' ys) :
    Calls Try.prog 18 #[.slice A xs.length c, .slice A' ys.length c'] w fun e w' => e = .returned (.bool (decide (xs = ys))) ∧ Below w.heap.size w w' := by
  unfold maxLen at hx
  by_cases hl : xs.length = ys.length
  · have t : ((xs.length : Int) != (ys.length : Int)) = false := by simp; omega
    have HA := Lib.hid hA
    have HB := Lib.hid hB
    have HLN := Lib.hid hl
    have hyl : ys.length ≤ xs.length := by omega
    have hxl : xs.length ≤ ys.length := by omega
    clear hA hB hl
    go_enter Try.func18, Try.ntmps18
    go_wp2
    go_loopw [13] (fun i wr => ∃ k q : Nat, k ≤ xs.length ∧ i = .int .i64 k ∧ wr = w.drewN q ∧ ∀ j, j < k → xs.getD j 0 = ys.getD j 0) (fun i _ => xs.length - (intOf i).toNat)
    case atStart => exact ⟨0, 0, Nat.zero_le _, rfl, rfl, fun j hj => by omega⟩
    case round =>
      obtain ⟨k, q, hk, rfl, rfl, hs⟩ := hrel
      have HS := Lib.hid hs
      clear hs
      by_cases hlt : k < xs.length
      · have hlt' : k < ys.length := by omega
        obtain ⟨b, off, rfl, hb, hc⟩ := Ints.cells HA.out hlt
        obtain ⟨b', off', rfl, hb', hd⟩ := Ints.cells HB.out hlt'
        have ck := hc k hlt
        have dk := hd k hlt'
        clear hc hd
        have hk0 : (0 : Int) ≤ (k : Int) := by omega
        have hk1 : (k : Int) < (xs.length : Int) := by omega
        have hk1' : (k : Int) < (ys.length : Int) := by omega
        have hk2 : ((k : Int)).toNat = k := by omega
        by_cases he : xs.getD k 0 = ys.getD k 0
        · have HE := Lib.hid he
          rw [he] at ck
          generalize ys.getD k 0 = y at ck dk
          clear he
          have t2 : (y != y) = false := by simp
          go_wp2_with fail
          go_quiet (fail)
          go_wp2_with fail
          go_roundw
          case rel => exact ⟨k + 1, _, by omega, by go_num, rfl, fun j hj => by
            by_cases e : j = k
            · subst e; exact HE.out
            · exact HS.out j (by omega)⟩
          case measure => simp [intOf]; omega
        · have H := Lib.hid (show decide (xs = ys) = false from decide_eq_false (fun h => he (by rw [h])))
          generalize xs.getD k 0 = x at ck he
          generalize ys.getD k 0 = y at dk he
          have t2 : (x != y) = true := by simp [bne, he]
          clear he
          go_wp2_with fail
          go_quiet (fail)
          go_wp2_with fail
          go_ret
          exact ⟨ret_bool (by rw [H.out]), below_draws (below_draws (Below.refl _ _) q) _⟩
      · have H := Lib.hid (show decide (xs = ys) = true from decide_eq_true (by
          apply List.ext_getElem HLN.out
          intro j h1 h2
          have := HS.out j (by omega)
          simpa [List.getD, h1, h2] using this))
        go_wp2
        go_ret
        exact ⟨ret_bool (by rw [H.out]), below_draws (Below.refl _ _) q⟩
  · have t : ((xs.length : Int) != (ys.length : Int)) = true := by simp; omega
    have H := Lib.hid (show decide (xs = ys) = false from decide_eq_false (fun h => hl (by rw [h])))
    clear hl hA hB
    go_enter Try.func18, Try.ntmps18
    go_wp2
    go_ret
    exact ⟨ret_bool (by rw [H.out]), Below.refl _ _⟩

set_option maxHeartbeats 2000000 in
theorem sameUses_any (xs ys : List (Int × Int)) (A A' : Option Addr) (B B' c c' : Nat) (w : World) (hx : xs.length ≤ maxLen) (hA : Uses w B A xs) (hB : Uses w B' A' ys) :
    Calls Try.prog 24 #[.slice A xs.length c, .slice A' ys.length c'] w fun e w' => e = .returned (.bool (decide (xs = ys))) ∧ Below w.heap.size w w' := by
  unfold maxLen at hx
  by_cases hl : xs.length = ys.length
  · have t : ((xs.length : Int) != (ys.length : Int)) = false := by simp; omega
    have HA := Lib.hid hA
    have HB := Lib.hid hB
    have HLN := Lib.hid hl
    have hyl : ys.length ≤ xs.length := by omega
    have hxl : xs.length ≤ ys.length := by omega
    clear hA hB hl
    go_enter Try.func24, Try.ntmps24
    go_wp2_with fail
    go_loopw [5] (fun i wr => ∃ k q : Nat, k ≤ xs.length ∧ i = .int .i64 k ∧ wr = w.drewN q ∧ ∀ j (h1 : j < xs.length) (h2 : j < ys.length), j < k → xs[j] = ys[j]) (fun i _ => xs.length - (intOf i).toNat)
    case atStart => exact ⟨0, 0, Nat.zero_le _, rfl, rfl, fun j _ _ hj => by omega⟩
    case round =>
      obtain ⟨k, q, hk, rfl, rfl, hs⟩ := hrel
      have HS := Lib.hid hs
      clear hs
      by_cases hlt : k < xs.length
      · have hlt' : k < ys.length := by omega
        obtain ⟨b, off, rfl, hb, c0, c1⟩ := Uses.cells HA.out hlt
        obtain ⟨b', off', rfl, hb', d0, d1⟩ := Uses.cells HB.out hlt'
        have hk0 : (0 : Int) ≤ (k : Int) := by omega
        have hk1 : (k : Int) < (xs.length : Int) := by omega
        have hk1' : (k : Int) < (ys.length : Int) := by omega
        have hk2 : ((k : Int)).toNat = k := by omega
        have HNE : Hid (¬ xs[k] = ys[k] → decide (xs = ys) = false) := Lib.hid fun h => decide_eq_false (fun h2 => h (by simp only [h2]))
        have HEQ : Hid (xs[k] = ys[k] → ∀ j (h1 : j < xs.length) (h2 : j < ys.length), j < k + 1 → xs[j] = ys[j]) := Lib.hid fun h j h1 h2 h3 => by
          by_cases e : j = k
          · subst e; exact h
          · exact HS.out j h1 h2 (by omega)
        generalize xs[k] = x at c0 c1 HNE HEQ
        generalize ys[k] = y at d0 d1 HNE HEQ
        obtain ⟨x1, x2⟩ := x
        obtain ⟨y1, y2⟩ := y
        dsimp only at c0 c1 d0 d1
        by_cases h1 : x1 = y1
        · by_cases h2 : x2 = y2
          · subst h1 h2
            have HX := Lib.hid (HEQ.out rfl)
            clear HEQ HNE
            go_wp2_with fail
            go_quiet (fail)
            go_wp2_with fail
            go_roundw
            case rel => exact ⟨k + 1, _, by omega, by go_num, rfl, HX.out⟩
            case measure => simp [intOf]; omega
          · have HX := Lib.hid (HNE.out (by simp [h1, h2]))
            clear HEQ HNE
            go_wp2_with fail
            go_quiet (fail)
            go_wp2_with fail
            go_ret
            exact ⟨ret_bool (by rw [HX.out]), below_draws (below_draws (Below.refl _ _) q) _⟩
        · have HX := Lib.hid (HNE.out (by simp [h1]))
          clear HEQ HNE
          go_wp2_with fail
          go_quiet (fail)
          go_wp2_with fail
          go_ret
          exact ⟨ret_bool (by rw [HX.out]), below_draws (below_draws (Below.refl _ _) q) _⟩
      · have H := Lib.hid (show decide (xs = ys) = true from decide_eq_true (List.ext_getElem HLN.out fun j h1 h2 => HS.out j h1 h2 (by omega)))
        clear HS
        go_wp2_with fail
        go_ret
        exact ⟨ret_bool (by rw [H.out]), below_draws (Below.refl _ _) q⟩
  · have t : ((xs.length : Int) != (ys.length : Int)) = true := by simp; omega
    have H := Lib.hid (show decide (xs = ys) = false from decide_eq_false (fun h => hl (by rw [h])))
    clear hl hA hB
    go_enter Try.func24, Try.ntmps24
    go_wp2_with fail
    go_ret
    exact ⟨ret_bool (by rw [H.out]), Below.refl _ _⟩

set_option maxHeartbeats 2000000 in
theorem sameTests_any (xs ys : List Tst) (A A' : Option Addr) (B B' c c' : Nat) (w : World) (hx : xs.length ≤ maxLen) (hA : Tsts w B A xs) (hB : Tsts w B' A' ys) :
    Calls Try.prog 36 #[.slice A xs.length c, .slice A' ys.length c'] w fun e w' => e = .returned (.bool (decide (xs = ys))) ∧ Below w.heap.size w w' := by
  unfold maxLen at hx
  by_cases hl : xs.length = ys.length
  · have t : ((xs.length : Int) != (ys.length : Int)) = false := by simp; omega
    have HA := Lib.hid hA
    have HB := Lib.hid hB
    have HLN := Lib.hid hl
    have hyl : ys.length ≤ xs.length := by omega
    have hxl : xs.length ≤ ys.length := by omega
    clear hA hB hl
    go_enter Try.func36, Try.ntmps36
    go_wp2_with fail
    go_loopw [5] (fun i wr => ∃ k q : Nat, k ≤ xs.length ∧ i = .int .i64 k ∧ wr = w.drewN q ∧ ∀ j (h1 : j < xs.length) (h2 : j < ys.length), j < k → xs[j] = ys[j]) (fun i _ => xs.length - (intOf i).toNat)
    case atStart => exact ⟨0, 0, Nat.zero_le _, rfl, rfl, fun j _ _ hj => by omega⟩
    case round =>
      obtain ⟨k, q, hk, rfl, rfl, hs⟩ := hrel
      have HS := Lib.hid hs
      clear hs
      by_cases hlt : k < xs.length
      · have hlt' : k < ys.length := by omega
        obtain ⟨b, off, rfl, hb, c0, c1, c2, c3, c4⟩ := Tsts.cells HA.out hlt
        obtain ⟨b', off', rfl, hb', d0, d1, d2, d3, d4⟩ := Tsts.cells HB.out hlt'
        have hk0 : (0 : Int) ≤ (k : Int) := by omega
        have hk1 : (k : Int) < (xs.length : Int) := by omega
        have hk1' : (k : Int) < (ys.length : Int) := by omega
        have hk2 : ((k : Int)).toNat = k := by omega
        have HNE : Hid (¬ xs[k] = ys[k] → decide (xs = ys) = false) := Lib.hid fun h => decide_eq_false (fun h2 => h (by simp only [h2]))
        have HEQ : Hid (xs[k] = ys[k] → ∀ j (h1 : j < xs.length) (h2 : j < ys.length), j < k + 1 → xs[j] = ys[j]) := Lib.hid fun h j h1 h2 h3 => by
          by_cases e : j = k
          · subst e; exact h
          · exact HS.out j h1 h2 (by omega)
        generalize xs[k] = x at c0 c1 c2 c3 c4 HNE HEQ
        generalize ys[k] = y at d0 d1 d2 d3 d4 HNE HEQ
        obtain ⟨x1, x2, x3, x4, x5⟩ := x
        obtain ⟨y1, y2, y3, y4, y5⟩ := y
        dsimp only at c0 c1 c2 c3 c4 d0 d1 d2 d3 d4
        have hc : (x1 = y1 ∧ x2 = y2 ∧ x3 = y3 ∧ x4 = y4 ∧ x5 = y5) ∨ (¬ x1 = y1 ∨ (x1 = y1 ∧ ¬ x2 = y2) ∨ (x1 = y1 ∧ x2 = y2 ∧ ¬ x3 = y3) ∨ (x1 = y1 ∧ x2 = y2 ∧ x3 = y3 ∧ ¬ x4 = y4) ∨ (x1 = y1 ∧ x2 = y2 ∧ x3 = y3 ∧ x4 = y4 ∧ ¬ x5 = y5)) := by omega
        rcases hc with ⟨rfl, rfl, rfl, rfl, rfl⟩ | hc
        · have HX := Lib.hid (HEQ.out rfl)
          clear HEQ HNE
          go_wp2_with fail
          go_quiet (fail)
          go_wp2_with fail
          go_roundw
          case rel => exact ⟨k + 1, _, by omega, by go_num, rfl, HX.out⟩
          case measure => simp [intOf]; omega
        · have HX := Lib.hid (HNE.out (by simp only [Tst.mk.injEq]; omega))
          clear HEQ HNE
          rcases hc with h1 | ⟨h1, h2⟩ | ⟨h1, h2, h3⟩ | ⟨h1, h2, h3, h4⟩ | ⟨h1, h2, h3, h4, h5⟩
          all_goals
            go_wp2_with fail
            go_quiet (fail)
            go_wp2_with fail
            go_ret
            exact ⟨ret_bool (by rw [HX.out]), below_draws (below_draws (Below.refl _ _) q) _⟩
      · have H := Lib.hid (show decide (xs = ys) = true from decide_eq_true (List.ext_getElem HLN.out fun j h1 h2 => HS.out j h1 h2 (by omega)))
        clear HS
        go_wp2_with fail
        go_ret
        exact ⟨ret_bool (by rw [H.out]), below_draws (Below.refl _ _) q⟩
  · have t : ((xs.length : Int) != (ys.length : Int)) = true := by simp; omega
    have H := Lib.hid (show decide (xs = ys) = false from decide_eq_false (fun h => hl (by rw [h])))
    clear hl hA hB
    go_enter Try.func36, Try.ntmps36
    go_wp2_with fail
    go_ret
    exact ⟨ret_bool (by rw [H.out]), Below.refl _ _⟩


end Go.Proofs.Ytcmibhechhcpiaa
