/-
  Contracts of Valid, one, both of the reference.
-/
import Derived.Test.YtdflgcfjfgojkaaValid
namespace Go.Proofs.Ytdflgcfjfgojkaa
open Go.RowKit

set_option maxHeartbeats 2000000 in
theorem refValid_any (xs : List Int) (A : Option Addr) (c : Nat) (w : World) (hl : xs.length ≤ maxLen) (hT : Ints w w.heap.size A xs) :
    Calls Try.prog 17 #[.slice A xs.length c] w fun e w' => e = .returned (.bool (checkS xs == 0)) ∧ Below w.heap.size w w' := by
  unfold maxLen at hl
  by_cases h80 : 80 < xs.length
  · have H := Lib.hid (checkS_long h80)
    clear hT
    go_enter Try.func17, Try.ntmps17
    go_wp2
    go_ret
    exact ⟨ret_bool (by rw [H.out]; rfl), Below.refl _ _⟩
  · have HT := Lib.hid hT
    have HL := Lib.hid h80
    have hl8 : xs.length ≤ 80 := by omega
    clear hT hl h80
    go_enter Try.func17, Try.ntmps17
    go_wp2_with fail
    go_loopw [3] (fun i wr => ∃ k q : Nat, k ≤ xs.length ∧ i = .int .i64 k ∧ wr = w.drewN q ∧ ∀ j, j < k → okI xs j = true) (fun i _ => xs.length - (intOf i).toNat)
    case atStart => exact ⟨0, 0, Nat.zero_le _, rfl, rfl, fun j hj => by omega⟩
    case round =>
      obtain ⟨k, q, hk, rfl, rfl, hok⟩ := hrel
      have HK := Lib.hid hok
      clear hok
      by_cases hlt : k < xs.length
      · obtain ⟨b, off, rfl, hb, hc⟩ := HT.out.at hlt
        have ck := hc k hlt
        have HC := Lib.hid hc
        have hk0 : (0 : Int) ≤ (k : Int) := by omega
        have hk1 : (k : Int) < (xs.length : Int) := by omega
        have hk2 : ((k : Int)).toNat = k := by omega
        clear hc
        by_cases h1 : xs.getD k 0 < 0
        · have H := Lib.hid (checkS_bad hl8 (valid_bad hlt (okI_low h1)))
          generalize xs.getD k 0 = x at ck h1
          have t1 : decide (x < 0) = true := decide_eq_true h1
          go_wp2_with fail
          go_quiet (fail)
          go_wp2_with fail
          go_ret
          exact ⟨ret_bool (by rw [H.out]; rfl), below_draws (below_draws (Below.refl _ _) q) _⟩
        · by_cases h2 : (k : Int) < xs.getD k 0
          · have H := Lib.hid (checkS_bad hl8 (valid_bad hlt (okI_high h2)))
            generalize xs.getD k 0 = x at ck h1 h2
            have t1 : decide (x < 0) = false := decide_eq_false h1
            have t2 : decide ((k : Int) < x) = true := decide_eq_true h2
            go_wp2_with fail
            go_quiet (fail)
            go_wp2_with fail
            go_ret
            exact ⟨ret_bool (by rw [H.out]; rfl), below_draws (below_draws (Below.refl _ _) q) _⟩
          · obtain ⟨n, hn⟩ : ∃ n : Nat, xs.getD k 0 = n := ⟨(xs.getD k 0).toNat, by omega⟩
            have hnk : n ≤ k := by omega
            rw [hn] at ck
            have HO := Lib.hid (okI_mid hn hnk)
            have cn := HC.out n (by omega)
            clear hn h1 h2
            generalize xs.getD n 0 = y at HO cn
            have hn0 : (0 : Int) ≤ (n : Int) := by omega
            have hn1 : (n : Int) < (xs.length : Int) := by omega
            have hn2 : ((n : Int)).toNat = n := by omega
            have t2 : decide ((n : Int) < 0) = false := decide_eq_false (by omega)
            have t3 : decide ((k : Int) < (n : Int)) = false := decide_eq_false (by omega)
            have t4 : decide (k < n) = false := decide_eq_false (by omega)
            cases hy : (y == (n : Int)) with
            | false =>
              have H := Lib.hid (checkS_bad hl8 (valid_bad hlt (HO.out.trans hy)))
              have t1 : (y != (n : Int)) = true := by simp [bne, hy]
              clear hy
              go_wp2_with fail
              go_quiet (fail)
              go_wp2_with fail
              go_ret
              exact ⟨ret_bool (by rw [H.out]; rfl), below_draws (below_draws (Below.refl _ _) q) _⟩
            | true =>
              have H := Lib.hid (HO.out.trans hy)
              have t1 : (y != (n : Int)) = false := by simp [bne, hy]
              clear hy
              go_wp2_with fail
              go_quiet (fail)
              go_wp2_with fail
              go_roundw
              case rel => exact ⟨k + 1, _, by omega, by go_num, rfl, fun j hj => by
                by_cases e : j = k
                · subst e; exact H.out
                · exact HK.out j (by omega)⟩
              case measure => simp [intOf]; omega
      · have H := Lib.hid (checkS_ok hl8 (validI_iff.2 fun j hj => HK.out j (by omega)))
        go_wp2
        go_ret
        exact ⟨ret_bool (by rw [H.out]; rfl), below_draws (Below.refl _ _) q⟩

theorem one_any (xs : List Int) (A : Option Addr) (c : Nat) (w : World) (hl : xs.length ≤ maxLen) (hT : Ints w w.heap.size A xs) :
    Calls Try.prog 32 #[.slice A xs.length c] w fun e w' => e = .returned (.int .i64 (checkS xs)) ∧ Below w.heap.size w w' := by
  have HC := Lib.hid (refValid_any xs A c w hl hT)
  clear hT
  unfold maxLen at hl
  by_cases h80 : 80 < xs.length
  · have H := Lib.hid (checkS_long h80)
    go_enter Try.func32, Try.ntmps32
    go_wp2
    go_ret
    exact ⟨ret_int (by rw [H.out]; rfl), Below.refl _ _⟩
  · have hl8 : xs.length ≤ 80 := by omega
    clear h80
    cases hv : validI xs with
    | false =>
      have H := Lib.hid (checkS_bad hl8 hv)
      rw [H.out] at HC
      clear hv
      go_enter Try.func32, Try.ntmps32
      go_wp2_with fail
      refine HC.out.mono ?_
      rintro e w' ⟨rfl, hb⟩
      go_wp2_with fail
      go_ret
      exact ⟨ret_int (by rw [H.out]; rfl), hb⟩
    | true =>
      have H := Lib.hid (checkS_ok hl8 hv)
      rw [H.out] at HC
      clear hv
      go_enter Try.func32, Try.ntmps32
      go_wp2_with fail
      refine HC.out.mono ?_
      rintro e w' ⟨rfl, hb⟩
      go_wp2_with fail
      go_ret
      exact ⟨ret_int (by rw [H.out]; rfl), hb⟩

theorem both_any (xs ys : List Int) (A A' : Option Addr) (c c' : Nat) (w : World) (hx : xs.length ≤ maxLen) (hy : ys.length ≤ maxLen) (hA : Ints w w.heap.size A xs) (hB : Ints w w.heap.size A' ys) :
    Calls Try.prog 37 #[.slice A xs.length c, .slice A' ys.length c'] w fun e w' => e = .returned (.int .i64 (bothS xs ys)) ∧ Below w.heap.size w w' := by
  have H1 := Lib.hid (refValid_any xs A c w hx hA)
  have H2 := Lib.hid (fun w1 (hb : Below w.heap.size w w1) => refValid_any ys A' c' w1 hy (hB.up hb))
  unfold maxLen at hx hy
  clear hA hB
  rcases bothS_cases xs ys with ⟨h, hl⟩ | ⟨h, l1, l2, hv⟩ | ⟨h, l1, l2, v1, v2, hl⟩ | ⟨h, l1, l2, v1, v2, hl⟩ <;> rw [h] <;> clear h
  · rcases hl with hl | ⟨l1, l2⟩
    all_goals
      go_enter Try.func37, Try.ntmps37
      go_wp2_with fail
      go_ret
      exact ⟨rfl, Below.refl _ _⟩
  · rcases hv with v1 | ⟨v1, v2⟩
    · rw [checkS_bad l1 v1] at H1
      clear v1 H2
      go_enter Try.func37, Try.ntmps37
      go_wp2_with fail
      refine H1.out.mono ?_
      rintro e w' ⟨rfl, hb⟩
      go_wp2_with fail
      go_ret
      exact ⟨rfl, hb⟩
    · rw [checkS_ok l1 v1] at H1
      rw [checkS_bad l2 v2] at H2
      clear v1 v2
      go_enter Try.func37, Try.ntmps37
      go_wp2_with fail
      refine H1.out.mono ?_
      rintro e w1 ⟨rfl, hb⟩
      have HB := Lib.hid hb
      clear hb
      go_wp2_with fail
      refine (H2.out _ HB.out).mono ?_
      rintro e w2 ⟨rfl, hb2⟩
      go_wp2_with fail
      go_ret
      exact ⟨rfl, HB.out.trans (hb2.mono HB.out.size)⟩
  · rw [checkS_ok l1 v1] at H1
    rw [checkS_ok l2 v2] at H2
    clear v1 v2
    have t : ((xs.length : Int) != (ys.length : Int)) = true := by simp; omega
    clear hl
    go_enter Try.func37, Try.ntmps37
    go_wp2_with fail
    refine H1.out.mono ?_
    rintro e w1 ⟨rfl, hb⟩
    have HB := Lib.hid hb
    clear hb
    go_wp2_with fail
    refine (H2.out _ HB.out).mono ?_
    rintro e w2 ⟨rfl, hb2⟩
    go_wp2_with fail
    go_ret
    exact ⟨rfl, HB.out.trans (hb2.mono HB.out.size)⟩
  · rw [checkS_ok l1 v1] at H1
    rw [checkS_ok l2 v2] at H2
    clear v1 v2
    have t : ((xs.length : Int) != (ys.length : Int)) = false := by simp; omega
    clear hl
    go_enter Try.func37, Try.ntmps37
    go_wp2_with fail
    refine H1.out.mono ?_
    rintro e w1 ⟨rfl, hb⟩
    have HB := Lib.hid hb
    clear hb
    go_wp2_with fail
    refine (H2.out _ HB.out).mono ?_
    rintro e w2 ⟨rfl, hb2⟩
    go_wp2_with fail
    go_ret
    exact ⟨rfl, HB.out.trans (hb2.mono HB.out.size)⟩

end Go.Proofs.Ytdflgcfjfgojkaa
