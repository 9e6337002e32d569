/-
  Contracts of check, Valid, checkBoth, checkSize, isBelow of the program, and of Valid, one, both of the reference.
-/
import Derived.Test.YtdflgcfjfgojkaaMem
namespace Go.Proofs.Ytdflgcfjfgojkaa
open Go.RowKit

def okI (xs : List Int) (i : Nat) : Bool := decide (0 ≤ xs.getD i 0) && decide (xs.getD i 0 ≤ i) && xs.getD (xs.getD i 0).toNat 0 == xs.getD i 0
def validI (xs : List Int) : Bool := decide (∀ i, i < xs.length → okI xs i = true)
def checkS (xs : List Int) : Nat := if 80 < xs.length then 3 else if validI xs then 0 else 1

theorem validI_iff {xs : List Int} : validI xs = true ↔ ∀ i, i < xs.length → okI xs i = true := by simp [validI]
theorem valid_bad {xs : List Int} {i : Nat} (h : i < xs.length) (hb : okI xs i = false) : validI xs = false := by
  rw [Bool.eq_false_iff]
  intro hv
  rw [validI_iff.1 hv i h] at hb
  cases hb
theorem okI_low {xs : List Int} {i : Nat} (h : xs.getD i 0 < 0) : okI xs i = false := by unfold okI; rw [decide_eq_false (by omega)]; rfl
theorem okI_high {xs : List Int} {i : Nat} (h : (i : Int) < xs.getD i 0) : okI xs i = false := by unfold okI; rw [decide_eq_false (p := xs.getD i 0 ≤ i) (by omega)]; simp
theorem okI_mid {xs : List Int} {i n : Nat} (h : xs.getD i 0 = n) (hn : n ≤ i) : okI xs i = (xs.getD n 0 == (n : Int)) := by
  unfold okI
  rw [h, decide_eq_true (by omega), decide_eq_true (by omega)]
  simp
theorem okI_toI {ys : List Nat} (h : V ys) {i : Nat} (hi : i < ys.length) : okI (toI ys) i = true := by
  have h1 := h.le hi
  have h2 := h.idem hi
  rw [okI_mid (n := at_ ys i) (toI_at ys i) h1, toI_at, h2]
  simp
theorem valid_toI {ys : List Nat} (h : V ys) : validI (toI ys) = true := validI_iff.2 fun i hi => okI_toI h (by rw [toI_length] at hi; exact hi)

theorem valid_nat {xs : List Int} (h : validI xs = true) : ∃ ys : List Nat, xs = toI ys ∧ V ys := by
  have hv := validI_iff.1 h
  have hb : ∀ i, i < xs.length → ∃ n : Nat, xs.getD i 0 = n ∧ n ≤ i ∧ xs.getD n 0 = n := by
    intro i hi
    have := hv i hi
    simp only [okI, Bool.and_eq_true, decide_eq_true_eq, beq_iff_eq] at this
    obtain ⟨⟨h1, h2⟩, h3⟩ := this
    refine ⟨(xs.getD i 0).toNat, by omega, by omega, ?_⟩
    rw [h3]
    omega
  refine ⟨xs.map Int.toNat, ?_, ?_⟩
  · apply List.ext_getElem (by simp [toI])
    intro i h1 h2
    obtain ⟨n, hn, _⟩ := hb i h1
    have e : xs[i] = xs.getD i 0 := by simp [List.getD, h1]
    simp only [toI, List.map_map, List.getElem_map, Function.comp_apply, e, hn]
    rfl
  · intro i hi
    simp only [List.length_map] at hi
    have e : ∀ j, j < xs.length → at_ (xs.map Int.toNat) j = (xs.getD j 0).toNat := by
      intro j hj
      simp [at_, List.getD, hj]
    obtain ⟨n, hn, hle, hid⟩ := hb i hi
    rw [e i hi, hn, Int.toNat_natCast, e n (by omega), hid, Int.toNat_natCast]
    exact ⟨hle, rfl⟩

theorem checkS_long {xs : List Int} (h : 80 < xs.length) : checkS xs = 3 := by unfold checkS; rw [if_pos h]
theorem checkS_ok {xs : List Int} (h : xs.length ≤ 80) (hv : validI xs = true) : checkS xs = 0 := by unfold checkS; rw [if_neg (by omega), if_pos hv]
theorem checkS_bad {xs : List Int} (h : xs.length ≤ 80) (hv : validI xs = false) : checkS xs = 1 := by unfold checkS; rw [if_neg (by omega), hv]; rfl
theorem checkS_cases (xs : List Int) : checkS xs = 3 ∧ 80 < xs.length ∨ checkS xs = 1 ∨ (checkS xs = 0 ∧ xs.length ≤ 80 ∧ validI xs = true) := by
  by_cases h : 80 < xs.length
  · exact .inl ⟨checkS_long h, h⟩
  · cases hv : validI xs with
    | false => exact .inr (.inl (checkS_bad (by omega) hv))
    | true => exact .inr (.inr ⟨checkS_ok (by omega) hv, by omega, rfl⟩)

theorem isBelow_yes (i n : Int) (h0 : 0 ≤ i) (h1 : i < n) (w : World) : Calls Try.prog 44 #[.int .i64 i, .int .i64 n] w fun e w' => e = .returned (.bool true) ∧ w = w' := by
  go_enter Try.func44, Try.ntmps44
  go_wp2
  go_ret
  exact ⟨rfl, rfl⟩
theorem isBelow_low (i n : Int) (h0 : i < 0) (w : World) : Calls Try.prog 44 #[.int .i64 i, .int .i64 n] w fun e w' => e = .returned (.bool false) ∧ w = w' := by
  go_enter Try.func44, Try.ntmps44
  go_wp2
  go_ret
  exact ⟨rfl, rfl⟩
theorem isBelow_high (i n : Int) (h0 : 0 ≤ i) (h1 : n ≤ i) (w : World) : Calls Try.prog 44 #[.int .i64 i, .int .i64 n] w fun e w' => e = .returned (.bool false) ∧ w = w' := by
  go_enter Try.func44, Try.ntmps44
  go_wp2
  go_ret
  exact ⟨ret_bool (decide_eq_false (by omega)), rfl⟩

set_option maxHeartbeats 1000000 in
theorem check_any (xs : List Int) (A : Option Addr) (c B : Nat) (w : World) (hl : xs.length ≤ maxLen) (hT : Ints w B A xs) :
    Calls Try.prog 33 #[.slice A xs.length c] w fun e w' => e = .returned (.int .i64 (checkS xs)) ∧ w = w' := by
  unfold maxLen at hl
  by_cases h80 : 80 < xs.length
  · have H := Lib.hid (checkS_long h80)
    clear hT
    go_enter Try.func33, Try.ntmps33
    go_wp2
    go_ret
    exact ⟨ret_int (by rw [H.out]; rfl), rfl⟩
  · have HT := Lib.hid hT
    have HL := Lib.hid h80
    have hl8 : xs.length ≤ 80 := by omega
    clear hT hl h80
    go_enter Try.func33, Try.ntmps33
    go_wp2_with fail
    go_loop [10] (fun i => ∃ k : Nat, k ≤ xs.length ∧ i = .int .i64 k ∧ ∀ j, j < k → okI xs j = true) (fun i => xs.length - (intOf i).toNat)
    case atStart => exact ⟨0, Nat.zero_le _, rfl, fun j hj => by omega⟩
    case round =>
      obtain ⟨k, hk, rfl, hok⟩ := hrel
      have HK := Lib.hid hok
      clear hok
      by_cases hlt : k < xs.length
      · obtain ⟨b, off, rfl, hb, hc⟩ := HT.out.at hlt
        have ck := hc k hlt
        have HC := Lib.hid hc
        clear hc
        by_cases h1 : xs.getD k 0 < 0
        · have H := Lib.hid (checkS_bad hl8 (valid_bad hlt (okI_low h1)))
          generalize xs.getD k 0 = x at ck h1
          go_wp2_with fail
          refine (isBelow_low _ _ h1 _).mono ?_
          rintro e w' ⟨rfl, rfl⟩
          go_wp2_with fail
          go_ret
          exact ⟨ret_int (by rw [H.out]; rfl), rfl⟩
        · by_cases h2 : (k : Int) < xs.getD k 0
          · have H := Lib.hid (checkS_bad hl8 (valid_bad hlt (okI_high h2)))
            generalize xs.getD k 0 = x at ck h1 h2
            go_wp2_with fail
            refine (isBelow_high _ _ (by omega) (by omega) _).mono ?_
            rintro e w' ⟨rfl, rfl⟩
            go_wp2_with fail
            go_ret
            exact ⟨ret_int (by rw [H.out]; rfl), rfl⟩
          · obtain ⟨n, hn⟩ : ∃ n : Nat, xs.getD k 0 = n := ⟨(xs.getD k 0).toNat, by omega⟩
            have hnk : n ≤ k := by omega
            rw [hn] at ck
            have HO := Lib.hid (okI_mid hn hnk)
            have cn := HC.out n (by omega)
            clear hn h1 h2
            generalize xs.getD n 0 = y at HO cn
            cases hy : (y == (n : Int)) with
            | false =>
              have H := Lib.hid (checkS_bad hl8 (valid_bad hlt (HO.out.trans hy)))
              have t1 : (y != (n : Int)) = true := by simp [bne, hy]
              clear hy
              go_wp2_with fail
              refine (isBelow_yes _ _ (by omega) (by omega) _).mono ?_
              rintro e w' ⟨rfl, rfl⟩
              go_wp2_with fail
              go_ret
              exact ⟨ret_int (by rw [H.out]; rfl), rfl⟩
            | true =>
              have H := Lib.hid (HO.out.trans hy)
              have t1 : (y != (n : Int)) = false := by simp [bne, hy]
              clear hy
              go_wp2_with fail
              refine (isBelow_yes _ _ (by omega) (by omega) _).mono ?_
              rintro e w' ⟨rfl, rfl⟩
              go_wp2_with fail
              go_round
              case rel => exact ⟨k + 1, by omega, by go_num, fun j hj => by
                by_cases e : j = k
                · subst e; exact H.out
                · exact HK.out j (by omega)⟩
              case measure => simp [intOf]; omega
      · have H := Lib.hid (checkS_ok hl8 (validI_iff.2 fun j hj => HK.out j (by omega)))
        go_wp2
        go_ret
        exact ⟨ret_int (by rw [H.out]; rfl), rfl⟩

theorem valid_any (xs : List Int) (A : Option Addr) (c B : Nat) (w : World) (hl : xs.length ≤ maxLen) (hT : Ints w B A xs) :
    Calls Try.prog 16 #[.slice A xs.length c] w fun e w' => e = .returned (.bool (checkS xs == 0)) ∧ w = w' := by
  have HC := Lib.hid (check_any xs A c B w hl hT)
  rcases checkS_cases xs with ⟨h, _⟩ | h | ⟨h, _⟩ <;> rw [h] at HC ⊢ <;> clear h hT
  all_goals
    go_enter Try.func16, Try.ntmps16
    go_wp2_with fail
    refine HC.out.mono ?_
    rintro e w' ⟨rfl, rfl⟩
    go_wp2_with fail
    go_ret
    exact ⟨rfl, rfl⟩

/-- the error of two lists that have to be partitions of one length -/
def bothS (a b : List Int) : Nat :=
  if 80 < a.length ∨ 80 < b.length then 3 else if validI a = false ∨ validI b = false then 1 else if a.length ≠ b.length then 20 else 0

theorem bothS_cases (a b : List Int) : (bothS a b = 3 ∧ (80 < a.length ∨ a.length ≤ 80 ∧ 80 < b.length)) ∨
    (bothS a b = 1 ∧ a.length ≤ 80 ∧ b.length ≤ 80 ∧ (validI a = false ∨ validI a = true ∧ validI b = false)) ∨
    (bothS a b = 20 ∧ a.length ≤ 80 ∧ b.length ≤ 80 ∧ validI a = true ∧ validI b = true ∧ a.length ≠ b.length) ∨
    (bothS a b = 0 ∧ a.length ≤ 80 ∧ b.length ≤ 80 ∧ validI a = true ∧ validI b = true ∧ a.length = b.length) := by
  unfold bothS
  by_cases h1 : 80 < a.length
  · simp [h1]
  · by_cases h2 : 80 < b.length
    · simp [h1, h2]; omega
    · cases ha : validI a <;> cases hb : validI b <;> by_cases hl : a.length = b.length <;> simp [h1, h2, hl] <;> omega

theorem checkBoth_any (xs ys : List Int) (A A' : Option Addr) (c c' B B' : Nat) (w : World) (hx : xs.length ≤ maxLen) (hy : ys.length ≤ maxLen) (hA : Ints w B A xs) (hB : Ints w B' A' ys) :
    Calls Try.prog 35 #[.slice A xs.length c, .slice A' ys.length c'] w fun e w' => e = .returned (.int .i64 (bothS xs ys)) ∧ w = w' := by
  have H1 := Lib.hid (valid_any xs A c B w hx hA)
  have H2 := Lib.hid (valid_any ys A' c' B' w hy hB)
  unfold maxLen at hx hy
  clear hA hB
  rcases bothS_cases xs ys with ⟨h, hl⟩ | ⟨h, l1, l2, hv⟩ | ⟨h, l1, l2, v1, v2, hl⟩ | ⟨h, l1, l2, v1, v2, hl⟩ <;> rw [h] <;> clear h
  · rcases hl with hl | ⟨l1, l2⟩
    all_goals
      go_enter Try.func35, Try.ntmps35
      go_wp2_with fail
      go_ret
      exact ⟨rfl, rfl⟩
  · rcases hv with v1 | ⟨v1, v2⟩
    · rw [checkS_bad l1 v1] at H1
      clear v1 H2
      go_enter Try.func35, Try.ntmps35
      go_wp2_with fail
      refine H1.out.mono ?_
      rintro e w' ⟨rfl, rfl⟩
      go_wp2_with fail
      go_ret
      exact ⟨rfl, rfl⟩
    · rw [checkS_ok l1 v1] at H1
      rw [checkS_bad l2 v2] at H2
      clear v1 v2
      go_enter Try.func35, Try.ntmps35
      go_wp2_with fail
      refine H1.out.mono ?_
      rintro e w' ⟨rfl, rfl⟩
      go_wp2_with fail
      refine H2.out.mono ?_
      rintro e w' ⟨rfl, rfl⟩
      go_wp2_with fail
      go_ret
      exact ⟨rfl, rfl⟩
  · rw [checkS_ok l1 v1] at H1
    rw [checkS_ok l2 v2] at H2
    clear v1 v2
    have t : ((xs.length : Int) != (ys.length : Int)) = true := by simp; omega
    clear hl
    go_enter Try.func35, Try.ntmps35
    go_wp2_with fail
    refine H1.out.mono ?_
    rintro e w' ⟨rfl, rfl⟩
    go_wp2_with fail
    refine H2.out.mono ?_
    rintro e w' ⟨rfl, rfl⟩
    go_wp2_with fail
    go_ret
    exact ⟨rfl, rfl⟩
  · rw [checkS_ok l1 v1] at H1
    rw [checkS_ok l2 v2] at H2
    clear v1 v2
    have t : ((xs.length : Int) != (ys.length : Int)) = false := by simp; omega
    clear hl
    go_enter Try.func35, Try.ntmps35
    go_wp2_with fail
    refine H1.out.mono ?_
    rintro e w' ⟨rfl, rfl⟩
    go_wp2_with fail
    refine H2.out.mono ?_
    rintro e w' ⟨rfl, rfl⟩
    go_wp2_with fail
    go_ret
    exact ⟨rfl, rfl⟩

def sizeS (n m : Int) : Nat := if m < n then 3 else if n < 0 then 6 else 0
theorem checkSize_any (n m : Int) (w : World) : Calls Try.prog 41 #[.int .i64 n, .int .i64 m] w fun e w' => e = .returned (.int .i64 (sizeS n m)) ∧ w = w' := by
  by_cases h1 : m < n
  · have H := Lib.hid (show sizeS n m = 3 by unfold sizeS; rw [if_pos h1])
    have hd : decide (m < n) = true := decide_eq_true h1
    go_enter Try.func41, Try.ntmps41
    go_wp2_with fail
    go_ret
    exact ⟨ret_int (by rw [H.out]; rfl), rfl⟩
  · have hd : decide (m < n) = false := decide_eq_false h1
    by_cases h2 : n < 0
    · have H := Lib.hid (show sizeS n m = 6 by unfold sizeS; rw [if_neg h1, if_pos h2])
      clear h1
      go_enter Try.func41, Try.ntmps41
      go_wp2_with fail
      go_ret
      exact ⟨ret_int (by rw [H.out]; rfl), rfl⟩
    · have H := Lib.hid (show sizeS n m = 0 by unfold sizeS; rw [if_neg h1, if_neg h2])
      clear h1
      go_enter Try.func41, Try.ntmps41
      go_wp2_with fail
      go_ret
      exact ⟨ret_int (by rw [H.out]; rfl), rfl⟩

end Go.Proofs.Ytdflgcfjfgojkaa
