/-
  Contracts of isText, skip, unquote, quote, separator, IsName, Number of the program.
-/
import Derived.Test.YtgaiknigdgoaeaaScan2
namespace Go.Proofs.Ytgaiknigdgoaeaa
open Go.RowKit

set_option maxHeartbeats 1000000 in
theorem isText_any (k : Int) (s : ByteArray) (hs : s.size ≤ maxLen) (w : World) :
    Calls Try.prog 34 #[.int .i64 k, .string s] w fun e w' => e = .returned (.bool (rightS k s.data.toList)) ∧ w = w' := by
  have hl : s.data.toList.length = s.size := by simp
  by_cases hk : k = 3
  · subst hk
    by_cases h6 : s.size ≤ 60
    · have H := Lib.hid (show rightS 3 s.data.toList = (((pre isStr s.data.toList : Nat) : Int) == (s.size : Int)) by
        unfold rightS
        rw [if_pos rfl, hl, Bool.eq_iff_iff]
        simp; omega)
      have HC := Lib.hid (fun w => prefix_str s hs w)
      clear hl hs
      generalize pre isStr s.data.toList = n at H HC
      go_enter Try.func34, Try.ntmps34
      go_wp2_with (refine (HC.out _).mono ?_; rintro e w' ⟨rfl, rfl⟩)
      go_ret
      exact ⟨ret_bool (by rw [H.out]), rfl⟩
    · have H := Lib.hid (show rightS 3 s.data.toList = false by
        unfold rightS
        rw [if_pos rfl, hl, Bool.eq_false_iff]
        simp; omega)
      have hs' : s.size ≤ 9223372036854775807 := by unfold maxLen at hs; exact hs
      have t0 : decide ((s.size : Int) ≤ 60) = false := by simp; omega
      clear hl hs
      go_enter Try.func34, Try.ntmps34
      go_wp2
      go_ret
      exact ⟨ret_bool (by rw [H.out]), rfl⟩
  · have t0 : (k == 3) = false := by simpa using hk
    have H := Lib.hid (show rightS k s.data.toList = (((scanS s.data.toList).1 : Int) == k && (scanS s.data.toList).2.1 == s.size && (scanS s.data.toList).2.2 == 0) by
        unfold rightS
        rw [if_neg hk, hl])
    have HC := Lib.hid (fun w => scan_any s hs w)
    clear hl hk
    have hs' : s.size ≤ 9223372036854775807 := by unfold maxLen at hs; exact hs
    clear hs
    generalize scanS s.data.toList = x at H HC
    obtain ⟨a, b, c⟩ := x
    simp only [trip] at HC H
    cases h1 : ((c : Int) == 0) with
    | false =>
      have H2 := Lib.hid (show rightS k s.data.toList = false by
        rw [H.out, Bool.eq_false_iff]
        simp at h1 ⊢
        intros; omega)
      go_enter Try.func34, Try.ntmps34
      go_wp2_with (refine (HC.out _).mono ?_; rintro e w' ⟨rfl, rfl⟩)
      go_ret
      exact ⟨ret_bool (by rw [H2.out]), rfl⟩
    | true =>
      cases h2 : ((a : Int) == k) with
      | false =>
        have H2 := Lib.hid (show rightS k s.data.toList = false by
          rw [H.out, h2]; rfl)
        go_enter Try.func34, Try.ntmps34
        go_wp2_with (refine (HC.out _).mono ?_; rintro e w' ⟨rfl, rfl⟩)
        go_ret
        exact ⟨ret_bool (by rw [H2.out]), rfl⟩
      | true =>
        have H2 := Lib.hid (show rightS k s.data.toList = ((b : Int) == (s.size : Int)) by
          rw [H.out, h2, Bool.eq_iff_iff]
          simp at h1 ⊢
          omega)
        go_enter Try.func34, Try.ntmps34
        go_wp2_with (refine (HC.out _).mono ?_; rintro e w' ⟨rfl, rfl⟩)
        go_ret
        exact ⟨ret_bool (by rw [H2.out]), rfl⟩

theorem skip_nil (b : Bool) (n : Nat) : skipS b [] n = ([], n) := by cases b <;> rfl
theorem skip_feed {b : Bool} {c : UInt8} {r : List UInt8} {n : Nat} (h : c.toNat = 10) : skipS b (c :: r) n = skipS false r (n + 1) := by simp [skipS, h]
theorem skip_sharp {b : Bool} {c : UInt8} {r : List UInt8} {n : Nat} (h2 : c.toNat = 35) : skipS b (c :: r) n = skipS true r n := by simp [skipS, h2]
theorem skip_com {c : UInt8} {r : List UInt8} {n : Nat} (h : c.toNat ≠ 10) (h2 : c.toNat ≠ 35) : skipS true (c :: r) n = skipS true r n := by simp [skipS, h, h2]
theorem skip_blank {c : UInt8} {r : List UInt8} {n : Nat} (h : c.toNat ≠ 10) (h2 : c.toNat ≠ 35) (h3 : isBlk c = true) : skipS false (c :: r) n = skipS false r n := by simp [skipS, h, h2, h3]
theorem skip_stop {c : UInt8} {r : List UInt8} {n : Nat} (h : c.toNat ≠ 10) (h2 : c.toNat ≠ 35) (h3 : isBlk c = false) : skipS false (c :: r) n = (c :: r, n) := by simp [skipS, h, h2, h3]

/-- where skip comes to, from a on in line n -/
def SkipTo (s : ByteArray) (a n : Nat) (e : Ending) : Prop :=
  ∃ a' n' : Nat, e = .returned (.tuple #[.int .i64 a', .int .i64 n']) ∧ a ≤ a' ∧ a' ≤ s.size ∧ n' + a ≤ n + a' ∧ skipS false (s.data.toList.drop a) n = (s.data.toList.drop a', n')

set_option maxHeartbeats 2000000 in
theorem skip_any (s : ByteArray) (a n : Nat) (ha : a ≤ s.size) (hs : s.size ≤ 1000000) (hn : n ≤ 1000000) (w : World) :
    Calls Try.prog 29 #[.string s, .int .i64 a, .int .i64 n] w fun e w' => SkipTo s a n e ∧ w = w' := by
  go_enter Try.func29, Try.ntmps29
  go_wp2
  go_loop [1, 2, 8] (fun i l c => ∃ (k m : Nat) (b : Bool), a ≤ k ∧ k ≤ s.size ∧ m + a ≤ n + k ∧ i = .int .i64 k ∧ l = .int .i64 m ∧ c = .bool b ∧ skipS false (s.data.toList.drop a) n = skipS b (s.data.toList.drop k) m) (fun i _ _ => s.size - (intOf i).toNat)
  case atStart => exact ⟨a, n, false, Nat.le_refl _, ha, Nat.le_refl _, rfl, rfl, rfl, rfl⟩
  case round =>
    obtain ⟨k, m, b, hak, hk, hm, rfl, rfl, rfl, hp⟩ := hrel
    have HP := Lib.hid hp
    clear hp
    by_cases hlt : k < s.size
    · have hd := drop_cons s k hlt
      by_cases h10 : s[k].toNat = 10
      · have H1 := Lib.hid (show skipS b (s.data.toList.drop k) m = skipS false (s.data.toList.drop (k + 1)) (m + 1) by rw [hd]; exact skip_feed h10)
        have t1 : ((s[k].toNat : Int) == 10) = true := by simp; omega
        clear hd h10
        go_wp2
        go_round
        case rel => exact ⟨k + 1, m + 1, false, by omega, by omega, by omega, by go_num, by go_num, rfl, by rw [HP.out, H1.out]⟩
        case measure => simp [intOf]; omega
      · have t1 : ((s[k].toNat : Int) == 10) = false := by simp; omega
        by_cases h35 : s[k].toNat = 35
        · have H1 := Lib.hid (show skipS b (s.data.toList.drop k) m = skipS true (s.data.toList.drop (k + 1)) m by rw [hd]; exact skip_sharp h35)
          have t2 : ((s[k].toNat : Int) == 35) = true := by simp; omega
          clear hd h10 h35
          go_wp2
          go_round
          case rel => exact ⟨k + 1, m, true, by omega, by omega, by omega, by go_num, rfl, rfl, by rw [HP.out, H1.out]⟩
          case measure => simp [intOf]; omega
        · have t2 : ((s[k].toNat : Int) == 35) = false := by simp; omega
          cases b with
          | true =>
            have H1 := Lib.hid (show skipS true (s.data.toList.drop k) m = skipS true (s.data.toList.drop (k + 1)) m by rw [hd]; exact skip_com h10 h35)
            clear hd h10 h35
            go_wp2
            go_round
            case rel => exact ⟨k + 1, m, true, by omega, by omega, by omega, by go_num, rfl, rfl, by rw [HP.out, H1.out]⟩
            case measure => simp [intOf]; omega
          | false =>
            cases hb : isBlk s[k] with
            | true =>
              have H1 := Lib.hid (show skipS false (s.data.toList.drop k) m = skipS false (s.data.toList.drop (k + 1)) m by rw [hd]; exact skip_blank h10 h35 hb)
              have HB := Lib.hid hb
              clear hd h10 h35 hb
              go_wp2_with (refine (isBlank_any _ _).mono ?_; rintro e w' ⟨rfl, rfl⟩; rw [HB.out])
              go_round
              case rel => exact ⟨k + 1, m, false, by omega, by omega, by omega, by go_num, rfl, rfl, by rw [HP.out, H1.out]⟩
              case measure => simp [intOf]; omega
            | false =>
              have H1 := Lib.hid (show skipS false (s.data.toList.drop k) m = (s.data.toList.drop k, m) by rw [hd]; exact skip_stop h10 h35 hb)
              have HB := Lib.hid hb
              clear hd h10 h35 hb
              go_wp2_with (refine (isBlank_any _ _).mono ?_; rintro e w' ⟨rfl, rfl⟩; rw [HB.out])
              go_ret2
              exact ⟨⟨k, m, rfl, hak, hk, hm, by rw [HP.out, H1.out]⟩, rfl⟩
    · have H1 := Lib.hid (show skipS b (s.data.toList.drop k) m = (s.data.toList.drop k, m) by rw [List.drop_eq_nil_of_le (by simp; omega)]; exact skip_nil b m)
      go_wp2
      go_ret2
      exact ⟨⟨k, m, rfl, hak, hk, hm, by rw [HP.out, H1.out]⟩, rfl⟩

theorem isName_any (s : ByteArray) (hs : s.size ≤ maxLen) (w : World) :
    Calls Try.prog 20 #[.string s] w fun e w' => e = .returned (.bool (rightS 1 s.data.toList)) ∧ w = w' := by
  go_enter Try.func20, Try.ntmps20
  go_wp2_with (refine (isText_any 1 s hs _).mono ?_; rintro e w' ⟨rfl, rfl⟩)
  go_ret
  exact ⟨rfl, rfl⟩

theorem unquote_str (s : ByteArray) (h : 2 ≤ s.size) (hs : s.size ≤ maxLen) (w : World) :
    Calls Try.prog 31 #[.int .i64 3, .string s] w fun e w' => e = .returned (.string (s.extract 1 (s.size - 1))) ∧ w = w' := by
  have hs' : s.size ≤ 9223372036854775807 := by unfold maxLen at hs; exact hs
  clear hs
  go_enter Try.func31, Try.ntmps31
  go_wp2
  go_ret
  exact ⟨rfl, rfl⟩
theorem unquote_else (k : Int) (hk : (k == 3) = false) (s : ByteArray) (w : World) :
    Calls Try.prog 31 #[.int .i64 k, .string s] w fun e w' => e = .returned (.string s) ∧ w = w' := by
  go_enter Try.func31, Try.ntmps31
  go_wp2
  go_ret
  exact ⟨rfl, rfl⟩

theorem separator_any (k1 k2 : Int) (s1 s2 : ByteArray) (l1 l2 : Int) (w : World) :
    Calls Try.prog 36 #[.agg #[.int .i64 k1, .string s1, .int .i64 l1], .agg #[.int .i64 k2, .string s2, .int .i64 l2]] w fun e w' =>
      e = .returned (.int .u8 (sepB l1 l2).toNat) ∧ Below w.heap.size w w' := by
  by_cases h : l1 = l2
  · have t : (l1 != l2) = false := by simpa using h
    have H := Lib.hid (show sepB l1 l2 = 32 by unfold sepB; rw [if_neg (by simpa using h)])
    clear h
    go_enter Try.func36, Try.ntmps36
    go_wp2
    go_ret
    exact ⟨ret_int (by rw [H.out]; rfl), ((Below.refl _ _).alloc (Nat.le_refl _) _).alloc (by simp) _⟩
  · have t : (l1 != l2) = true := by simpa using h
    have H := Lib.hid (show sepB l1 l2 = 10 by unfold sepB; rw [if_pos (by simpa using h)])
    clear h
    go_enter Try.func36, Try.ntmps36
    go_wp2
    go_ret
    exact ⟨ret_int (by rw [H.out]; rfl), ((Below.refl _ _).alloc (Nat.le_refl _) _).alloc (by simp) _⟩

theorem bytes_ext {a b : ByteArray} (h : a.data.toList = b.data.toList) : a = b := by
  obtain ⟨⟨a⟩⟩ := a
  obtain ⟨⟨b⟩⟩ := b
  simp only at h
  rw [h]
theorem ret_str {a b : ByteArray} (h : a.data.toList = b.data.toList) : Ending.returned (.string a) = .returned (.string b) := by rw [bytes_ext h]

theorem quote_any (k : Int) (s : ByteArray) (l : Int) (hs : s.size ≤ 1000000) (w : World) :
    Calls Try.prog 37 #[.agg #[.int .i64 k, .string s, .int .i64 l]] w fun e w' =>
      e = .returned (.string ⟨(quoteS k s.data.toList).toArray⟩) ∧ Below w.heap.size w w' := by
  by_cases hk : k = 3
  · have t : (k == 3) = true := by simpa using hk
    have H := Lib.hid (show quoteS k s.data.toList = 34 :: (s.data.toList ++ [34]) by unfold quoteS; rw [if_pos hk])
    clear hk
    go_enter Try.func37, Try.ntmps37
    go_wp2
    go_ret
    exact ⟨ret_str (by rw [H.out]; simp), (Below.refl _ _).alloc (Nat.le_refl _) _⟩
  · have t : (k == 3) = false := by simpa using hk
    have H := Lib.hid (show quoteS k s.data.toList = s.data.toList by unfold quoteS; rw [if_neg hk])
    clear hk
    go_enter Try.func37, Try.ntmps37
    go_wp2
    go_ret
    exact ⟨ret_str (by rw [H.out]), (Below.refl _ _).alloc (Nat.le_refl _) _⟩

theorem take_snoc (s : ByteArray) (k : Nat) (h : k < s.size) : s.data.toList.take (k + 1) = s.data.toList.take k ++ [s[k]] := by
  rw [List.take_succ_eq_append_getElem (by simpa using h)]; rfl

set_option maxHeartbeats 1000000 in
theorem number_any (s : ByteArray) (hs : s.size ≤ maxLen) (w : World) :
    Calls Try.prog 22 #[.string s] w fun e w' =>
      e = .returned (.tuple #[.int .i64 (if rightS 2 s.data.toList then (numS s.data.toList : Int) else 0), .int .i64 (if rightS 2 s.data.toList then 0 else 2)]) ∧ w = w' := by
  have HC := Lib.hid (fun w => isText_any 2 s hs w)
  cases hr : rightS 2 s.data.toList with
  | false =>
    have HR := Lib.hid hr
    clear hr
    go_enter Try.func22, Try.ntmps22
    go_wp2_with (refine (HC.out _).mono ?_; rintro e w' ⟨rfl, rfl⟩; rw [HR.out])
    go_ret2
    exact ⟨rfl, rfl⟩
  | true =>
    obtain ⟨hd, h9, h1⟩ := right_num hr
    have h9' : s.size ≤ 9 := by simpa using h9
    have HR := Lib.hid hr
    have HD := Lib.hid hd
    clear hr hd h9 h1 hs
    go_enter Try.func22, Try.ntmps22
    go_wp2_with (refine (HC.out _).mono ?_; rintro e w' ⟨rfl, rfl⟩; rw [HR.out])
    go_loop [4, 11] (fun n i => ∃ k : Nat, k ≤ s.size ∧ n = .int .i64 (numS (s.data.toList.take k)) ∧ i = .int .i64 k) (fun _ i => s.size - (intOf i).toNat)
    case atStart => exact ⟨0, Nat.zero_le _, rfl, rfl⟩
    case round =>
      obtain ⟨k, hk, rfl, rfl⟩ := hrel
      by_cases hlt : k < s.size
      · have hb := numS_lt9 (s.data.toList.take k) (fun c hc => HD.out c (List.mem_of_mem_take hc)) (by simp; omega)
        have hc := HD.out s[k] (by
          have := drop_cons s k hlt
          exact List.mem_of_mem_drop (i := k) (by rw [this]; simp))
        simp only [isDig, Bool.and_eq_true, decide_eq_true_eq] at hc
        obtain ⟨hc1, hc2⟩ := hc
        have H1 := Lib.hid (show numS (s.data.toList.take (k + 1)) = 10 * numS (s.data.toList.take k) + (s[k].toNat - 48) by rw [take_snoc s k hlt, numS_snoc])
        generalize numS (s.data.toList.take k) = n at hb H1
        go_wp2
        go_round
        case rel => exact ⟨k + 1, by omega, by rw [H1.out]; congr 1; omega, by go_num⟩
        case measure => simp [intOf]; omega
      · have H1 := Lib.hid (show s.data.toList.take k = s.data.toList from List.take_of_length_le (by simp; omega))
        go_wp2
        go_ret2
        exact ⟨by rw [H1.out]; rfl, rfl⟩

end Go.Proofs.Ytgaiknigdgoaeaa
