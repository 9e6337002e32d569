/-
  Contracts of scanSign, scan, isText, IsName, Number, unquote, quote, separator of the program.
-/
import Derived.Test.YtgpcaofikmdpjaaScan
import Derived.Test.YtgpcaofikmdpjaaShelf
import Derived.Lib.Bytealg
namespace Go.Proofs.Ytgpcaofikmdpjaa
open Go.RowKit

theorem index_neg {l : List UInt8} {c : UInt8} (h : l.contains c = false) : Lib.indexByte l c = -1 := by
  induction l with
  | nil => rfl
  | cons b l ih =>
    simp only [List.contains_cons, Bool.or_eq_false_iff] at h
    unfold Lib.indexByte
    have h1 : (b == c) = false := by rw [BEq.comm]; exact h.1
    rw [h1, ih h.2]; rfl
theorem index_pos {l : List UInt8} {c : UInt8} (h : l.contains c = true) : 0 ≤ Lib.indexByte l c := by
  induction l with
  | nil => simp at h
  | cons b l ih =>
    simp only [List.contains_cons, Bool.or_eq_true] at h
    unfold Lib.indexByte
    split
    · omega
    · rename_i hb
      have hl : 0 ≤ Lib.indexByte l c := by
        refine ih ?_
        rcases h with h | h
        · exact absurd (by rw [BEq.comm]; exact h) hb
        · exact h
      split
      · rename_i h1
        simp at h1
        omega
      · omega

theorem two_cases {l : List UInt8} (h : two l = true) :
    (l.take 2 == [45, 62]) = true ∨ ((l.take 2 == [45, 62]) = false ∧ (l.take 2 == [60, 61]) = true) ∨ ((l.take 2 == [45, 62]) = false ∧ (l.take 2 == [60, 61]) = false ∧ (l.take 2 == [62, 61]) = true) ∨
    ((l.take 2 == [45, 62]) = false ∧ (l.take 2 == [60, 61]) = false ∧ (l.take 2 == [62, 61]) = false ∧ (l.take 2 == [61, 61]) = true) ∨
    ((l.take 2 == [45, 62]) = false ∧ (l.take 2 == [60, 61]) = false ∧ (l.take 2 == [62, 61]) = false ∧ (l.take 2 == [61, 61]) = false ∧ (l.take 2 == [33, 61]) = true) := by
  simp only [two, Bool.or_eq_true] at h
  cases h1 : (l.take 2 == [45, 62]) <;> cases h2 : (l.take 2 == [60, 61]) <;> cases h3 : (l.take 2 == [62, 61]) <;> cases h4 : (l.take 2 == [61, 61]) <;> simp_all

theorem signS_two {l : List UInt8} (h : two l = true) : signS l = (4, 2, 0) := by unfold signS; rw [if_pos h]
theorem signS_one {l : List UInt8} (h : two l = false) (h2 : signBytes.contains (l.headD 0) = true) : signS l = (4, 1, 0) := by unfold signS; rw [if_neg (by simp [h]), if_pos h2]
theorem signS_none {l : List UInt8} (h : two l = false) (h2 : signBytes.contains (l.headD 0) = false) : signS l = (0, 0, 2) := by unfold signS; rw [if_neg (by simp [h]), if_neg (by simp only [h2]; decide)]

theorem byte_back (c : UInt8) : ((c.toNat : Int)).toNat.toUInt8 = c := by simp

set_option maxHeartbeats 1000000 in
theorem scanSign_any (s : ByteArray) (h0 : 0 < s.size) (hs : s.size ≤ maxLen) (w : World) :
    Calls Try.prog 96 #[.string s] w fun e w' => e = trip (signS s.data.toList) ∧ w = w' := by
  have hs' : s.size ≤ 9223372036854775807 := by unfold maxLen at hs; exact hs
  clear hs
  have hx : (s.extract 0 2).toList = s.data.toList.take 2 := by rw [ByteArray.toList_eq, Lib.extract_data]; simp
  have hh : s.data.toList.headD 0 = s[0] := by
    have := drop_cons s 0 h0
    simp only [List.drop_zero] at this
    rw [this]; rfl
  have hl : s.data.toList.length = s.size := by simp
  cases ht : two s.data.toList with
  | true =>
    have hlen : 2 ≤ s.size := by
      rw [← hl]
      match hq : s.data.toList with
      | [] => rw [hq] at ht; simp [two] at ht
      | [a] => rw [hq] at ht; simp [two] at ht
      | a :: b :: r => simp
    have H := Lib.hid (signS_two ht)
    have HC := two_cases ht
    rw [← hx] at HC
    clear hx hh hl ht
    rcases HC with t1 | ⟨t1, t2⟩ | ⟨t1, t2, t3⟩ | ⟨t1, t2, t3, t4⟩ | ⟨t1, t2, t3, t4, t5⟩
    all_goals
      go_enter Try.func96, Try.ntmps96
      go_wp2
      go_ret3
      exact ⟨trip_of (by rw [H.out]; rfl) (by rw [H.out]; rfl) (by rw [H.out]; rfl), rfl⟩
  | false =>
    have t1 : ((s.extract 0 2).toList == [45, 62]) = false := by rw [hx]; simp only [two, Bool.or_eq_false_iff] at ht; exact ht.1.1.1.1
    have t2 : ((s.extract 0 2).toList == [60, 61]) = false := by rw [hx]; simp only [two, Bool.or_eq_false_iff] at ht; exact ht.1.1.1.2
    have t3 : ((s.extract 0 2).toList == [62, 61]) = false := by rw [hx]; simp only [two, Bool.or_eq_false_iff] at ht; exact ht.1.1.2
    have t4 : ((s.extract 0 2).toList == [61, 61]) = false := by rw [hx]; simp only [two, Bool.or_eq_false_iff] at ht; exact ht.1.2
    have t5 : ((s.extract 0 2).toList == [33, 61]) = false := by rw [hx]; simp only [two, Bool.or_eq_false_iff] at ht; exact ht.2
    have HI : ∀ w : World, Calls Try.prog 98 #[.string ⟨#[123, 125, 40, 41, 91, 93, 44, 59, 58, 61, 43, 45, 42, 60, 62, 33, 38, 124, 46, 63]⟩, .int .u8 s[0].toNat] w fun e w' => e = .returned (.int .i64 (Lib.indexByte signBytes s[0])) ∧ w = w' := by
      intro w
      refine (Try.strings_IndexByte _ _ _).mono ?_
      rintro e w' ⟨rfl, rfl⟩
      rw [byte_back]
      exact ⟨rfl, rfl⟩
    have HI' := Lib.hid HI
    clear HI
    cases hc : signBytes.contains s[0] with
    | true =>
      have H := Lib.hid (signS_one ht (by rw [hh]; exact hc))
      have hp := index_pos hc
      clear hx hh hl ht hc
      by_cases h2 : 2 ≤ s.size
      all_goals
        go_enter Try.func96, Try.ntmps96
        go_wp2_with (go_at_call 98; refine (HI'.out _).mono ?_; rintro e w' ⟨rfl, rfl⟩)
        go_ret3
        exact ⟨trip_of (by rw [H.out]; rfl) (by rw [H.out]; rfl) (by rw [H.out]; rfl), rfl⟩
    | false =>
      have H := Lib.hid (signS_none ht (by rw [hh]; exact hc))
      have hp : Lib.indexByte signBytes s[0] < 0 := by rw [index_neg hc]; decide
      clear hx hh hl ht hc
      by_cases h2 : 2 ≤ s.size
      all_goals
        go_enter Try.func96, Try.ntmps96
        go_wp2_with (go_at_call 98; refine (HI'.out _).mono ?_; rintro e w' ⟨rfl, rfl⟩)
        go_ret3
        exact ⟨trip_of (by rw [H.out]; rfl) (by rw [H.out]; rfl) (by rw [H.out]; rfl), rfl⟩

theorem scanS_cons {s : ByteArray} (h0 : 0 < s.size) : scanS s.data.toList =
    if isLet s[0] then runS 1 20 isNam s.data.toList else if isDig s[0] then runS 2 9 isDig s.data.toList else if s[0].toNat = 34 then strS (s.data.toList.drop 1) else signS s.data.toList := by
  have := drop_cons s 0 h0
  simp only [List.drop_zero] at this
  have h2 : s.data.toList.drop 1 = s.data.toList.drop (0 + 1) := rfl
  rw [h2]
  generalize s.data.toList.drop (0 + 1) = r at *
  generalize s.data.toList = l at *
  subst this
  rfl

theorem empty_of {s : ByteArray} (h : s.size = 0) : s = ⟨#[]⟩ := by
  obtain ⟨d⟩ := s
  have : d = #[] := Array.eq_empty_of_size_eq_zero h
  rw [this]

set_option maxHeartbeats 1000000 in
theorem scan_any (s : ByteArray) (hs : s.size ≤ maxLen) (w : World) :
    Calls Try.prog 82 #[.string s] w fun e w' => e = trip (scanS s.data.toList) ∧ w = w' := by
  by_cases h0 : 0 < s.size
  · have he : s.toList.isEmpty = false := by
      rw [ByteArray.toList_eq]
      cases h : s.data.toList with
      | nil =>
        have h1 : s.data.toList.length = s.size := by simp
        rw [h] at h1
        simp only [List.length_nil] at h1
        omega
      | cons a b => rfl
    have hs' : s.size ≤ 9223372036854775807 := by unfold maxLen at hs; exact hs
    have HS := Lib.hid hs
    have hsc := scanS_cons h0
    cases hl : isLet s[0] with
    | true =>
      have H := Lib.hid (show scanS s.data.toList = runS 1 20 isNam s.data.toList by rw [hsc, if_pos hl])
      have HL := Lib.hid hl
      clear hsc hl hs
      go_enter Try.func82, Try.ntmps82
      go_wp2_with fail
      refine (isLetter_any _ _).mono ?_
      rintro e w' ⟨rfl, rfl⟩
      rw [HL.out]
      go_wp2_with fail
      refine (scanRun_nam _ HS.out _).mono ?_
      rintro e w' ⟨rfl, rfl⟩
      rw [trip]
      go_wp2_with fail
      go_ret3
      exact ⟨by rw [H.out]; rfl, rfl⟩
    | false =>
      have HL := Lib.hid hl
      cases hd : isDig s[0] with
      | true =>
        have H := Lib.hid (show scanS s.data.toList = runS 2 9 isDig s.data.toList by rw [hsc, if_neg (by simp [hl]), if_pos hd])
        have HD := Lib.hid hd
        clear hsc hl hd hs
        go_enter Try.func82, Try.ntmps82
        go_wp2_with fail
        refine (isLetter_any _ _).mono ?_
        rintro e w' ⟨rfl, rfl⟩
        rw [HL.out]
        go_wp2_with fail
        refine (isDigit_any _ _).mono ?_
        rintro e w' ⟨rfl, rfl⟩
        rw [HD.out]
        go_wp2_with fail
        refine (scanRun_dig _ HS.out _).mono ?_
        rintro e w' ⟨rfl, rfl⟩
        rw [trip]
        go_wp2_with fail
        go_ret3
        exact ⟨by rw [H.out]; rfl, rfl⟩
      | false =>
        have HD := Lib.hid hd
        by_cases hq : s[0].toNat = 34
        · have H := Lib.hid (show scanS s.data.toList = strS (s.data.toList.drop 1) by rw [hsc, if_neg (by simp [hl]), if_neg (by simp [hd]), if_pos hq])
          have t2 : ((s[0].toNat : Int) == 34) = true := by simp; omega
          have H0 := Lib.hid h0
          have HC := Lib.hid (fun w => scanString_any s h0 hs w)
          generalize strS (s.data.toList.drop 1) = x at H HC
          clear hsc hl hd hq hs
          go_enter Try.func82, Try.ntmps82
          go_wp2_with fail
          refine (isLetter_any _ _).mono ?_
          rintro e w' ⟨rfl, rfl⟩
          rw [HL.out]
          go_wp2_with fail
          refine (isDigit_any _ _).mono ?_
          rintro e w' ⟨rfl, rfl⟩
          rw [HD.out]
          go_wp2_with fail
          refine (HC.out _).mono ?_
          rintro e w' ⟨rfl, rfl⟩
          rw [trip]
          go_wp2_with fail
          go_ret3
          exact ⟨by rw [H.out]; rfl, rfl⟩
        · have H := Lib.hid (show scanS s.data.toList = signS s.data.toList by rw [hsc, if_neg (by simp [hl]), if_neg (by simp [hd]), if_neg hq])
          have t2 : ((s[0].toNat : Int) == 34) = false := by simp; omega
          have H0 := Lib.hid h0
          clear hsc hl hd hq hs
          go_enter Try.func82, Try.ntmps82
          go_wp2_with fail
          refine (isLetter_any _ _).mono ?_
          rintro e w' ⟨rfl, rfl⟩
          rw [HL.out]
          go_wp2_with fail
          refine (isDigit_any _ _).mono ?_
          rintro e w' ⟨rfl, rfl⟩
          rw [HD.out]
          go_wp2_with fail
          refine (scanSign_any _ H0.out HS.out _).mono ?_
          rintro e w' ⟨rfl, rfl⟩
          rw [trip]
          go_wp2_with fail
          go_ret3
          exact ⟨by rw [H.out]; rfl, rfl⟩
  · obtain rfl := empty_of (s := s) (by omega)
    clear h0 hs
    go_enter Try.func82, Try.ntmps82
    go_wp2
    go_ret3
    exact ⟨rfl, rfl⟩

end Go.Proofs.Ytgpcaofikmdpjaa
