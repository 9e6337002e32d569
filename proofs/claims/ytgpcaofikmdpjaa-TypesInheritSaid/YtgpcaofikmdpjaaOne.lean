/-
  The contract of the reference's one: the token at a place, its length, the error.
-/
import Derived.Test.YtgpcaofikmdpjaaRef2
import Derived.BigQuiet
import Derived.Deep.QuietTactic
import Derived.StillTailTactics
import Derived.IntWalk
namespace Go.Proofs.Ytgpcaofikmdpjaa
open Go.RowKit

/-- what one hands back at the rest r of a text -/
def oneOf (r : List UInt8) : Ending :=
  .returned (.tuple #[.agg #[.int .i64 ((scanS r).1 : Nat), .string ⟨(textS (scanS r).1 (scanS r).2.1 r).toArray⟩, .int .i64 0], .int .i64 ((scanS r).2.1 : Nat), .int .i64 ((scanS r).2.2 : Nat)])

theorem oneOf_err {r : List UInt8} {e : Nat} (h : scanS r = (0, 0, e)) : oneOf r = .returned (.tuple #[.agg #[.int .i64 0, .string ⟨#[]⟩, .int .i64 0], .int .i64 0, .int .i64 e]) := by
  unfold oneOf
  rw [h]
  rfl
theorem oneOf_ok {r : List UInt8} {k n : Nat} {t : ByteArray} (h : scanS r = (k, n, 0)) (ht : t.data.toList = textS k n r) : oneOf r = .returned (.tuple #[.agg #[.int .i64 k, .string t, .int .i64 0], .int .i64 n, .int .i64 0]) := by
  unfold oneOf
  rw [h]
  simp only
  rw [show (⟨(textS k n r).toArray⟩ : ByteArray) = t from bytes_ext (by rw [ht])]
  rfl

theorem ext_take (s : ByteArray) (a n : Nat) : (s.extract a (a + n)).data.toList = (s.data.toList.drop a).take n := by
  rw [Lib.extract_data]; simp

set_option maxHeartbeats 2000000 in
theorem one_letter (s : ByteArray) (a : Nat) (ha : a < s.size) (hs : s.size ≤ 1000000) (hl : isLet s[a] = true) (w : World) :
    Calls Try.prog 79 #[.string s, .int .i64 a] w fun e w' => e = oneOf (s.data.toList.drop a) ∧ Below w.heap.size w w' := by
  have hd := drop_cons s a ha
  have hdg : isDig s[a] = false := by
    simp [isLet] at hl
    simp [isDig]; omega
  have hsc : scanS (s.data.toList.drop a) = runS 1 20 isNam (s.data.toList.drop a) := by rw [hd]; simp [scanS, hl]
  have hle := pre_le isNam (s.data.toList.drop a)
  rw [List.length_drop, Array.length_toList] at hle
  have hle' : a + pre isNam (s.data.toList.drop a) ≤ s.size := by
    have : s.data.size = s.size := rfl
    omega
  have HL := Lib.hid hl
  have HD := Lib.hid hdg
  have HC := Lib.hid (fun w => refRun_nam s a (by omega) hs w)
  by_cases h20 : 20 < pre isNam (s.data.toList.drop a)
  · have H := Lib.hid (oneOf_err (show scanS (s.data.toList.drop a) = (0, 0, 3) by rw [hsc]; unfold runS; rw [if_pos h20]))
    generalize pre isNam (s.data.toList.drop a) = n at HC hle' h20
    clear hl hdg hsc hd hle
    go_enter Try.func79, Try.ntmps79
    go_wp2_with fail
    refine (letter_any _ _).mono ?_
    rintro e w' ⟨rfl, rfl⟩
    rw [HL.out]
    go_wp2_with fail
    refine (digit_any _ _).mono ?_
    rintro e w' ⟨rfl, rfl⟩
    rw [HD.out]
    go_wp2_with fail
    refine (HC.out _).mono ?_
    rintro e w' ⟨rfl, rfl⟩
    go_wp2_with fail
    refine (digit_any _ _).mono ?_
    rintro e w' ⟨rfl, rfl⟩
    rw [HD.out]
    go_wp2_with fail
    refine bodyPost_ret (v := .tuple #[.agg #[.int .i64 0, .string ⟨#[]⟩, .int .i64 0], .int .i64 0, .int .i64 3]) (by simp [results, Try.results79, go_sem]) rfl ⟨H.out.symm, (Below.refl _ _).alloc (Nat.le_refl _) _⟩
  · have hsc2 : scanS (s.data.toList.drop a) = (1, pre isNam (s.data.toList.drop a), 0) := by rw [hsc]; unfold runS; rw [if_neg h20]
    have H := Lib.hid (oneOf_ok (t := s.extract a (a + pre isNam (s.data.toList.drop a))) hsc2 (by rw [ext_take]; rfl))
    generalize pre isNam (s.data.toList.drop a) = n at HC hle' h20 H
    clear hl hdg hsc hd hle hsc2
    go_enter Try.func79, Try.ntmps79
    go_wp2_with fail
    refine (letter_any _ _).mono ?_
    rintro e w' ⟨rfl, rfl⟩
    rw [HL.out]
    go_wp2_with fail
    refine (digit_any _ _).mono ?_
    rintro e w' ⟨rfl, rfl⟩
    rw [HD.out]
    go_wp2_with fail
    refine (HC.out _).mono ?_
    rintro e w' ⟨rfl, rfl⟩
    go_wp2_with fail
    refine (digit_any _ _).mono ?_
    rintro e w' ⟨rfl, rfl⟩
    rw [HD.out]
    go_wp2_with fail
    refine bodyPost_ret (v := .tuple #[.agg #[.int .i64 1, .string (s.extract a (a + n)), .int .i64 0], .int .i64 n, .int .i64 0]) (by simp [results, Try.results79, go_sem]) rfl ⟨H.out.symm, (Below.refl _ _).alloc (Nat.le_refl _) _⟩

set_option maxHeartbeats 2000000 in
theorem one_digit (s : ByteArray) (a : Nat) (ha : a < s.size) (hs : s.size ≤ 1000000) (hdg : isDig s[a] = true) (w : World) :
    Calls Try.prog 79 #[.string s, .int .i64 a] w fun e w' => e = oneOf (s.data.toList.drop a) ∧ Below w.heap.size w w' := by
  have hd := drop_cons s a ha
  have hl : isLet s[a] = false := by
    simp [isDig] at hdg
    simp [isLet]; omega
  have hsc : scanS (s.data.toList.drop a) = runS 2 9 isDig (s.data.toList.drop a) := by rw [hd]; simp [scanS, hl, hdg]
  have hle := pre_le isDig (s.data.toList.drop a)
  rw [List.length_drop, Array.length_toList] at hle
  have hle' : a + pre isDig (s.data.toList.drop a) ≤ s.size := by
    have : s.data.size = s.size := rfl
    omega
  have HL := Lib.hid hl
  have HD := Lib.hid hdg
  have HC := Lib.hid (fun w => refRun_dig s a (by omega) hs w)
  by_cases h20 : 9 < pre isDig (s.data.toList.drop a)
  · have H := Lib.hid (oneOf_err (show scanS (s.data.toList.drop a) = (0, 0, 3) by rw [hsc]; unfold runS; rw [if_pos h20]))
    generalize pre isDig (s.data.toList.drop a) = n at HC hle' h20
    clear hl hdg hsc hd hle
    go_enter Try.func79, Try.ntmps79
    go_wp2_with fail
    refine (letter_any _ _).mono ?_
    rintro e w' ⟨rfl, rfl⟩
    rw [HL.out]
    go_wp2_with fail
    refine (digit_any _ _).mono ?_
    rintro e w' ⟨rfl, rfl⟩
    rw [HD.out]
    go_wp2_with fail
    refine (digit_any _ _).mono ?_
    rintro e w' ⟨rfl, rfl⟩
    rw [HD.out]
    go_wp2_with fail
    refine (HC.out _).mono ?_
    rintro e w' ⟨rfl, rfl⟩
    go_wp2_with fail
    refine (digit_any _ _).mono ?_
    rintro e w' ⟨rfl, rfl⟩
    rw [HD.out]
    go_wp2_with fail
    refine bodyPost_ret (v := .tuple #[.agg #[.int .i64 0, .string ⟨#[]⟩, .int .i64 0], .int .i64 0, .int .i64 3]) (by simp [results, Try.results79, go_sem]) rfl ⟨H.out.symm, (Below.refl _ _).alloc (Nat.le_refl _) _⟩
  · have hsc2 : scanS (s.data.toList.drop a) = (2, pre isDig (s.data.toList.drop a), 0) := by rw [hsc]; unfold runS; rw [if_neg h20]
    have H := Lib.hid (oneOf_ok (t := s.extract a (a + pre isDig (s.data.toList.drop a))) hsc2 (by rw [ext_take]; rfl))
    generalize pre isDig (s.data.toList.drop a) = n at HC hle' h20 H
    clear hl hdg hsc hd hle hsc2
    go_enter Try.func79, Try.ntmps79
    go_wp2_with fail
    refine (letter_any _ _).mono ?_
    rintro e w' ⟨rfl, rfl⟩
    rw [HL.out]
    go_wp2_with fail
    refine (digit_any _ _).mono ?_
    rintro e w' ⟨rfl, rfl⟩
    rw [HD.out]
    go_wp2_with fail
    refine (digit_any _ _).mono ?_
    rintro e w' ⟨rfl, rfl⟩
    rw [HD.out]
    go_wp2_with fail
    refine (HC.out _).mono ?_
    rintro e w' ⟨rfl, rfl⟩
    go_wp2_with fail
    refine (digit_any _ _).mono ?_
    rintro e w' ⟨rfl, rfl⟩
    rw [HD.out]
    go_wp2_with fail
    refine bodyPost_ret (v := .tuple #[.agg #[.int .i64 2, .string (s.extract a (a + n)), .int .i64 0], .int .i64 n, .int .i64 0]) (by simp [results, Try.results79, go_sem]) rfl ⟨H.out.symm, (Below.refl _ _).alloc (Nat.le_refl _) _⟩


theorem strS_quoted {r : List UInt8} (h : quotedS r = 0) : strS r = (0, 0, 2) := by
  unfold quotedS at h
  unfold strS
  split at h
  · rename_i e; rw [e]
  · rename_i c x e
    rw [e]
    simp only
    split at h
    · omega
    · rename_i hc; rw [if_neg hc]
theorem strS_quoted_long {r : List UInt8} (h : 62 < quotedS r) : strS r = (0, 0, 3) := by
  unfold quotedS at h
  unfold strS
  split at h
  · omega
  · rename_i c x e
    rw [e]
    simp only
    split at h
    · rename_i hc
      rw [if_pos hc, if_pos (by omega)]
    · omega
theorem strS_quoted_ok {r : List UInt8} (h0 : quotedS r ≠ 0) (h : ¬ 62 < quotedS r) : strS r = (3, quotedS r, 0) := by
  unfold quotedS at h h0 ⊢
  unfold strS
  split at h
  · rename_i e; simp only [e] at h0; omega
  · rename_i c x e
    simp only [e] at h0 ⊢
    split at h
    · rename_i hc
      rw [if_pos hc, if_neg (by omega), if_pos hc]
    · rename_i hc
      rw [if_neg hc] at h0
      omega
theorem quoted_bd (r : List UInt8) : quotedS r ≤ r.length + 1 ∧ (quotedS r ≠ 0 → 2 ≤ quotedS r) := by
  unfold quotedS
  split
  · exact ⟨by omega, by omega⟩
  · rename_i c x e
    have : (r.drop (pre isStr r)).length = x.length + 1 := by rw [e]; rfl
    rw [List.length_drop] at this
    split
    · exact ⟨by omega, by omega⟩
    · exact ⟨by omega, by omega⟩

set_option maxHeartbeats 2000000 in
theorem one_quote (s : ByteArray) (a : Nat) (ha : a < s.size) (hs : s.size ≤ 1000000) (hq : s[a].toNat = 34) (w : World) :
    Calls Try.prog 79 #[.string s, .int .i64 a] w fun e w' => e = oneOf (s.data.toList.drop a) ∧ Below w.heap.size w w' := by
  have hd := drop_cons s a ha
  have hl : isLet s[a] = false := by simp [isLet]; omega
  have hdg : isDig s[a] = false := by simp [isDig]; omega
  have hsc : scanS (s.data.toList.drop a) = strS (s.data.toList.drop (a + 1)) := by rw [hd]; simp [scanS, hl, hdg, hq]
  have t34 : ((s[a].toNat : Int) == 34) = true := by simp; omega
  obtain ⟨hb1, hb2⟩ := quoted_bd (s.data.toList.drop (a + 1))
  rw [List.length_drop, Array.length_toList] at hb1
  have hb1' : a + quotedS (s.data.toList.drop (a + 1)) ≤ s.size := by
    have : s.data.size = s.size := rfl
    omega
  have HL := Lib.hid hl
  have HD := Lib.hid hdg
  have HC := Lib.hid (fun w => refQuoted_any s a ha hs w)
  by_cases h0 : quotedS (s.data.toList.drop (a + 1)) = 0
  · have H := Lib.hid (oneOf_err (show scanS (s.data.toList.drop a) = (0, 0, 2) by rw [hsc]; exact strS_quoted h0))
    rw [h0] at HC
    clear hl hdg hsc hd hb1 hb2 hb1' h0 hq
    go_enter Try.func79, Try.ntmps79
    go_wp2_with fail
    refine (letter_any _ _).mono ?_
    rintro e w' ⟨rfl, rfl⟩
    rw [HL.out]
    go_wp2_with fail
    refine (digit_any _ _).mono ?_
    rintro e w' ⟨rfl, rfl⟩
    rw [HD.out]
    go_wp2_with fail
    refine (HC.out _).mono ?_
    rintro e w' ⟨rfl, rfl⟩
    go_wp2_with fail
    refine bodyPost_ret (v := .tuple #[.agg #[.int .i64 0, .string ⟨#[]⟩, .int .i64 0], .int .i64 0, .int .i64 2]) (by simp [results, Try.results79, go_sem]) rfl ⟨H.out.symm, (Below.refl _ _).alloc (Nat.le_refl _) _⟩
  · have hb2 := hb2 h0
    by_cases h62 : 62 < quotedS (s.data.toList.drop (a + 1))
    · have H := Lib.hid (oneOf_err (show scanS (s.data.toList.drop a) = (0, 0, 3) by rw [hsc]; exact strS_quoted_long h62))
      generalize quotedS (s.data.toList.drop (a + 1)) = n at HC hb1' hb2 h62
      have tn : ((n : Int) == 0) = false := by simp; omega
      clear hl hdg hsc hd hb1 h0 hq
      go_enter Try.func79, Try.ntmps79
      go_wp2_with fail
      refine (letter_any _ _).mono ?_
      rintro e w' ⟨rfl, rfl⟩
      rw [HL.out]
      go_wp2_with fail
      refine (digit_any _ _).mono ?_
      rintro e w' ⟨rfl, rfl⟩
      rw [HD.out]
      go_wp2_with fail
      refine (HC.out _).mono ?_
      rintro e w' ⟨rfl, rfl⟩
      go_wp2_with fail
      refine bodyPost_ret (v := .tuple #[.agg #[.int .i64 0, .string ⟨#[]⟩, .int .i64 0], .int .i64 0, .int .i64 3]) (by simp [results, Try.results79, go_sem]) rfl ⟨H.out.symm, (Below.refl _ _).alloc (Nat.le_refl _) _⟩
    · have H := Lib.hid (oneOf_ok (t := s.extract (a + 1) (a + quotedS (s.data.toList.drop (a + 1)) - 1)) (hsc.trans (strS_quoted_ok h0 h62)) (by
        rw [Lib.extract_data]
        simp only [textS, if_true]
        rw [List.drop_take, List.drop_drop]
        congr 1
        omega))
      generalize quotedS (s.data.toList.drop (a + 1)) = n at HC hb1' hb2 h62 H
      have tn : ((n : Int) == 0) = false := by simp; omega
      clear hl hdg hsc hd hb1 h0 hq
      go_enter Try.func79, Try.ntmps79
      go_wp2_with fail
      refine (letter_any _ _).mono ?_
      rintro e w' ⟨rfl, rfl⟩
      rw [HL.out]
      go_wp2_with fail
      refine (digit_any _ _).mono ?_
      rintro e w' ⟨rfl, rfl⟩
      rw [HD.out]
      go_wp2_with fail
      refine (HC.out _).mono ?_
      rintro e w' ⟨rfl, rfl⟩
      go_wp2_with fail
      refine bodyPost_ret (v := .tuple #[.agg #[.int .i64 3, .string (s.extract (a + 1) (a + n - 1)), .int .i64 0], .int .i64 n, .int .i64 0]) (by simp [results, Try.results79, go_sem]) rfl ⟨H.out.symm, (Below.refl _ _).alloc (Nat.le_refl _) _⟩

end Go.Proofs.Ytgpcaofikmdpjaa
