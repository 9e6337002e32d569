/-
  Contracts of the reference's functions on the beginning of a text: run, quoted.
-/
import Derived.Test.YtgpcaofikmdpjaaText
namespace Go.Proofs.Ytgpcaofikmdpjaa
open Go.RowKit

theorem refRun_dig (s : ByteArray) (a : Nat) (ha : a ≤ s.size) (hs : s.size ≤ 1000000) (w : World) :
    Calls Try.prog 88 #[.string s, .int .i64 a, .bool true] w fun e w' => e = .returned (.int .i64 (pre isDig (s.data.toList.drop a))) ∧ w = w' := by
  go_enter Try.func88, Try.ntmps88
  go_wp2
  go_loop [7] (fun i => ∃ k : Nat, a + k ≤ s.size ∧ i = .int .i64 k ∧ pre isDig (s.data.toList.drop a) = k + pre isDig (s.data.toList.drop (a + k))) (fun i => s.size - (intOf i).toNat)
  case atStart => exact ⟨0, by omega, rfl, by simp⟩
  case round =>
    obtain ⟨k, hk, rfl, hp⟩ := hrel
    have HP := Lib.hid hp
    clear hp
    by_cases hlt : a + k < s.size
    · have hd := drop_cons s (a + k) hlt
      cases hb : isDig s[a + k] with
      | true =>
        have h1 := pre_true (r := s.data.toList.drop (a + k + 1)) hb
        rw [← hd] at h1
        have H1 := Lib.hid h1
        have HB := Lib.hid hb
        clear h1 hd hb
        go_wp2_with (refine (digit_any _ _).mono ?_; rintro e w' ⟨rfl, rfl⟩; rw [HB.out])
        go_round
        case rel => exact ⟨k + 1, by omega, by go_num, by rw [HP.out, H1.out, show a + (k + 1) = a + k + 1 by omega]; omega⟩
        case measure => simp [intOf]; omega
      | false =>
        have h1 := pre_false (r := s.data.toList.drop (a + k + 1)) hb
        rw [← hd] at h1
        have H1 := Lib.hid h1
        have HB := Lib.hid hb
        clear h1 hd hb
        go_wp2_with (refine (digit_any _ _).mono ?_; rintro e w' ⟨rfl, rfl⟩; rw [HB.out])
        go_ret
        exact ⟨ret_int (by rw [HP.out, H1.out]; simp), rfl⟩
    · have hd : s.data.toList.drop (a + k) = [] := List.drop_eq_nil_of_le (by simp; omega)
      have HD := Lib.hid hd
      clear hd
      go_wp2
      go_ret
      exact ⟨ret_int (by rw [HP.out, HD.out]; simp [pre]), rfl⟩

set_option maxHeartbeats 1000000 in
theorem refRun_nam (s : ByteArray) (a : Nat) (ha : a ≤ s.size) (hs : s.size ≤ 1000000) (w : World) :
    Calls Try.prog 88 #[.string s, .int .i64 a, .bool false] w fun e w' => e = .returned (.int .i64 (pre isNam (s.data.toList.drop a))) ∧ w = w' := by
  go_enter Try.func88, Try.ntmps88
  go_wp2
  go_loop [7] (fun i => ∃ k : Nat, a + k ≤ s.size ∧ i = .int .i64 k ∧ pre isNam (s.data.toList.drop a) = k + pre isNam (s.data.toList.drop (a + k))) (fun i => s.size - (intOf i).toNat)
  case atStart => exact ⟨0, by omega, rfl, by simp⟩
  case round =>
    obtain ⟨k, hk, rfl, hp⟩ := hrel
    have HP := Lib.hid hp
    clear hp
    by_cases hlt : a + k < s.size
    · have hd := drop_cons s (a + k) hlt
      cases hb : isNam s[a + k] with
      | true =>
        have h1 := pre_true (r := s.data.toList.drop (a + k + 1)) hb
        rw [← hd] at h1
        have H1 := Lib.hid h1
        clear h1 hd
        cases hdg : isDig s[a + k] with
        | true =>
          have HB := Lib.hid hdg
          clear hb hdg
          go_wp2_with (refine (digit_any _ _).mono ?_; rintro e w' ⟨rfl, rfl⟩; rw [HB.out])
          go_round
          case rel => exact ⟨k + 1, by omega, by go_num, by rw [HP.out, H1.out, show a + (k + 1) = a + k + 1 by omega]; omega⟩
          case measure => simp [intOf]; omega
        | false =>
          have HB := Lib.hid hdg
          cases hlt' : isLet s[a + k] with
          | true =>
            have HL := Lib.hid hlt'
            clear hb hdg hlt'
            go_wp2_with (first | (go_at_call 87; refine (digit_any _ _).mono ?_; rintro e w' ⟨rfl, rfl⟩; rw [HB.out]) | (go_at_call 86; refine (letter_any _ _).mono ?_; rintro e w' ⟨rfl, rfl⟩; rw [HL.out]))
            go_round
            case rel => exact ⟨k + 1, by omega, by go_num, by rw [HP.out, H1.out, show a + (k + 1) = a + k + 1 by omega]; omega⟩
            case measure => simp [intOf]; omega
          | false =>
            have HL := Lib.hid hlt'
            have h95 : ((s[a + k].toNat : Int) == 95) = true := by
              unfold isNam at hb
              rw [hdg, hlt'] at hb
              simp at hb ⊢; omega
            clear hb hdg hlt'
            go_wp2_with (first | (go_at_call 87; refine (digit_any _ _).mono ?_; rintro e w' ⟨rfl, rfl⟩; rw [HB.out]) | (go_at_call 86; refine (letter_any _ _).mono ?_; rintro e w' ⟨rfl, rfl⟩; rw [HL.out]))
            go_round
            case rel => exact ⟨k + 1, by omega, by go_num, by rw [HP.out, H1.out, show a + (k + 1) = a + k + 1 by omega]; omega⟩
            case measure => simp [intOf]; omega
      | false =>
        have h1 := pre_false (r := s.data.toList.drop (a + k + 1)) hb
        rw [← hd] at h1
        have H1 := Lib.hid h1
        unfold isNam at hb
        simp only [Bool.or_eq_false_iff] at hb
        have HB := Lib.hid hb.1.2
        have HL := Lib.hid hb.1.1
        have h95 : ((s[a + k].toNat : Int) == 95) = false := by
          have := hb.2
          simp at this ⊢; omega
        clear h1 hd hb
        go_wp2_with (first | (go_at_call 87; refine (digit_any _ _).mono ?_; rintro e w' ⟨rfl, rfl⟩; rw [HB.out]) | (go_at_call 86; refine (letter_any _ _).mono ?_; rintro e w' ⟨rfl, rfl⟩; rw [HL.out]))
        go_ret
        exact ⟨ret_int (by rw [HP.out, H1.out]; simp), rfl⟩
    · have hd : s.data.toList.drop (a + k) = [] := List.drop_eq_nil_of_le (by simp; omega)
      have HD := Lib.hid hd
      clear hd
      go_wp2
      go_ret
      exact ⟨ret_int (by rw [HP.out, HD.out]; simp [pre]), rfl⟩

/-- the length of the string with its quotes; 0 if it is not closed -/
def quotedS (r : List UInt8) : Nat :=
  match r.drop (pre isStr r) with
  | [] => 0
  | c :: _ => if c.toNat = 34 then pre isStr r + 2 else 0

theorem quotedS_end {r : List UInt8} {n : Nat} (h : pre isStr r = n) (h2 : r.drop n = []) : quotedS r = 0 := by unfold quotedS; rw [h, h2]
theorem quotedS_good {r x : List UInt8} {c : UInt8} {n : Nat} (h : pre isStr r = n) (h2 : r.drop n = c :: x) (hc : c.toNat = 34) : quotedS r = n + 2 := by unfold quotedS; rw [h, h2]; simp [hc]
theorem quotedS_bad {r x : List UInt8} {c : UInt8} {n : Nat} (h : pre isStr r = n) (h2 : r.drop n = c :: x) (hc : ¬ c.toNat = 34) : quotedS r = 0 := by unfold quotedS; rw [h, h2]; simp [hc]

set_option maxHeartbeats 1000000 in
theorem refQuoted_any (s : ByteArray) (a : Nat) (ha : a < s.size) (hs : s.size ≤ 1000000) (w : World) :
    Calls Try.prog 89 #[.string s, .int .i64 a] w fun e w' => e = .returned (.int .i64 (quotedS (s.data.toList.drop (a + 1)))) ∧ w = w' := by
  go_enter Try.func89, Try.ntmps89
  go_wp2
  go_loop [5] (fun i => ∃ k : Nat, a + (k + 1) ≤ s.size ∧ i = .int .i64 (k + 1) ∧ pre isStr (s.data.toList.drop (a + 1)) = k + pre isStr (s.data.toList.drop (a + (k + 1)))) (fun i => s.size - (intOf i).toNat)
  case atStart => exact ⟨0, by omega, rfl, by simp⟩
  case round =>
    obtain ⟨k, hk, rfl, hp⟩ := hrel
    have HP := Lib.hid hp
    clear hp
    by_cases hlt : a + (k + 1) < s.size
    · have hd := drop_cons s (a + (k + 1)) hlt
      have hdd : (s.data.toList.drop (a + 1)).drop k = s[a + (k + 1)] :: s.data.toList.drop (a + (k + 1) + 1) := by rw [List.drop_drop, show a + 1 + k = a + (k + 1) by omega, hd]
      by_cases hq : s[a + (k + 1)].toNat = 34
      · have hf : isStr s[a + (k + 1)] = false := by simp [isStr, hq]
        have h1 := pre_false (r := s.data.toList.drop (a + (k + 1) + 1)) hf
        rw [← hd] at h1
        have H := Lib.hid (quotedS_good (by rw [HP.out, h1]; rfl) hdd hq)
        have t1 : ((s[a + (k + 1)].toNat : Int) == 34) = true := by simp; omega
        clear h1 hd hdd hf hq
        go_wp2
        go_ret
        exact ⟨ret_int (by rw [H.out]; simp; omega), rfl⟩
      · have t1 : ((s[a + (k + 1)].toNat : Int) == 34) = false := by simp; omega
        by_cases hlo : s[a + (k + 1)].toNat < 32
        · have hf : isStr s[a + (k + 1)] = false := by simp [isStr]; omega
          have h1 := pre_false (r := s.data.toList.drop (a + (k + 1) + 1)) hf
          rw [← hd] at h1
          have H := Lib.hid (quotedS_bad (by rw [HP.out, h1]; rfl) hdd hq)
          have t2 : decide ((s[a + (k + 1)].toNat : Int) < 32) = true := by simp; omega
          clear h1 hd hdd hf hq
          go_wp2
          go_ret
          exact ⟨ret_int (by rw [H.out]; rfl), rfl⟩
        · have t2 : decide ((s[a + (k + 1)].toNat : Int) < 32) = false := by simp; omega
          by_cases hhi : 126 < s[a + (k + 1)].toNat
          · have hf : isStr s[a + (k + 1)] = false := by simp [isStr]; omega
            have h1 := pre_false (r := s.data.toList.drop (a + (k + 1) + 1)) hf
            rw [← hd] at h1
            have H := Lib.hid (quotedS_bad (by rw [HP.out, h1]; rfl) hdd hq)
            clear h1 hd hdd hf hq
            go_wp2
            go_ret
            exact ⟨ret_int (by rw [H.out]; rfl), rfl⟩
          · have hf : isStr s[a + (k + 1)] = true := by simp [isStr]; omega
            have h1 := pre_true (r := s.data.toList.drop (a + (k + 1) + 1)) hf
            rw [← hd] at h1
            have H1 := Lib.hid h1
            clear h1 hd hdd hf hq
            go_wp2
            go_round
            case rel => exact ⟨k + 1, by omega, by go_num, by rw [HP.out, H1.out, show a + (k + 1 + 1) = a + (k + 1) + 1 by omega]; omega⟩
            case measure => simp [intOf]; omega
    · have hd : (s.data.toList.drop (a + 1)).drop k = [] := List.drop_eq_nil_of_le (by simp; omega)
      have hz : pre isStr (s.data.toList.drop (a + (k + 1))) = 0 := by rw [List.drop_eq_nil_of_le (by simp; omega)]; rfl
      have H := Lib.hid (quotedS_end (by rw [HP.out, hz]; rfl) hd)
      clear hd hz
      go_wp2
      go_ret
      exact ⟨ret_int (by rw [H.out]; rfl), rfl⟩

end Go.Proofs.Ytgpcaofikmdpjaa
