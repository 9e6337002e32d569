/-
  Contracts of functions of the program on the beginning of a text.
-/
import Derived.Test.YtgpcaofikmdpjaaBytes
import Derived.Test.YtgpcaofikmdpjaaLaws
import Derived.WalkSpells
import Derived.Lib.Hide
import Derived.Lib.IndexBytes
import Derived.OwnWalk
namespace Go.Proofs.Ytgpcaofikmdpjaa
open Go.RowKit

theorem ret_int {k : IntKind} {a b : Int} (h : a = b) : Ending.returned (.int k a) = .returned (.int k b) := by rw [h]

theorem drop_cons (s : ByteArray) (k : Nat) (h : k < s.size) : s.data.toList.drop k = s[k] :: s.data.toList.drop (k + 1) := by
  have : k < s.data.toList.length := by simpa using h
  rw [List.drop_eq_getElem_cons this]; rfl

theorem pre_true {p : UInt8 → Bool} {c : UInt8} {r : List UInt8} (h : p c = true) : pre p (c :: r) = pre p r + 1 := by simp [pre, h]
theorem pre_false {p : UInt8 → Bool} {c : UInt8} {r : List UInt8} (h : p c = false) : pre p (c :: r) = 0 := by simp [pre, h]

set_option maxHeartbeats 400000 in
theorem prefix_any (p : UInt8 → Bool) (g : Nat) (hg : ∀ (c : UInt8) (w : World), Calls Try.prog g #[.int .u8 c.toNat] w fun e w' => e = .returned (.bool (p c)) ∧ w = w')
    (hcf : ∀ (c : UInt8) (w : World), (callFunc g #[.int .u8 c.toNat]).run Try.prog w = .ok (.enter g #[.int .u8 c.toNat]) w) (s : ByteArray) (hs : s.size ≤ maxLen) (w : World) :
    Calls Try.prog 80 #[.string s, .func (.func g) #[] #[]] w fun e w' => e = .returned (.int .i64 (pre p s.data.toList)) ∧ w = w' := by
  unfold maxLen at hs
  have HG := Lib.hid hg
  clear hg
  go_enter Try.func80, Try.ntmps80
  go_wp2
  go_loop [5] (fun i => ∃ k : Nat, k ≤ s.size ∧ i = .int .i64 k ∧ pre p s.data.toList = k + pre p (s.data.toList.drop k)) (fun i => s.size - (intOf i).toNat)
  case atStart => exact ⟨0, Nat.zero_le _, rfl, by simp⟩
  case round =>
    obtain ⟨k, hk, rfl, hp⟩ := hrel
    have HP := Lib.hid hp
    clear hp
    by_cases hlt : k < s.size
    · have hd := drop_cons s k hlt
      by_cases hb : p s[k] = true
      · have h1 := pre_true (r := s.data.toList.drop (k + 1)) hb
        rw [← hd] at h1
        have H1 := Lib.hid h1
        have HB := Lib.hid hb
        clear h1 hd hb
        go_wp2_with (refine (HG.out _ _).mono ?_; rintro e w' ⟨rfl, rfl⟩; rw [HB.out])
        go_round
        case rel => exact ⟨k + 1, by omega, by go_num, by rw [HP.out, H1.out]; omega⟩
        case measure => simp [intOf]; omega
      · have hb' : p s[k] = false := by simpa using hb
        have h1 := pre_false (r := s.data.toList.drop (k + 1)) hb'
        rw [← hd] at h1
        have H1 := Lib.hid h1
        have HB := Lib.hid hb'
        clear h1 hd hb hb'
        go_wp2_with (refine (HG.out _ _).mono ?_; rintro e w' ⟨rfl, rfl⟩; rw [HB.out])
        go_ret
        exact ⟨ret_int (by rw [HP.out, H1.out]; simp), rfl⟩
    · have hd : s.data.toList.drop k = [] := List.drop_eq_nil_of_le (by simp; omega)
      have HD := Lib.hid hd
      clear hd
      go_wp2
      go_ret
      exact ⟨ret_int (by rw [HP.out, HD.out]; simp [pre]), rfl⟩

theorem enterNam (c : UInt8) (w : World) : (callFunc 93 #[.int .u8 c.toNat]).run Try.prog w = .ok (.enter 93 #[.int .u8 c.toNat]) w := by kernel_rfl
theorem enterDig (c : UInt8) (w : World) : (callFunc 94 #[.int .u8 c.toNat]).run Try.prog w = .ok (.enter 94 #[.int .u8 c.toNat]) w := by kernel_rfl
theorem enterStr (c : UInt8) (w : World) : (callFunc 81 #[.int .u8 c.toNat]).run Try.prog w = .ok (.enter 81 #[.int .u8 c.toNat]) w := by kernel_rfl

theorem prefix_nam (s : ByteArray) (hs : s.size ≤ maxLen) (w : World) :
    Calls Try.prog 80 #[.string s, .func (.func 93) #[] #[]] w fun e w' => e = .returned (.int .i64 (pre isNam s.data.toList)) ∧ w = w' := prefix_any isNam _ isNameByte_any enterNam s hs w
theorem prefix_dig (s : ByteArray) (hs : s.size ≤ maxLen) (w : World) :
    Calls Try.prog 80 #[.string s, .func (.func 94) #[] #[]] w fun e w' => e = .returned (.int .i64 (pre isDig s.data.toList)) ∧ w = w' := prefix_any isDig _ isDigit_any enterDig s hs w
theorem prefix_str (s : ByteArray) (hs : s.size ≤ maxLen) (w : World) :
    Calls Try.prog 80 #[.string s, .func (.func 81) #[] #[]] w fun e w' => e = .returned (.int .i64 (pre isStr s.data.toList)) ∧ w = w' := prefix_any isStr _ isStringByte_any enterStr s hs w

/-- three numbers handed back -/
def trip (x : Nat × Nat × Nat) : Ending := .returned (.tuple #[.int .i64 (x.1 : Nat), .int .i64 (x.2.1 : Nat), .int .i64 (x.2.2 : Nat)])
theorem trip_of {a b c : Int} {x : Nat × Nat × Nat} (h1 : a = x.1) (h2 : b = x.2.1) (h3 : c = x.2.2) : Ending.returned (.tuple #[.int .i64 a, .int .i64 b, .int .i64 c]) = trip x := by
  subst h1 h2 h3; rfl

theorem scanRun_nam (s : ByteArray) (hs : s.size ≤ maxLen) (w : World) :
    Calls Try.prog 92 #[.string s, .int .i64 1, .int .i64 20, .func (.func 93) #[] #[]] w fun e w' => e = trip (runS 1 20 isNam s.data.toList) ∧ w = w' := by
  by_cases h : 20 < pre isNam s.data.toList
  · have H := Lib.hid (show runS 1 20 isNam s.data.toList = (0, 0, 3) by unfold runS; rw [if_pos h])
    go_enter Try.func92, Try.ntmps92
    go_wp2_with (refine (prefix_nam _ hs _).mono ?_; rintro e w' ⟨rfl, rfl⟩)
    go_ret3
    exact ⟨trip_of (by rw [H.out]; rfl) (by rw [H.out]; rfl) (by rw [H.out]; rfl), rfl⟩
  · have H := Lib.hid (show runS 1 20 isNam s.data.toList = (1, pre isNam s.data.toList, 0) by unfold runS; rw [if_neg h])
    go_enter Try.func92, Try.ntmps92
    go_wp2_with (refine (prefix_nam _ hs _).mono ?_; rintro e w' ⟨rfl, rfl⟩)
    go_ret3
    exact ⟨trip_of (by rw [H.out]; rfl) (by rw [H.out]) (by rw [H.out]; rfl), rfl⟩
theorem scanRun_dig (s : ByteArray) (hs : s.size ≤ maxLen) (w : World) :
    Calls Try.prog 92 #[.string s, .int .i64 2, .int .i64 9, .func (.func 94) #[] #[]] w fun e w' => e = trip (runS 2 9 isDig s.data.toList) ∧ w = w' := by
  by_cases h : 9 < pre isDig s.data.toList
  · have H := Lib.hid (show runS 2 9 isDig s.data.toList = (0, 0, 3) by unfold runS; rw [if_pos h])
    go_enter Try.func92, Try.ntmps92
    go_wp2_with (refine (prefix_dig _ hs _).mono ?_; rintro e w' ⟨rfl, rfl⟩)
    go_ret3
    exact ⟨trip_of (by rw [H.out]; rfl) (by rw [H.out]; rfl) (by rw [H.out]; rfl), rfl⟩
  · have H := Lib.hid (show runS 2 9 isDig s.data.toList = (2, pre isDig s.data.toList, 0) by unfold runS; rw [if_neg h])
    go_enter Try.func92, Try.ntmps92
    go_wp2_with (refine (prefix_dig _ hs _).mono ?_; rintro e w' ⟨rfl, rfl⟩)
    go_ret3
    exact ⟨trip_of (by rw [H.out]; rfl) (by rw [H.out]) (by rw [H.out]; rfl), rfl⟩

theorem strS_end {r : List UInt8} (h : r.drop (pre isStr r) = []) : strS r = (0, 0, 2) := by unfold strS; rw [h]
theorem strS_bad {r x : List UInt8} {c : UInt8} (h : r.drop (pre isStr r) = c :: x) (hc : ¬ c.toNat = 34) : strS r = (0, 0, 2) := by unfold strS; rw [h]; simp [hc]
theorem strS_long {r x : List UInt8} {c : UInt8} (h : r.drop (pre isStr r) = c :: x) (hc : c.toNat = 34) (hl : 60 < pre isStr r) : strS r = (0, 0, 3) := by unfold strS; rw [h]; simp [hc, hl]
theorem strS_good {r x : List UInt8} {c : UInt8} (h : r.drop (pre isStr r) = c :: x) (hc : c.toNat = 34) (hl : ¬ 60 < pre isStr r) : strS r = (3, pre isStr r + 2, 0) := by unfold strS; rw [h]; simp [hc, hl]

set_option maxHeartbeats 400000 in
theorem scanString_any (s : ByteArray) (h0 : 0 < s.size) (hs : s.size ≤ maxLen) (w : World) :
    Calls Try.prog 95 #[.string s] w fun e w' => e = trip (strS (s.data.toList.drop 1)) ∧ w = w' := by
  have he := Lib.extract_to_end s 1
  have hz : (s.extract 1 s.size).size ≤ maxLen := by simp; omega
  have hle := pre_le isStr (s.data.toList.drop 1)
  have hlen : (s.data.toList.drop 1).length = s.size - 1 := by simp
  have hs' : s.size ≤ 9223372036854775807 := by unfold maxLen at hs; exact hs
  obtain ⟨n, hn⟩ : ∃ n, n = pre isStr (s.data.toList.drop 1) := ⟨_, rfl⟩
  have hb : n + 1 ≤ s.size := by omega
  have HC : ∀ w : World, Calls Try.prog 80 #[.string (s.extract 1 s.size), .func (.func 81) #[] #[]] w fun e w' => e = .returned (.int .i64 n) ∧ w = w' := by
    intro w; have := prefix_str (s.extract 1 s.size) hz w; rw [he, ← hn] at this; exact this
  have HN := Lib.hid hn
  have HC' := Lib.hid HC
  clear he hz hle hlen hn HC hs
  by_cases h1 : 1 + n = s.size
  · have H := Lib.hid (show strS (s.data.toList.drop 1) = (0, 0, 2) from strS_end (by rw [← HN.out, List.drop_drop]; exact List.drop_eq_nil_of_le (by simp; omega)))
    have t1 : ((1 + (n : Int)) == (s.size : Int)) = true := by simp; omega
    clear h1
    go_enter Try.func95, Try.ntmps95
    go_wp2_with (refine (HC'.out _).mono ?_; rintro e w' ⟨rfl, rfl⟩)
    go_ret3
    exact ⟨trip_of (by rw [H.out]; rfl) (by rw [H.out]; rfl) (by rw [H.out]; rfl), rfl⟩
  · have hlt : 1 + n < s.size := by omega
    have t1 : ((1 + (n : Int)) == (s.size : Int)) = false := by simp; omega
    have hd : (s.data.toList.drop 1).drop (pre isStr (s.data.toList.drop 1)) = s[1 + n] :: s.data.toList.drop (1 + n + 1) := by
      rw [← HN.out, List.drop_drop]; exact drop_cons s (1 + n) hlt
    by_cases hq : s[1 + n].toNat = 34
    · have t2 : ((s[1 + n].toNat : Int) != 34) = false := by simp; omega
      by_cases hl : 60 < n
      · have H := Lib.hid (show strS (s.data.toList.drop 1) = (0, 0, 3) from strS_long hd hq (by rw [← HN.out]; exact hl))
        clear hd hq h1
        go_enter Try.func95, Try.ntmps95
        go_wp2_with (refine (HC'.out _).mono ?_; rintro e w' ⟨rfl, rfl⟩)
        go_ret3
        exact ⟨trip_of (by rw [H.out]; rfl) (by rw [H.out]; rfl) (by rw [H.out]; rfl), rfl⟩
      · have H := Lib.hid (show strS (s.data.toList.drop 1) = (3, n + 2, 0) by rw [strS_good hd hq (by rw [← HN.out]; exact hl), ← HN.out])
        clear hd hq h1
        go_enter Try.func95, Try.ntmps95
        go_wp2_with (refine (HC'.out _).mono ?_; rintro e w' ⟨rfl, rfl⟩)
        go_ret3
        exact ⟨trip_of (by rw [H.out]; rfl) (by rw [H.out]; simp; omega) (by rw [H.out]; rfl), rfl⟩
    · have t2 : ((s[1 + n].toNat : Int) != 34) = true := by simp; omega
      have H := Lib.hid (show strS (s.data.toList.drop 1) = (0, 0, 2) from strS_bad hd hq)
      clear hd hq h1
      go_enter Try.func95, Try.ntmps95
      go_wp2_with (refine (HC'.out _).mono ?_; rintro e w' ⟨rfl, rfl⟩)
      go_ret3
      exact ⟨trip_of (by rw [H.out]; rfl) (by rw [H.out]; rfl) (by rw [H.out]; rfl), rfl⟩

end Go.Proofs.Ytgpcaofikmdpjaa
