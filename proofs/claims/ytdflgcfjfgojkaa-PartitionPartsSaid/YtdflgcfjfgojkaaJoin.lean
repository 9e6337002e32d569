/-
  Contracts of Join, Meet, Finer of the program.
-/
import Derived.Test.YtdflgcfjfgojkaaLists2
namespace Go.Proofs.Ytdflgcfjfgojkaa
open Go.RowKit

theorem merge_n (ys : List Nat) (g c base i k n : Nat) (w : World) (hn : n = ys.length) (hi : i < n) (hk : k < n) (hl : n ≤ 1000000) (hown : Own w base (.slice (some ⟨g, 0, none⟩) n c) ys) :
    Calls Try.prog 36 #[.slice (some ⟨g, 0, none⟩) n c, .int .i64 i, .int .i64 k] w fun e w' =>
      e = .returned (.tuple #[]) ∧ Own w' base (.slice (some ⟨g, 0, none⟩) n c) (mergeS ys i k) ∧ w.grownBy w' (some g) := by
  subst hn
  exact merge_any ys g c base i k w hi hk hl hown

/-- an error of Join, Meet: what is returned -/
def Err2 (n : Nat) (e : Ending) : Prop := e = .returned (.tuple #[.slice none 0 0, .int .i64 n])
/-- a list, made by the call, and no error -/
def Res2 (w w' : World) (R : List Nat) (e : Ending) : Prop := ∃ v, e = .returned (.tuple #[v, .int .i64 0]) ∧ Own w' w.heap.size v R ∧ Below w.heap.size w w'

theorem join_err (xs ys : List Int) (A A' : Option Addr) (c c' B B' : Nat) (w : World) (hx : xs.length ≤ maxLen) (hy : ys.length ≤ maxLen) (hA : Ints w B A xs) (hB : Ints w B' A' ys) (hE : bothS xs ys ≠ 0) :
    Calls Try.prog 20 #[.slice A xs.length c, .slice A' ys.length c'] w fun e w' => Err2 (bothS xs ys) e ∧ w = w' := by
  have HC := Lib.hid (checkBoth_any xs ys A A' c c' B B' w hx hy hA hB)
  have t : ((bothS xs ys : Int) != 0) = true := by simp; omega
  clear hA hB hx hy hE
  generalize bothS xs ys = n at t HC ⊢
  go_enter Try.func20, Try.ntmps20
  go_wp2_with fail
  refine HC.out.mono ?_
  rintro e w' ⟨rfl, rfl⟩
  go_wp2_with fail
  go_ret2
  exact ⟨rfl, rfl⟩

theorem meet_err (xs ys : List Int) (A A' : Option Addr) (c c' B B' : Nat) (w : World) (hx : xs.length ≤ maxLen) (hy : ys.length ≤ maxLen) (hA : Ints w B A xs) (hB : Ints w B' A' ys) (hE : bothS xs ys ≠ 0) :
    Calls Try.prog 22 #[.slice A xs.length c, .slice A' ys.length c'] w fun e w' => Err2 (bothS xs ys) e ∧ w = w' := by
  have HC := Lib.hid (checkBoth_any xs ys A A' c c' B B' w hx hy hA hB)
  have t : ((bothS xs ys : Int) != 0) = true := by simp; omega
  clear hA hB hx hy hE
  generalize bothS xs ys = n at t HC ⊢
  go_enter Try.func22, Try.ntmps22
  go_wp2_with fail
  refine HC.out.mono ?_
  rintro e w' ⟨rfl, rfl⟩
  go_wp2_with fail
  go_ret2
  exact ⟨rfl, rfl⟩

theorem finer_err (xs ys : List Int) (A A' : Option Addr) (c c' B B' : Nat) (w : World) (hx : xs.length ≤ maxLen) (hy : ys.length ≤ maxLen) (hA : Ints w B A xs) (hB : Ints w B' A' ys) (hE : bothS xs ys ≠ 0) :
    Calls Try.prog 24 #[.slice A xs.length c, .slice A' ys.length c'] w fun e w' => e = .returned (.bool false) ∧ w = w' := by
  have HC := Lib.hid (checkBoth_any xs ys A A' c c' B B' w hx hy hA hB)
  have t : ((bothS xs ys : Int) != 0) = true := by simp; omega
  clear hA hB hx hy hE
  generalize bothS xs ys = n at t HC
  go_enter Try.func24, Try.ntmps24
  go_wp2_with fail
  refine HC.out.mono ?_
  rintro e w' ⟨rfl, rfl⟩
  go_wp2_with fail
  go_ret
  exact ⟨rfl, rfl⟩

theorem both_ok {us vs : List Nat} (ha : V us) (hb : V vs) (hl : us.length = vs.length) (h80 : us.length ≤ 80) : bothS (toI us) (toI vs) = 0 := by
  unfold bothS
  rw [toI_length, toI_length, if_neg (by omega), valid_toI ha, valid_toI hb, if_neg (by simp), if_neg (by simpa using hl)]

theorem checkBoth_ok (us vs : List Nat) (A A' : Option Addr) (c c' B B' : Nat) (w : World) (ha : V us) (hb : V vs) (hl : us.length = vs.length) (h80 : us.length ≤ 80) (hA : Ints w B A (toI us)) (hB : Ints w B' A' (toI vs)) :
    Calls Try.prog 35 #[.slice A us.length c, .slice A' vs.length c'] w fun e w' => e = .returned (.int .i64 0) ∧ w = w' := by
  have := checkBoth_any (toI us) (toI vs) A A' c c' B B' w (by rw [toI_length]; unfold maxLen; omega) (by rw [toI_length]; unfold maxLen; omega) hA hB
  rw [both_ok ha hb hl h80, toI_length, toI_length] at this
  exact this

theorem clone_nat (ys : List Nat) (A : Option Addr) (B c : Nat) (w : World) (hl : ys.length ≤ 1000000) (hT : Ints w B A (toI ys)) :
    Calls Try.prog 12 #[.slice A ys.length c] w fun e w' => ∃ v, e = .returned v ∧ Own w' w.heap.size v ys ∧ Below w.heap.size w w' := by
  have := clone_any (toI ys) A B c w (by rw [toI_length]; exact hl) hT
  rw [toI_length] at this
  refine this.mono ?_
  rintro e w' ⟨v, rfl, h, hb⟩
  exact ⟨v, rfl, h.nat, hb⟩

theorem Own.slice_pos {w : World} {base : Nat} {v : Value} {ys : List Nat} (h : Own w base v ys) (hp : 0 < ys.length) : ∃ g c, v = .slice (some ⟨g, 0, none⟩) ys.length c ∧ base ≤ g := by
  rcases h.2 with ⟨_, hn⟩ | ⟨g, cap, cur, hv, hb, _⟩
  · omega
  · exact ⟨g, cap, hv, hb⟩

set_option maxHeartbeats 1000000 in
theorem join_ok (us vs : List Nat) (A A' : Option Addr) (c c' : Nat) (w : World) (ha : V us) (hb : V vs) (hl : us.length = vs.length) (h80 : us.length ≤ 80) (hA : Ints w w.heap.size A (toI us)) (hB : Ints w w.heap.size A' (toI vs)) :
    Calls Try.prog 20 #[.slice A us.length c, .slice A' vs.length c'] w fun e w' => Res2 w w' (joinS us vs) e := by
  have HC := Lib.hid (checkBoth_ok us vs A A' c c' _ _ w ha hb hl h80 hA hB)
  have HD := Lib.hid (clone_nat us A _ c w (by omega) hA)
  have HB := Lib.hid hB
  have HVA := Lib.hid ha
  have HVB := Lib.hid hb
  have HL := Lib.hid hl
  have h80' : vs.length ≤ 80 := by omega
  clear hA hB ha hb
  by_cases hz : vs.length = 0
  · have H0 := Lib.hid (show joinS us vs = us by unfold joinS; rw [hz]; rfl)
    have hz' : vs.length ≤ 0 := by omega
    clear hz hl
    go_enter Try.func20, Try.ntmps20
    go_wp2_with fail
    refine HC.out.mono ?_
    rintro e w' ⟨rfl, rfl⟩
    go_wp2_with fail
    refine HD.out.mono ?_
    rintro e w1 ⟨v, rfl, hown, hb1⟩
    go_wp2_with fail
    go_loopw [20] (fun x wr => x = .int .i64 0 ∧ wr = w1) (fun _ _ => 0)
    case atStart => exact ⟨rfl, rfl⟩
    case round =>
      obtain ⟨rfl, rfl⟩ := hrel
      go_wp2
      go_ret2
      exact ⟨v, rfl, by rw [H0.out]; exact hown, hb1⟩
  · have hpos : 0 < us.length := by omega
    have hle : us.length ≤ vs.length := by omega
    have hle' : vs.length ≤ us.length := by omega
    clear hz hl
    go_enter Try.func20, Try.ntmps20
    go_wp2_with fail
    refine HC.out.mono ?_
    rintro e w' ⟨rfl, rfl⟩
    go_wp2_with fail
    refine HD.out.mono ?_
    rintro e w1 ⟨v, rfl, hown, hb1⟩
    obtain ⟨g, cp, rfl, hg⟩ := hown.slice_pos hpos
    have HO := Lib.hid hown
    have HB1 := Lib.hid hb1
    clear hown hb1
    go_wp2_with fail
    go_loopw [20] (fun x wr => ∃ k : Nat, k ≤ vs.length ∧ x = .int .i64 k ∧ Own wr w.heap.size (.slice (some ⟨g, 0, none⟩) us.length cp) (merges us (pairsOf vs k)) ∧ Below w.heap.size w wr) (fun x _ => vs.length - (intOf x).toNat)
    case atStart => exact ⟨0, Nat.zero_le _, rfl, HO.out, HB1.out⟩
    case round =>
      obtain ⟨k, hk, rfl, hown, hbel⟩ := hrel
      have HW := Lib.hid hown
      have HG := Lib.hid hbel
      have hsz := hbel.size
      by_cases hlt : k < vs.length
      · obtain ⟨b, off, rfl, hb, hc⟩ := (HB.out.below hbel).atN hlt
        have ck := hc k hlt
        have hv := HVB.out.lt hlt
        have H2 := Lib.hid (show merges us (pairsOf vs (k + 1)) = mergeS (merges us (pairsOf vs k)) k (at_ vs k) by rw [pairsOf_succ, merges_append]; rfl)
        have HM := Lib.hid (fun w1 h => merge_n (merges us (pairsOf vs k)) g cp w.heap.size k (at_ vs k) us.length w1 (merges_length _ _).symm (by omega) (by omega) (by omega) h)
        clear hown hbel hc
        generalize at_ vs k = y at ck hv H2 HM
        go_wp2_with fail
        refine (HM.out _ HW.out).mono ?_
        rintro e w2 ⟨rfl, hown2, hgr2⟩
        have HW2 := Lib.hid hown2
        have HB2 := Lib.hid (HG.out.trans (grown_below hgr2 hg (by omega)))
        clear hown2 hgr2
        go_wp2_with fail
        go_roundw
        case rel => exact ⟨k + 1, by omega, by go_num, by rw [H2.out]; exact HW2.out, HB2.out⟩
        case measure => simp [intOf]; omega
      · have e : k = vs.length := by omega
        subst e
        clear hown hbel
        go_wp2
        go_ret2
        exact ⟨_, rfl, HW.out, HG.out⟩

end Go.Proofs.Ytdflgcfjfgojkaa
