/-
  Contracts of Quotient, program and reference.
-/
import Derived.Test.YtdflgcfjfgojkaaQuoP
import Derived.Test.YtdflgcfjfgojkaaRefAll
namespace Go.Proofs.Ytdflgcfjfgojkaa
open Go.RowKit

def Err3 (n : Nat) (e : Ending) : Prop := e = .returned (.tuple #[.slice none 0 0, .int .i64 0, .int .i64 n])
def Res3 (w w' : World) (R : List Nat) (n : Nat) (e : Ending) : Prop := ∃ v, e = .returned (.tuple #[v, .int .i64 n, .int .i64 0]) ∧ Own w' w.heap.size v R ∧ Below w.heap.size w w'

theorem check_ok {us : List Nat} (h : V us) (h80 : us.length ≤ 80) : checkS (toI us) = 0 := checkS_ok (by rw [toI_length]; exact h80) (valid_toI h)

theorem quo_err (xs : List Int) (A : Option Addr) (c B : Nat) (w : World) (hx : xs.length ≤ maxLen) (hA : Ints w B A xs) (hE : checkS xs ≠ 0) :
    Calls Try.prog 14 #[.slice A xs.length c] w fun e w' => Err3 (checkS xs) e ∧ w = w' := by
  have HC := Lib.hid (check_any xs A c B w hx hA)
  have t : ((checkS xs : Int) != 0) = true := by simp; omega
  clear hA hx hE
  generalize checkS xs = n at t HC ⊢
  go_enter Try.func14, Try.ntmps14
  go_wp2_with fail
  refine HC.out.mono ?_
  rintro e w' ⟨rfl, rfl⟩
  go_wp2_with fail
  go_ret3
  exact ⟨rfl, rfl⟩

theorem refQuo_err (xs : List Int) (A : Option Addr) (c : Nat) (w : World) (hx : xs.length ≤ maxLen) (hA : Ints w w.heap.size A xs) (hE : checkS xs ≠ 0) :
    Calls Try.prog 15 #[.slice A xs.length c] w fun e w' => Err3 (checkS xs) e ∧ Below w.heap.size w w' := by
  have HC := Lib.hid (one_any xs A c w hx hA)
  have t : ((checkS xs : Int) != 0) = true := by simp; omega
  clear hA hx hE
  generalize checkS xs = n at t HC ⊢
  go_enter Try.func15, Try.ntmps15
  go_wp2_with fail
  refine HC.out.mono ?_
  rintro e w' ⟨rfl, hb⟩
  go_wp2_with fail
  go_ret3
  exact ⟨rfl, hb⟩

set_option maxHeartbeats 2000000 in
theorem quo_ok (us : List Nat) (A : Option Addr) (c : Nat) (w : World) (hv : V us) (h80 : us.length ≤ 80) (hA : Ints w w.heap.size A (toI us)) :
    Calls Try.prog 14 #[.slice A us.length c] w fun e w' => Res3 w w' (quoS us) (rank us us.length) e := by
  have HC : Hid (Calls Try.prog 33 #[.slice A us.length c] w fun e w' => e = .returned (.int .i64 0) ∧ w = w') := by
    have := check_any (toI us) A c _ w (by rw [toI_length]; unfold maxLen; omega) hA
    rw [check_ok hv h80, toI_length] at this
    exact this
  have HA := Lib.hid hA
  have HV := Lib.hid hv
  clear hA hv
  go_enter Try.func14, Try.ntmps14
  go_wp2_with fail
  refine HC.out.mono ?_
  rintro e w' ⟨rfl, rfl⟩
  go_wp2_with (at_make; refine wpList_make_ints rfl _ _ rfl w.heap.size us.length rfl rfl (by omega) (Nat.le_refl _) ?_; intro w1 hown hb hsz)
  have HO := Lib.hid hown
  have HB := Lib.hid hb
  clear hown hb
  go_wp2_with fail
  go_loopw [7, 20] (fun m x wr => ∃ k : Nat, k ≤ us.length ∧ x = .int .i64 k ∧ m = .int .i64 (rank us k : Nat) ∧ Own wr w.heap.size (.slice (some ⟨w.heap.size, 0, none⟩) us.length us.length) (quoTo us k) ∧ Below w.heap.size w wr) (fun _ x _ => us.length - (intOf x).toNat)
  case atStart => exact ⟨0, Nat.zero_le _, rfl, rfl, by rw [quoTo_zero]; exact HO.out, HB.out⟩
  case round =>
    obtain ⟨k, hk, rfl, rfl, hown, hbel⟩ := hrel
    by_cases hlt : k < us.length
    · obtain ⟨b, off, rfl, hb, hc⟩ := (HA.out.below hbel).atN hlt
      have hln := quoTo_length (p := us) hk
      have ck := hc k hlt
      have fk := World.ownsRow.frozenAt (g := w.heap.size) (cap := us.length) (n := us.length) (by have := hown; unfold Own at this; rw [hln] at this; exact this) k
      have hcell : ∀ j, j < us.length → wr.cell? ⟨w.heap.size, j, none⟩ = some (.int .i64 (at_ (quoTo us k) j : Nat)) := fun j hj => Own.cell (c := us.length) (by rw [hln]; exact hown) (by rw [hln]; exact hj)
      have gk := hcell k hlt
      have HLN := Lib.hid hln
      have HW := Lib.hid hown
      have HG := Lib.hid hbel
      have hrk := rank_le us k
      have hle := HV.out.le hlt
      have HS := Lib.hid (quoTo_set (p := us) hlt)
      by_cases he : at_ us k = k
      · have HR := Lib.hid (rank_yes he)
        rw [he] at ck HS
        clear he hown hbel hc hln hcell
        generalize rank us k = m at hrk HR HS ⊢
        have t1 : ((k : Int) == (k : Int)) = true := by simp
        go_wp2_with fail
        go_roundw
        case rel => exact ⟨k + 1, by omega, by go_num, by rw [HR.out]; go_num, by
          have := (Own.set (g := w.heap.size) (c := us.length) (m := m) HLN.out.symm HW.out k).1
          rw [HS.out] at this
          exact this, HG.out.setCell (p := ⟨w.heap.size, k, none⟩) (Nat.le_refl _) _⟩
        case measure => simp [intOf]; omega
      · have HR := Lib.hid (rank_no he)
        have gl := hcell (at_ us k) (by omega)
        have hq := quoTo_at (p := us) (i := at_ us k) (k := k) (by omega) hk
        rw [HV.out.idem hlt] at hq
        rw [hq] at gl
        have t1 : ((at_ us k : Int) == (k : Int)) = false := by simp; omega
        have hlk : at_ us k < k := by omega
        clear he hown hbel hc hln hcell hq
        generalize rank us (at_ us k) = m at HS gl
        generalize at_ us k = y at ck gl t1 hle hlk
        go_wp2_with fail
        go_roundw
        case rel => exact ⟨k + 1, by omega, by go_num, by rw [HR.out], by
          have := (Own.set (g := w.heap.size) (c := us.length) (m := m) HLN.out.symm HW.out k).1
          rw [HS.out] at this
          exact this, HG.out.setCell (p := ⟨w.heap.size, k, none⟩) (Nat.le_refl _) _⟩
        case measure => simp [intOf]; omega
    · have e : k = us.length := by omega
      subst e
      have HT := Lib.hid (quoTo_all us)
      have HW := Lib.hid hown
      clear hown
      go_wp2
      go_ret3
      exact ⟨_, rfl, Own.cast HT.out HW.out, hbel⟩

set_option maxHeartbeats 2000000 in
theorem refQuo_ok (us : List Nat) (A : Option Addr) (c : Nat) (w : World) (hv : V us) (h80 : us.length ≤ 80) (hA : Ints w w.heap.size A (toI us)) :
    Calls Try.prog 15 #[.slice A us.length c] w fun e w' => Res3 w w' (quoS us) (rank us us.length) e := by
  have HC : Hid (Calls Try.prog 32 #[.slice A us.length c] w fun e w' => e = .returned (.int .i64 0) ∧ Below w.heap.size w w') := by
    have := one_any (toI us) A c w (by rw [toI_length]; unfold maxLen; omega) hA
    rw [check_ok hv h80, toI_length] at this
    exact this
  have HA := Lib.hid hA
  have HV := Lib.hid hv
  clear hA hv
  go_enter Try.func15, Try.ntmps15
  go_wp2_with fail
  refine HC.out.mono ?_
  rintro e w0 ⟨rfl, hb0⟩
  have HB := Lib.hid hb0
  clear hb0
  go_wp2_with fail
  go_loopw [6, 7, 8] (fun v m x wr => ∃ k : Nat, k ≤ us.length ∧ x = .int .i64 k ∧ m = .int .i64 (rank us k : Nat) ∧ Own wr w.heap.size v ((quoS us).take k) ∧ Below w.heap.size w wr) (fun _ _ x _ => us.length - (intOf x).toNat)
  case atStart => exact ⟨0, Nat.zero_le _, rfl, rfl, World.ownsRow_nil _ _ _ _, HB.out⟩
  case round =>
    obtain ⟨k, hk, rfl, rfl, hown, hbel⟩ := hrel
    have hsz := hbel.size
    have hlen : ((quoS us).take k).length = k := by rw [List.length_take, quoS_length]; omega
    by_cases hlt : k < us.length
    · obtain ⟨b, off, rfl, hb, hc⟩ := (HA.out.below hbel).atN hlt
      have ck := hc k hlt
      have HLN := Lib.hid hlen
      have hlen1 : ((quoS us).take k).length ≤ 80 := by omega
      have HW := Lib.hid hown
      have HG := Lib.hid hbel
      have hrk := rank_le us k
      have hle := HV.out.le hlt
      have HS := Lib.hid (quoS_take (p := us) hlt)
      by_cases he : at_ us k = k
      · have HR := Lib.hid (rank_yes he)
        obtain ⟨ao, cap, rfl⟩ := slice_of hown
        rw [he] at ck HS
        clear he hown hbel hc hlen
        generalize rank us k = m at hrk HR HS ⊢
        generalize (quoS us).take k = qs at HLN hlen1 HW HS
        have t1 : ((k : Int) == (k : Int)) = true := by simp
        go_wp2_with (at_builtin; refine wpList_append_int (w := wr.alloc _) rfl _ _ rfl w.heap.size _ qs rfl ?y1 ⟨wr.heap.size, 0, none⟩ 1 m rfl ?y2 ?y3 ?y4 ?_)
        case y1 => exact World.ownsRow.alloc HW.out _
        case y2 => exact cell_new _ _ _
        case y3 => omega
        case y4 => simp; omega
        intro v2 w2 hown2 _ hb2
        have HW2 := Lib.hid hown2
        have HB2 := Lib.hid ((HG.out.alloc hsz _).trans hb2)
        clear hown2 hb2
        go_wp2_with fail
        go_roundw
        case rel => exact ⟨k + 1, by omega, by go_num, by rw [HR.out]; go_num, Own.cast HS.out.symm HW2.out, HB2.out⟩
        case measure => simp [intOf]; omega
      · have HR := Lib.hid (rank_no he)
        have hlk : at_ us k < k := by omega
        obtain ⟨g, cp, hv2, hg⟩ := hown.slice_pos (by omega)
        subst hv2
        have gl : wr.cell? ⟨g, at_ us k, none⟩ = some (.int .i64 (at_ ((quoS us).take k) (at_ us k) : Nat)) := Own.cell hown (by omega)
        have hq : at_ ((quoS us).take k) (at_ us k) = rank us (at_ us k) := by
          have := quoS_at (p := us) (i := at_ us k) (by omega)
          rw [HV.out.idem hlt] at this
          rw [← this]
          exact at_take hlk
        rw [hq] at gl
        have t1 : ((at_ us k : Int) == (k : Int)) = false := by simp; omega
        have hl1 : at_ us k < ((quoS us).take k).length := by omega
        clear he hown hbel hc hlen hq
        generalize rank us (at_ us k) = m at HS gl
        generalize at_ us k = y at ck gl t1 hle hlk hl1
        generalize (quoS us).take k = qs at HLN hlen1 HW HS hl1
        go_wp2_with (at_builtin; refine wpList_append_int (w := wr.alloc _) rfl _ _ rfl w.heap.size _ qs rfl ?y1 ⟨wr.heap.size, 0, none⟩ 1 m rfl ?y2 ?y3 ?y4 ?_)
        case y1 => exact World.ownsRow.alloc HW.out _
        case y2 => exact cell_new _ _ _
        case y3 => omega
        case y4 => simp; omega
        intro v2 w2 hown2 _ hb2
        have HW2 := Lib.hid hown2
        have HB2 := Lib.hid ((HG.out.alloc hsz _).trans hb2)
        clear hown2 hb2
        go_wp2_with fail
        go_roundw
        case rel => exact ⟨k + 1, by omega, by go_num, by rw [HR.out], Own.cast HS.out.symm HW2.out, HB2.out⟩
        case measure => simp [intOf]; omega
    · have e : k = us.length := by omega
      subst e
      have HT := Lib.hid (show (quoS us).take us.length = quoS us from List.take_of_length_le (by rw [quoS_length]; exact Nat.le_refl _))
      have HW := Lib.hid hown
      obtain ⟨ao, cap, rfl⟩ := slice_of hown
      clear hown hlen
      go_wp2
      go_ret3
      exact ⟨_, rfl, Own.cast HT.out HW.out, hbel⟩

end Go.Proofs.Ytdflgcfjfgojkaa
