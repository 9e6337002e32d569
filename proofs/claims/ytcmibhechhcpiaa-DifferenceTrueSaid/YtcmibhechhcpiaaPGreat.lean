/-
  Difference, the program: greatest.
-/
import Derived.Test.YtcmibhechhcpiaaPLow
import Derived.Test.YtcmibhechhcpiaaMatr
namespace Go.Proofs.Ytcmibhechhcpiaa
open Go.RowKit

/-- what greatest answers -/
def GreatEnd (n : Nat) (l : List Arc) (base : Nat) (e : Ending) (w' : World) : Prop :=
  (OkB n l ∧ ∃ g cc, e = .returned (.tuple #[.slice (some ⟨g, 0, none⟩) (n + 1) cc, .bool true]) ∧ OwnI w' base (.slice (some ⟨g, 0, none⟩) (n + 1) cc) (rowI (n + 1) (std n l))) ∨
  (¬ OkB n l ∧ e = .returned (.tuple #[.slice none 0 0, .bool false]))

set_option maxRecDepth 100000 in
set_option maxHeartbeats 2000000 in
theorem greatest_any (n : Nat) (l : List Arc) (A : Option Addr) (c : Nat) (w : World) (hn : n ≤ 12) (hl : l.length ≤ 100) (hin : inN n l) (hsm : Small l) (hA : Reads EArc w w.heap.size A l) :
    Calls Try.prog 40 #[.int .i64 n, .slice A l.length c] w fun e w' => GreatEnd n l w.heap.size e w' ∧ Below w.heap.size w w' := by
  have HA := Lib.hid hA
  have HG := Lib.hid (fun k h => great_of_same hin hn hsm (k := k) h)
  have HS := Lib.hid (fun h => same_of_ok hin hn hsm h)
  have HC : Hid (∀ (k : Nat) (u : World), k ≤ n → Below w.heap.size w u → OwnI u w.heap.size (.slice (some ⟨w.heap.size, 0, none⟩) (n + 1) (n + 1)) (rowI (n + 1) (roundK l k)) →
      Calls Try.prog 60 #[.slice (some ⟨w.heap.size, 0, none⟩) (n + 1) (n + 1), .slice A l.length c] u fun e w' => e = .returned (.bool (changes (roundK l k) l)) ∧ OwnI w' w.heap.size (.slice (some ⟨w.heap.size, 0, none⟩) (n + 1) (n + 1)) (rowI (n + 1) (lows (roundK l k) l)) ∧ Below w.heap.size u w') :=
    Lib.hid fun k u hk hu ho => lower_any (n + 1) l A c w.heap.size (n + 1) w.heap.size (roundK l k) u (by omega) (fun a ha => by have := hin a ha; omega) hsm (fun i => by have := roundK_low hsm hl k i; omega) (fun i => roundK_le l k i) (hA.below hu) hu.size ho
  clear hA hin hsm
  go_enter Try.func40, Try.ntmps40
  go_wp2_with (at_make; refine wpList_make_I rfl _ _ rfl w.heap.size (n + 1) ((n : Int) + 1) (by omega) rfl rfl (by omega) (Nat.le_refl _) ?_; intro w1 hown hb hsz)
  have HO := Lib.hid hown
  have HB := Lib.hid hb
  clear hown hb hsz
  go_wp2_with fail
  go_loopw [12] (fun i wr => ∃ k : Nat, k ≤ n + 1 ∧ i = .int .i64 k ∧ OwnI wr w.heap.size (.slice (some ⟨w.heap.size, 0, none⟩) (n + 1) (n + 1)) (rowI (n + 1) (roundK l k)) ∧ Below w.heap.size w wr ∧ (∀ j, j < k → changes (roundK l j) l = true)) (fun i _ => n + 1 - (intOf i).toNat)
  case atStart => exact ⟨0, Nat.zero_le _, rfl, HO.out, HB.out, fun j hj => by omega⟩
  case round =>
    obtain ⟨k, hk, rfl, hown, hbr, hch⟩ := hrel
    have HCH := Lib.hid hch
    have HB1 := Lib.hid hbr
    by_cases hlt : k < n + 1
    · have HC1 := Lib.hid (HC.out k wr (by omega) hbr hown)
      have t1 : decide ((k : Int) < (n : Int) + 1) = true := decide_eq_true (by omega)
      clear hown hbr hch
      cases hx : changes (roundK l k) l with
      | true =>
        rw [hx] at HC1
        have HX := Lib.hid hx
        clear hx
        go_wp2_with fail
        refine HC1.out.mono ?_
        rintro e w2 ⟨rfl, hown2, hb2⟩
        have HO2 := Lib.hid hown2
        have HB2 := Lib.hid (HB1.out.trans hb2)
        clear hown2 hb2
        go_wp2_with fail
        go_roundw
        case rel => exact ⟨k + 1, by omega, by go_num, HO2.out, HB2.out, fun j hj => by
          rcases Nat.lt_or_ge j k with h | h
          · exact HCH.out j h
          · rw [show j = k by omega]; exact HX.out⟩
        case measure => simp [intOf]; omega
      | false =>
        rw [hx] at HC1
        have HGK := Lib.hid (HG.out k hx)
        clear hx
        go_wp2_with fail
        refine HC1.out.mono ?_
        rintro e w2 ⟨rfl, hown2, hb2⟩
        have HO2 := Lib.hid hown2
        have HB2 := Lib.hid (HB1.out.trans hb2)
        clear hown2 hb2
        go_wp2_with fail
        go_ret2
        refine ⟨.inl ⟨HGK.out.1, w.heap.size, n + 1, rfl, ?_⟩, HB2.out⟩
        have h1 := HO2.out
        rw [HGK.out.2.1, rowI_ext (g := std n l) (fun i hi => HGK.out.2.2 i (by omega))] at h1
        exact h1
    · have t1 : decide ((k : Int) < (n : Int) + 1) = false := decide_eq_false (by omega)
      have HNO : Hid (¬ OkB n l) := Lib.hid fun h => by
        have h1 := HS.out h
        rw [hch n (by omega)] at h1
        cases h1
      clear hown hbr hch
      go_wp2_with fail
      go_ret2
      exact ⟨.inr ⟨HNO.out, rfl⟩, HB1.out⟩

end Go.Proofs.Ytcmibhechhcpiaa
