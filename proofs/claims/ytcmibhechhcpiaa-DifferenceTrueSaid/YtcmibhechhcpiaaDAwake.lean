/-
  Difference: the law's example and awake.
-/
import Derived.Test.YtcmibhechhcpiaaDPc
namespace Go.Proofs.Ytcmibhechhcpiaa
open Go.RowKit

def exT : List Tst := [⟨1, 0, 2, 1, 0⟩, ⟨1, 1, 0, -1, 5⟩, ⟨1, -1, 4, 0, 0⟩]
def exI : Tst := ⟨1, 0, 0, -1, 3⟩
def exU : List (Int × Int) := [(0, 1), (1, 1), (2, 1)]
instance (n : Nat) (l : List Arc) (k : Nat) : Decidable (hasNeg n l k) := inferInstanceAs (Decidable (∃ i, i ≤ n ∧ sumK l k i i < 0))
instance (n : Int) (x : Tst) : Decidable (Good n x) := inferInstanceAs (Decidable (_ ∧ _ ∧ _))

theorem ex_good : ∀ x ∈ exT, Good 2 x := by decide +kernel
theorem ex_good2 : ∀ x ∈ exT.take 2, Good 2 x := by decide +kernel
theorem ex_good3 : ∀ x ∈ [exI], Good 2 x := by decide +kernel
theorem ex_64 : ∀ x ∈ exT, T64 x := by intro x hx; simp [exT] at hx; rcases hx with rfl | rfl | rfl <;> (unfold T64; dsimp only; omega)
theorem ex_642 : ∀ x ∈ exT.take 2, T64 x := fun x hx => ex_64 x (List.mem_of_mem_take hx)
theorem ex_643 : T64 exI := by unfold T64 exI; dsimp only; omega
theorem ex_solE : solE 2 (exT.take 2) = 0 := by decide +kernel
theorem ex_solR : solR 2 (exT.take 2) = [-2, 0] := by decide +kernel
theorem ex_impE : impE 2 (exT.take 2) exI = 0 := by decide +kernel
theorem ex_refE : refE 2 exT = 0 := by decide +kernel
theorem ex_imp {b : Bool} (h : ImpIs 2 (exT.take 2) exI b) : b = true := by
  refine (h.1 (by decide +kernel)).2 ?_
  exact (impl_iff (n := 2) (arcs_in ex_good2) (by omega) (arcs_small ex_good2) (arcs_small ex_good3) (by decide +kernel)).1 (by decide +kernel)
theorem ex_ref {R : List (Int × Int)} (h : RefIs 2 exT R) : R = exU := by
  obtain ⟨r, h1, rfl, _⟩ := h.1 (by decide +kernel)
  have h2 := (walk_std (n := 2) (k := 2) (arcs_in ex_good) (arcs_small ex_good) (sorted_arcs exT 3) (by omega) (by decide +kernel) (by decide +kernel)).1
  rw [std_unique (sorted_arcs exT 3) h1 h2]
  decide +kernel

theorem example_any (w : World) : Calls Try.prog 39 #[] w fun e w' => ∃ b, e = .returned (.slice (some ⟨b, 0, none⟩) 3 3) ∧ Tsts w' w'.heap.size (some ⟨b, 0, none⟩) exT ∧ Below w.heap.size w w' := by
  go_enter Try.func39, Try.ntmps39
  go_wp2_with fail
  go_ret
  refine ⟨_, rfl, ?_, (Below.refl _ _).alloc (Nat.le_refl _) _⟩
  exact (OwnE.lit (E := ETst) (base := 0) (t := 32) (xs := exT) (n := 3) (heap_alloc_new _ _) rfl (Nat.zero_le _) rfl (by omega)).read

set_option maxRecDepth 100000 in
set_option maxHeartbeats 4000000 in
theorem awake_any (hp : PC) (w : World) : Calls Try.prog 12 #[] w fun e w' => e = .returned (.bool true) ∧ Below w.heap.size w w' := by
  have HS : Hid (∀ (A : Option Addr) (c : Nat) (u : World), Tsts u u.heap.size A (exT.take 2) → Calls Try.prog 13 #[.int .i64 2, .slice A 2 c] u fun e w' => ∃ A' c', e = .returned (.tuple #[.slice A' 2 c', .int .i64 0]) ∧ Ints w' w'.heap.size A' [-2, 0] ∧ Below u.heap.size u w') := Lib.hid fun A c u hu => by
    have := hp.sol 2 (exT.take 2) A c u (by omega) ex_642 (by simp [exT]) hu
    rw [ex_solE, ex_solR] at this
    exact this
  have HI : Hid (∀ (A : Option Addr) (c : Nat) (u : World), Tsts u u.heap.size A (exT.take 2) → Calls Try.prog 32 #[.int .i64 2, .slice A 2 c, .agg #[.int .i64 1, .int .i64 0, .int .i64 0, .int .i64 (-1), .int .i64 3]] u fun e w' => e = .returned (.tuple #[.bool true, .int .i64 0]) ∧ Below u.heap.size u w') := Lib.hid fun A c u hu => by
    have := hp.imp 2 (exT.take 2) A c exI u (by omega) ex_642 ex_643 (by simp [exT]) hu
    rw [ex_impE] at this
    refine this.mono ?_
    rintro e w' ⟨b, hb, rfl, hB⟩
    rw [ex_imp hb]
    exact ⟨rfl, hB⟩
  have HR : Hid (∀ (A : Option Addr) (c : Nat) (u : World), Tsts u u.heap.size A exT → Calls Try.prog 22 #[.int .i64 2, .slice A 3 c] u fun e w' => ∃ A' c', e = .returned (.tuple #[.slice A' 3 c', .int .i64 0]) ∧ Uses w' w'.heap.size A' exU ∧ Below u.heap.size u w') := Lib.hid fun A c u hu => by
    have := hp.ref 2 exT A c u (by omega) ex_64 (by simp [exT]) hu
    rw [ex_refE] at this
    refine this.mono ?_
    rintro e w' ⟨R, A', c', hR, rfl, hT, hB⟩
    have e1 := ex_ref hR
    subst e1
    exact ⟨A', c', rfl, hT, hB⟩
  have HE : Hid (∀ (A A' : Option Addr) (c c' : Nat) (u : World), Ints u u.heap.size A [-2, 0] → Ints u u.heap.size A' [-2, 0] → Calls Try.prog 18 #[.slice A 2 c, .slice A' 2 c'] u fun e w' => e = .returned (.bool true) ∧ Below u.heap.size u w') := Lib.hid fun A A' c c' u h1 h2 =>
    equal_any [-2, 0] [-2, 0] A A' _ _ c c' u (by simp [maxLen]) h1 h2
  have HU : Hid (∀ (A A' : Option Addr) (c c' : Nat) (u : World), Uses u u.heap.size A exU → Uses u u.heap.size A' exU → Calls Try.prog 24 #[.slice A 3 c, .slice A' 3 c'] u fun e w' => e = .returned (.bool true) ∧ Below u.heap.size u w') := Lib.hid fun A A' c c' u h1 h2 =>
    sameUses_any exU exU A A' _ _ c c' u (by simp [exU, maxLen]) h1 h2
  go_enter Try.func12, Try.ntmps12
  go_wp2_with fail
  refine (example_any _).mono ?_
  rintro e w1 ⟨b1, rfl, hT1, hb1⟩
  have HT1 := Lib.hid hT1
  have HB1 := Lib.hid hb1
  clear hT1 hb1
  go_wp2_with fail
  refine (HS.out _ _ _ (HT1.out.take 2)).mono ?_
  rintro e w2 ⟨A2, c2, rfl, hv, hb2⟩
  have HT2 := Lib.hid (HT1.out.up hb2)
  have HV2 := Lib.hid hv
  have HB2 := Lib.hid (HB1.out.trans (hb2.mono HB1.out.size))
  clear hv hb2 HT1 HB1 HS
  go_wp2_with fail
  refine (HI.out _ _ _ (HT2.out.take 2)).mono ?_
  rintro e w3 ⟨rfl, hb3⟩
  have HT3 := Lib.hid (HT2.out.up hb3)
  have HV3 := Lib.hid (HV2.out.up hb3)
  have HB3 := Lib.hid (HB2.out.trans (hb3.mono HB2.out.size))
  clear hb3 HT2 HB2 HV2 HI
  go_wp2_with fail
  refine (HR.out _ _ _ HT3.out).mono ?_
  rintro e w4 ⟨A4, c4, rfl, hr, hb4⟩
  have HR4 := Lib.hid hr
  have HV4 := Lib.hid (HV3.out.up hb4)
  have HB4 := Lib.hid (HB3.out.trans (hb4.mono HB3.out.size))
  clear hr hb4 HT3 HB3 HV3 HR
  go_wp2_with fail
  refine (HE.out _ _ _ _ _ (HV4.out.up ((Below.refl _ w4).alloc (Nat.le_refl _) _)) ?h1).mono ?_
  case h1 => exact (OwnE.lit (E := EInt) (base := 0) (t := 3) (xs := [-2, 0]) (n := 2) (heap_alloc_new _ _) rfl (Nat.zero_le _) rfl (by omega)).read
  rintro e w5 ⟨rfl, hb5⟩
  have HR5 := Lib.hid ((HR4.out.up ((Below.refl _ w4).alloc (Nat.le_refl _) _)).up hb5)
  have HB5 := Lib.hid ((HB4.out.alloc HB4.out.size _).trans (hb5.mono (by have := HB4.out.size; simp; omega)))
  clear hb5 HR4 HB4 HV4 HE
  go_wp2_with fail
  refine (HU.out _ _ _ _ _ (HR5.out.up ((Below.refl _ w5).alloc (Nat.le_refl _) _)) ?h2).mono ?_
  case h2 => exact (OwnE.lit (E := EUse) (base := 0) (t := 46) (xs := exU) (n := 3) (heap_alloc_new _ _) rfl (Nat.zero_le _) rfl (by omega)).read
  rintro e w6 ⟨rfl, hb6⟩
  go_wp2_with fail
  go_ret
  exact ⟨rfl, (HB5.out.alloc HB5.out.size _).trans (hb6.mono (by have := HB5.out.size; simp; omega))⟩

end Go.Proofs.Ytcmibhechhcpiaa
