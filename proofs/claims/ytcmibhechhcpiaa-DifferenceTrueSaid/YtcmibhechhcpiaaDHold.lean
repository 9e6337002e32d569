/-
  Difference: Holds of the reference, at numbers that are not too large.
-/
import Derived.Test.YtcmibhechhcpiaaDEq
namespace Go.Proofs.Ytcmibhechhcpiaa
open Go.RowKit

def valS (v a : Int) (vs : List Int) : Option Int := if v = -1 then some a else if v < 0 ∨ (vs.length : Int) ≤ v then none else some (vs.getD v.toNat 0 + a)
def relS (k : Int) : Option Int → Option Int → Bool
  | some a, some b => (decide (k = 1) && decide (a ≤ b)) || (decide (k = 2) && decide (a = b))
  | _, _ => false
def holdsS (x : Tst) (vs : List Int) : Bool := relS x.k (valS x.lv x.la vs) (valS x.rv x.ra vs)
/-- not too large -/
def Fit (a : Int) : Prop := -4398046511104 ≤ a ∧ a ≤ 4398046511104

set_option maxHeartbeats 1000000 in
theorem value_any (v a : Int) (vs : List Int) (A : Option Addr) (B c : Nat) (w : World) (ha : Fit a) (hv : ∀ y ∈ vs, Fit y) (hB : B ≤ w.heap.size) (hT : Ints w B A vs) :
    Calls Try.prog 57 #[.agg #[.int .i64 v, .int .i64 a], .slice A vs.length c] w fun e w' => e = .returned (.tuple #[.int .i64 ((valS v a vs).getD 0), .bool (valS v a vs).isSome]) ∧ Below w.heap.size w w' := by
  by_cases h1 : v = -1
  · have H := Lib.hid (show valS v a vs = some a by unfold valS; rw [if_pos h1])
    subst h1
    clear hT hv
    go_enter Try.func57, Try.ntmps57
    go_wp2_with fail
    go_ret2
    exact ⟨by rw [H.out]; rfl, (Below.refl _ _).alloc (Nat.le_refl _) _⟩
  · have t1 : (v == -1) = false := by simp [h1]
    by_cases h2 : v < 0
    · have H := Lib.hid (show valS v a vs = none by unfold valS; rw [if_neg h1, if_pos (.inl h2)])
      have t2 : decide (v < 0) = true := decide_eq_true h2
      clear hT hv h1
      go_enter Try.func57, Try.ntmps57
      go_wp2_with fail
      go_ret2
      exact ⟨by rw [H.out]; rfl, (Below.refl _ _).alloc (Nat.le_refl _) _⟩
    · have t2 : decide (v < 0) = false := decide_eq_false h2
      by_cases h3 : (vs.length : Int) ≤ v
      · have H := Lib.hid (show valS v a vs = none by unfold valS; rw [if_neg h1, if_pos (.inr h3)])
        have t3 : decide ((vs.length : Int) ≤ v) = true := decide_eq_true h3
        clear hT hv h1
        go_enter Try.func57, Try.ntmps57
        go_wp2_with fail
        go_ret2
        exact ⟨by rw [H.out]; rfl, (Below.refl _ _).alloc (Nat.le_refl _) _⟩
      · have t3 : decide ((vs.length : Int) ≤ v) = false := decide_eq_false h3
        have H := Lib.hid (show valS v a vs = some (vs.getD v.toNat 0 + a) by unfold valS; rw [if_neg h1, if_neg (by omega)])
        obtain ⟨k, rfl⟩ : ∃ k : Nat, v = k := ⟨v.toNat, by omega⟩
        have hk : k < vs.length := by omega
        obtain ⟨b, off, rfl, hb, hc⟩ := Ints.cells hT hk
        have hx := hc k hk
        have hf : Fit (vs.getD k 0) := hv _ (by rw [List.getD_eq_getElem?_getD, List.getElem?_eq_getElem hk]; simp)
        rw [Int.toNat_natCast] at H
        have hx' : ∀ o, (w.alloc o).cell? ⟨b, off + k, none⟩ = some (.int .i64 (vs.getD k 0)) := fun o => (World.cell?_alloc_lt w o _ (show b < w.heap.size by omega)).trans hx
        have HX := Lib.hid hx'
        have hxo := HX.out (.cells #[.int .i64 k, .int .i64 a] 30 (0, 0))
        obtain ⟨f1, f2⟩ := hf
        obtain ⟨f3, f4⟩ := ha
        generalize vs.getD k 0 = y at hxo f1 f2 H
        clear hT hv hc hx hx' HX h1
        have q0 : (0 : Int) ≤ (k : Int) := by omega
        have q1 : (k : Int) < (vs.length : Int) := by omega
        have q2 : ((k : Int)).toNat = k := by omega
        go_enter Try.func57, Try.ntmps57
        go_wp2_with fail
        go_region
        go_wp2_with fail
        go_ret2
        exact ⟨by rw [H.out]; rfl, Below.drew ((Below.refl _ _).alloc (Nat.le_refl _) _)⟩

set_option maxRecDepth 100000 in
set_option maxHeartbeats 2000000 in
theorem holds_any (x : Tst) (vs : List Int) (A : Option Addr) (c : Nat) (w : World) (h1 : Fit x.la) (h2 : Fit x.ra) (hv : ∀ y ∈ vs, Fit y) (hT : Ints w w.heap.size A vs) :
    Calls Try.prog 31 #[tval x, .slice A vs.length c] w fun e w' => e = .returned (.bool (holdsS x vs)) ∧ Below w.heap.size w w' := by
  have HC1 := Lib.hid (fun u hB hT => value_any x.lv x.la vs A w.heap.size c u h1 hv hB hT)
  have HC2 := Lib.hid (fun u hB hT => value_any x.rv x.ra vs A w.heap.size c u h2 hv hB hT)
  have HT := Lib.hid hT
  have HD := Lib.hid (show holdsS x vs = relS x.k (valS x.lv x.la vs) (valS x.rv x.ra vs) from rfl)
  obtain ⟨k, lv, la, rv, ra⟩ := x
  dsimp only at HC1 HC2 HD
  clear hT h1 h2
  generalize holdsS ⟨k, lv, la, rv, ra⟩ vs = R at HD ⊢
  generalize valS lv la vs = o1 at HC1 HD
  generalize valS rv ra vs = o2 at HC2 HD
  go_enter Try.func31, Try.ntmps31
  have HB0 := Lib.hid (fun (o : Obj) => (Below.refl w.heap.size w).alloc (Nat.le_refl _) o)
  go_wp2_with fail
  refine (HC1.out _ (by simp) (Reads.below HT.out (HB0.out _))).mono ?_
  rintro e w1 ⟨rfl, hb1⟩
  have hb1' := below_one hb1
  have k0 := (hb1'.cell (p := ⟨w.heap.size, 0, none⟩) (by simp)).trans (show _ = some (Value.int .i64 k) from by simp)
  have k3 := (hb1'.cell (p := ⟨w.heap.size, 3, none⟩) (by simp)).trans (show _ = some (Value.int .i64 rv) from by simp)
  have k4 := (hb1'.cell (p := ⟨w.heap.size, 4, none⟩) (by simp)).trans (show _ = some (Value.int .i64 ra) from by simp)
  have HB1 := Lib.hid ((HB0.out _).trans (hb1'.mono (by omega)))
  have hs1 : w.heap.size < w1.heap.size := by have := hb1'.size; simp at this; omega
  clear hb1 hb1' HC1
  go_wp2_with fail
  refine (HC2.out _ (by omega) (Reads.below HT.out HB1.out)).mono ?_
  rintro e w2 ⟨rfl, hb2⟩
  have k0' := (hb2.cell (p := ⟨w.heap.size, 0, none⟩) hs1).trans k0
  have HB2 := Lib.hid (HB1.out.trans (hb2.mono (by omega)))
  clear hb2 HC2 k0 k3 k4
  cases o1 with
  | none =>
    go_wp2_with fail
    go_ret
    exact ⟨ret_bool HD.out.symm, HB2.out⟩
  | some a =>
    cases o2 with
    | none =>
      go_wp2_with fail
      go_ret
      exact ⟨ret_bool HD.out.symm, HB2.out⟩
    | some b =>
      by_cases hk1 : k = 1
      · have HE : Hid (R = decide (a ≤ b)) := Lib.hid (by rw [HD.out, hk1]; simp [relS])
        subst hk1
        clear HD
        by_cases hab : a ≤ b
        all_goals
          go_wp2_with fail
          go_ret
          exact ⟨ret_bool (by simp [HE.out, hab]), HB2.out⟩
      · by_cases hk2 : k = 2
        · have HE : Hid (R = decide (a = b)) := Lib.hid (by rw [HD.out, hk2]; simp [relS])
          subst hk2
          clear HD hk1
          by_cases hab : a = b
          all_goals
            go_wp2_with fail
            go_ret
            exact ⟨ret_bool (by simp [HE.out, hab]), HB2.out⟩
        · have HE : Hid (R = false) := Lib.hid (by rw [HD.out]; simp [relS, hk1, hk2])
          clear HD
          go_wp2_with fail
          go_ret
          exact ⟨ret_bool HE.out.symm, HB2.out⟩

end Go.Proofs.Ytcmibhechhcpiaa
