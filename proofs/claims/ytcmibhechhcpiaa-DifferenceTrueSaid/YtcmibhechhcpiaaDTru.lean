/-
  Difference: values that satisfy tests.
-/
import Derived.Test.YtcmibhechhcpiaaDSat
namespace Go.Proofs.Ytcmibhechhcpiaa
open Go.RowKit

def potOf (vs : List Int) (p : Nat) : Int := if p = 0 then 0 else vs.getD (p - 1) 0
theorem val_pot {vs : List Int} {v a : Int} (h1 : -1 ≤ v) (h2 : v < vs.length) : valS v a vs = some (potOf vs (v + 1).toNat + a) := by
  unfold valS potOf
  by_cases h : v = -1
  · rw [if_pos h, h]
    rw [show ((-1 : Int) + 1).toNat = 0 from rfl, if_pos rfl]
    congr 1
    omega
  · rw [if_neg h, if_neg (by omega)]
    obtain ⟨k, rfl⟩ : ∃ k : Nat, v = k := ⟨v.toNat, by omega⟩
    rw [Int.toNat_natCast, show ((k : Int) + 1).toNat = k + 1 by omega, if_neg (by omega), Nat.add_sub_cancel]
theorem holds_pot {vs : List Int} {x : Tst} (hg : Good vs.length x) : holdsS x vs = true ↔ Pot (arcsL [x]) (potOf vs) := by
  obtain ⟨k, lv, la, rv, ra⟩ := x
  obtain ⟨g1, ⟨g2, g3, g4, g5⟩, g6, g7, g8, g9⟩ := hg
  dsimp only at g1 g2 g3 g4 g5 g6 g7 g8 g9
  unfold holdsS
  dsimp only
  rw [val_pot g2 g3, val_pot g6 g7]
  have e : arcsL [(⟨k, lv, la, rv, ra⟩ : Tst)] = arcsAt 0 ⟨k, lv, la, rv, ra⟩ := rfl
  rw [e]
  unfold arcsAt
  generalize potOf vs = f
  rcases g1 with rfl | rfl
  · simp only [relS, decide_true, Bool.true_and, Bool.or_eq_true, decide_eq_true_eq, Bool.and_eq_true]
    constructor
    · intro h a ha
      simp at ha
      subst ha
      dsimp only
      omega
    · intro h
      have := h ⟨0, 1, (lv + 1).toNat, (rv + 1).toNat, ra - la⟩ (by simp)
      dsimp only at this
      left
      omega
  · simp only [relS, decide_true, Bool.true_and, Bool.or_eq_true, decide_eq_true_eq, Bool.and_eq_true]
    constructor
    · intro h a ha
      simp at ha
      rcases ha with rfl | rfl
      · dsimp only; omega
      · dsimp only; omega
    · intro h
      have h5 := h ⟨0, 1, (lv + 1).toNat, (rv + 1).toNat, ra - la⟩ (by simp)
      have h6 := h ⟨0, -1, (rv + 1).toNat, (lv + 1).toNat, -(ra - la)⟩ (by simp)
      dsimp only at h5 h6
      right
      omega
theorem pot_all {l : List Tst} {u : Nat → Int} (h : ∀ x ∈ l, Pot (arcsL [x]) u) : Pot (arcsL l) u := by
  intro a ha
  obtain ⟨i, hi, h1⟩ := arcsF_mem ha
  obtain ⟨b, hb, e1, e2, e3⟩ := arcsAt_same (j := 0) h1
  have := h _ (getD_mem hi) b (by exact hb)
  rw [e1, e2, e3] at this
  exact this
theorem true_sol {vs : List Int} {L : List Tst} (h5 : vs.length ≤ 5) (hl : L.length ≤ 20) (hL : ∀ y ∈ L, Good vs.length y ∧ holdsS y vs = true) : validS vs.length L = 0 ∧ solE vs.length L = 0 ∧ Pot (arcsL L) (potOf vs) := by
  have hv : validS vs.length L = 0 := validS_zero.2 ⟨⟨by omega, by omega⟩, by omega, fun y hy => (hL y hy).1⟩
  have hp : Pot (arcsL L) (potOf vs) := pot_all fun y hy => (holds_pot (hL y hy).1).1 (hL y hy).2
  refine ⟨hv, ?_, hp⟩
  have := ok_of_pot (n := (vs.length : Int).toNat) (by omega) (arcs_small (fun y hy => (hL y hy).1)) hp
  unfold solE
  rw [if_neg (fun k => k hv), if_pos this]
theorem true_imp {vs : List Int} {L : List Tst} {x : Tst} {b : Bool} (h5 : vs.length ≤ 5) (hl : L.length ≤ 20) (hL : ∀ y ∈ L, Good vs.length y ∧ holdsS y vs = true) (hx : Good vs.length x) (hb : ImpIs vs.length L x b) :
    impE vs.length L x = 0 ∧ (b = true → holdsS x vs = true) := by
  obtain ⟨hv, _, hp⟩ := true_sol h5 hl hL
  have ho := one_zero.2 hx
  refine ⟨by unfold impE; rw [if_neg (fun k => k hv), ho], fun h => ?_⟩
  exact (holds_pot hx).2 ((hb.1 ⟨hv, ho⟩).1 h _ hp)
def tinyV (xs : List Int) : List Int := xs.map fun x => x.tmod 21
theorem tinyV_len (xs : List Int) : (tinyV xs).length = xs.length := by simp [tinyV]
theorem tinyV_fit (xs : List Int) : ∀ y ∈ tinyV xs, Fit y := by
  intro y hy
  unfold tinyV at hy
  rw [List.mem_map] at hy
  obtain ⟨x, _, rfl⟩ := hy
  have := rem_facts x 21 (by omega)
  unfold Fit
  omega
theorem made_fit {n : Int} (hn : 0 ≤ n) (c0 c1 c2 c3 : Int) : Fit (madeS n c0 c1 c2 c3).la ∧ Fit (madeS n c0 c1 c2 c3).ra := good_fit (made_good hn c0 c1 c2 c3)

end Go.Proofs.Ytcmibhechhcpiaa
