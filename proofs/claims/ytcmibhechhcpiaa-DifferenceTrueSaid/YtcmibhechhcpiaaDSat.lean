/-
  Difference: the standard solution satisfies the tests; the closure of the law Solve.
-/
import Derived.Test.YtcmibhechhcpiaaDFind
namespace Go.Proofs.Ytcmibhechhcpiaa
open Go.RowKit

theorem solS_len (n : Nat) (l : List Arc) : (solS n l).length = n := rowI_length _ _
theorem solR_len {n : Int} {xs : List Tst} : (solR n xs).length ≤ 12 := by
  unfold solR
  by_cases h : Solv n xs
  · rw [if_pos h, solS_len]
    have := (validS_zero.1 h.1).1
    omega
  · rw [if_neg h]; simp
theorem val_sol {m : Nat} {l : List Arc} {v a : Int} (h1 : -1 ≤ v) (h2 : v < m) : valS v a (solS m l) = some (std m l (v + 1).toNat - std m l 0 + a) := by
  unfold valS
  by_cases h : v = -1
  · rw [if_pos h, h]
    rw [show ((-1 : Int) + 1).toNat = 0 from rfl]
    congr 1
    omega
  · rw [if_neg h, solS_len, if_neg (by omega)]
    obtain ⟨k, rfl⟩ : ∃ k : Nat, v = k := ⟨v.toNat, by omega⟩
    rw [Int.toNat_natCast, show ((k : Int) + 1).toNat = k + 1 by omega]
    unfold solS
    rw [rowI_getD _ (by omega)]
theorem sol_holds {n : Int} {xs : List Tst} (h : Solv n xs) {x : Tst} (hx : x ∈ xs) : holdsS x (solR n xs) = true := by
  obtain ⟨⟨h1, h2⟩, _, h3⟩ := validS_zero.1 h.1
  have hg := h3 x hx
  have hp := std_pot (arcs_in h3) (by omega) (arcs_small h3) h.2
  obtain ⟨m, rfl⟩ : ∃ m : Nat, n = m := ⟨n.toNat, by omega⟩
  rw [Int.toNat_natCast] at hp
  have hi := impl_mem hx _ hp
  unfold solR
  rw [if_pos h, Int.toNat_natCast]
  obtain ⟨k, lv, la, rv, ra⟩ := x
  obtain ⟨g1, ⟨g2, g3, g4, g5⟩, g6, g7, g8, g9⟩ := hg
  dsimp only at g1 g2 g3 g4 g5 g6 g7 g8 g9
  unfold holdsS
  dsimp only
  rw [val_sol g2 g3, val_sol g6 g7]
  have ha : ∀ a ∈ arcsAt 0 ⟨k, lv, la, rv, ra⟩, std m (arcsL xs) a.f ≤ a.c + std m (arcsL xs) a.g := fun a ha => hi a ha
  unfold arcsAt at ha
  dsimp only at ha
  have h0 := ha _ List.mem_cons_self
  dsimp only at h0
  rcases g1 with rfl | rfl
  · simp only [relS, decide_true, Bool.true_and, Bool.or_eq_true, decide_eq_true_eq]
    left
    omega
  · have h5 := ha ⟨0, -1, (rv + 1).toNat, (lv + 1).toNat, -(ra - la)⟩ (by simp)
    dsimp only at h5
    simp only [relS, decide_true, Bool.true_and, Bool.or_eq_true, Bool.and_eq_true, decide_eq_true_eq]
    right
    omega
theorem sol_fit {n : Int} {xs : List Tst} : ∀ y ∈ solR n xs, Fit y := by
  intro y hy
  unfold solR at hy
  by_cases h : Solv n xs
  · rw [if_pos h] at hy
    obtain ⟨⟨h1, h2⟩, _, h3⟩ := validS_zero.1 h.1
    unfold solS rowI at hy
    rw [List.mem_map] at hy
    obtain ⟨i, _, rfl⟩ := hy
    have a1 := std_low (n := n.toNat) (by omega) (arcs_small h3) (i + 1)
    have a2 := std_le (n := n.toNat) (l := arcsL xs) (i + 1)
    have a3 := std_low (n := n.toNat) (by omega) (arcs_small h3) 0
    have a4 := std_le (n := n.toNat) (l := arcsL xs) 0
    unfold Fit
    omega
  · rw [if_neg h] at hy; simp at hy

/-- a variable of one slice -/
def CellAt (W : World) (b : Nat) (v : Value) : Prop := W.cell? ⟨b, 0, none⟩ = some v ∧ b < W.heap.size
theorem CellAt.up {W W' : World} {b : Nat} {v : Value} (h : CellAt W b v) (hb : Below W.heap.size W W') : CellAt W' b v := ⟨(hb.cell (p := ⟨b, 0, none⟩) h.2).trans h.1, Nat.lt_of_lt_of_le h.2 hb.size⟩

set_option maxHeartbeats 1000000 in
theorem clo_false (hp : PC) (x : Tst) (vs : List Int) (A : Option Addr) (c bv : Nat) (w : World) (h64 : T64 x) (h1 : Fit x.la) (h2 : Fit x.ra) (hv : ∀ y ∈ vs, Fit y) (hl : vs.length ≤ 1000) (hh : holdsS x vs = true)
    (hC : CellAt w bv (.slice A vs.length c)) (hV : Ints w w.heap.size A vs) :
    Calls Try.prog 20 #[tval x, .pointer (some ⟨bv, 0, none⟩)] w fun e w' => e = .returned (.bool false) ∧ Below w.heap.size w w' := by
  have HP := Lib.hid (fun u hT => hp.hol x vs A c u h64 h1 h2 hv hl hT)
  rw [hh] at HP
  have HV := Lib.hid hV
  have HB0 := Lib.hid (fun (o : Obj) => (Below.refl w.heap.size w).alloc (Nat.le_refl _) o)
  obtain ⟨k, lv, la, rv, ra⟩ := x
  have hc := (hC.up (HB0.out (.cells #[.int .i64 k, .int .i64 lv, .int .i64 la, .int .i64 rv, .int .i64 ra] 32 (0, 0)))).1
  clear hC hV h64 h1 h2 hv hl hh
  go_enter Try.func20, Try.ntmps20
  go_wp2_with fail
  refine (HP.out _ (Reads.up HV.out (HB0.out _))).mono ?_
  rintro e w1 ⟨rfl, hb1⟩
  go_wp2_with fail
  go_ret
  exact ⟨rfl, (HB0.out _).trans (hb1.mono (by simp))⟩
theorem solE_zero {n : Int} {xs : List Tst} (h : solE n xs = 0) : Solv n xs := by
  unfold solE at h
  by_cases h1 : validS n xs = 0
  · rw [if_neg (fun h => h h1)] at h
    by_cases h2 : OkB n.toNat (arcsL xs)
    · exact ⟨h1, h2⟩
    · rw [if_neg h2] at h; omega
  · rw [if_pos h1] at h
    exact absurd h h1
theorem good_fit {n : Int} {x : Tst} (h : Good n x) : Fit x.la ∧ Fit x.ra := by
  obtain ⟨_, h2, h3⟩ := h
  unfold Fit
  omega
theorem tst_fit {n : Int} {xs : List Tst} (h : Solv n xs) {x : Tst} (hx : x ∈ xs) : Fit x.la ∧ Fit x.ra := good_fit ((validS_zero.1 h.1).2.2 x hx)

end Go.Proofs.Ytcmibhechhcpiaa
