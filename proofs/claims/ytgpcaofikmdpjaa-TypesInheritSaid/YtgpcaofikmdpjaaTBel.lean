/-
  Types: subtypes; Below1 of the reference.
-/
import Derived.Test.YtgpcaofikmdpjaaTAtt
import Derived.Deep.RegionHeld3
namespace Go.Proofs.Ytgpcaofikmdpjaa
open Go.RowKit

/-- the parent of a node type; -1 where there is none -/
def parT (t : Typ) (i : Nat) : Int := (t.nodes.getD i default).par
/-- each parent is an earlier type, or -1 -/
def GoodP (t : Typ) : Prop := ∀ i, i < t.nodes.length → -1 ≤ parT t i ∧ parT t i < i
def upB (t : Typ) : Nat → Int → Int → Bool
  | 0, a, b => decide (a = b)
  | f + 1, a, b => decide (a = b) || (decide (0 ≤ a) && upB t f (parT t a.toNat) b)
/-- a is b or a subtype of it -/
def bel (t : Typ) (a b : Int) : Bool := upB t (a + 1).toNat a b
theorem upB_fuel {t : Typ} (hg : GoodP t) : ∀ (f g : Nat) (a b : Int), -1 ≤ a → a < t.nodes.length → (a + 1).toNat ≤ f → (a + 1).toNat ≤ g → upB t f a b = upB t g a b := by
  intro f
  induction f with
  | zero =>
    intro g a b h1 _ h3 _
    have : a = -1 := by omega
    subst this
    cases g with
    | zero => rfl
    | succ g => simp only [upB]; rw [decide_eq_false (show ¬ (0 : Int) ≤ -1 by omega)]; simp
  | succ f ih =>
    intro g a b h1 h2 h3 h4
    cases g with
    | zero =>
      have : a = -1 := by omega
      subst this
      simp only [upB]
      rw [decide_eq_false (show ¬ (0 : Int) ≤ -1 by omega)]; simp
    | succ g =>
      simp only [upB]
      by_cases h0 : 0 ≤ a
      · obtain ⟨k, rfl⟩ : ∃ k : Nat, a = k := ⟨a.toNat, by omega⟩
        have hp := hg k (by omega)
        rw [Int.toNat_natCast]
        rw [ih g (parT t k) b hp.1 (by omega) (by omega) (by omega)]
      · rw [decide_eq_false h0, Bool.false_and, Bool.false_and]
theorem bel_step {t : Typ} (hg : GoodP t) {k : Nat} (hk : k < t.nodes.length) (b : Int) : bel t k b = (decide ((k : Int) = b) || bel t (parT t k) b) := by
  unfold bel
  have hp := hg k hk
  rw [show ((k : Int) + 1).toNat = k + 1 by omega]
  simp only [upB]
  rw [decide_eq_true (show (0 : Int) ≤ (k : Int) by omega), Bool.true_and, Int.toNat_natCast]
  rw [upB_fuel hg k (parT t k + 1).toNat (parT t k) b hp.1 (by omega) (by omega) (Nat.le_refl _)]
theorem bel_none (t : Typ) (b : Int) : bel t (-1) b = decide ((-1 : Int) = b) := rfl

set_option maxRecDepth 100000 in
theorem below1_none (t : Typ) (v0 v1 : Value) (b : Int) (w : World) :
    Calls Try.prog 40 #[.agg #[v0, v1], .int .i64 (-1), .int .i64 b] w fun e w' => e = .returned (.bool (bel t (-1) b)) ∧ Below w.heap.size w w' := by
  have HX := Lib.hid (bel_none t b)
  generalize bel t (-1) b = R at HX ⊢
  by_cases hb : (-1 : Int) = b
  · subst hb
    go_enter Try.func40, Try.ntmps40
    go_wp2_with fail
    go_quiet (fail)
    go_wp2_with fail
    go_ret
    exact ⟨ret_bool HX.out.symm, below_draws ((Below.refl _ _).alloc (Nat.le_refl _) _) _⟩
  · have t1 : ((-1 : Int) == b) = false := by simp [hb]
    go_enter Try.func40, Try.ntmps40
    go_wp2_with fail
    go_quiet (fail)
    go_wp2_with fail
    go_ret
    exact ⟨ret_bool (by rw [HX.out, decide_eq_false hb]), below_draws ((Below.refl _ _).alloc (Nat.le_refl _) _) _⟩

set_option maxRecDepth 100000 in
set_option maxHeartbeats 2000000 in
theorem below1_any (t : Typ) (An : Option Addr) (cn : Nat) (Ae : Option Addr) (ce : Nat) (b : Int) (hg : GoodP t) : ∀ (m : Nat) (a : Int) (w : World), (a + 1).toNat ≤ m → -1 ≤ a → a < t.nodes.length → Nods w w.heap.size An t.nodes →
    Calls Try.prog 40 #[tyval An t.nodes.length cn Ae t.edges.length ce, .int .i64 a, .int .i64 b] w fun e w' => e = .returned (.bool (bel t a b)) ∧ Below w.heap.size w w' := by
  intro m
  induction m with
  | zero =>
    intro a w h1 h2 h3 hT
    have : a = -1 := by omega
    subst this
    exact below1_none t _ _ b w
  | succ m ih =>
    intro a w h1 h2 h3 hT
    by_cases hn : a = -1
    · subst hn
      exact below1_none t _ _ b w
    · obtain ⟨k, rfl⟩ : ∃ k : Nat, a = k := ⟨a.toNat, by omega⟩
      have hk : k < t.nodes.length := by omega
      have hp := hg k hk
      have HX := Lib.hid (bel_step hg hk b)
      generalize bel t k b = R at HX ⊢
      by_cases hb : (k : Int) = b
      · have t1 : ((k : Int) == b) = true := by simp [hb]
        have HR : Hid (R = true) := Lib.hid (by rw [HX.out, decide_eq_true hb]; rfl)
        clear hT ih HX hb
        go_enter Try.func40, Try.ntmps40
        go_wp2_with fail
        go_quiet (fail)
        go_wp2_with fail
        go_ret
        exact ⟨ret_bool HR.out.symm, below_draws ((Below.refl _ _).alloc (Nat.le_refl _) _) _⟩
      · have t1 : ((k : Int) == b) = false := by simp [hb]
        have HR : Hid (R = bel t (parT t k) b) := Lib.hid (by rw [HX.out, decide_eq_false hb]; rfl)
        have HI := Lib.hid (fun u hu => ih (parT t k) u (by omega) hp.1 (by omega) hu)
        have hpar : parT t k = t.nodes[k].par := by unfold parT; rw [getD_at hk]
        obtain ⟨b1, off, A', c', rfl, hbb, k0, k1, k2, k3, _⟩ := Nods.cells hT hk
        rw [← hpar] at k1
        have HT := Lib.hid hT
        generalize parT t k = pr at HR HI k1
        generalize bel t pr b = R2 at HR HI
        have i0 : (0 : Int) ≤ (k : Int) := by omega
        have i1 : (k : Int) < (t.nodes.length : Int) := by omega
        have i2 : ((k : Int)).toNat = k := by omega
        have t2 : decide ((0 : Int) ≤ (k : Int)) = true := decide_eq_true i0
        have HCELL : Hid (∀ u, Below (w.heap.size + 1) (w.alloc (.cells #[.slice (some ⟨b1, off, none⟩) t.nodes.length cn, .slice Ae t.edges.length ce] 25 (0, 0))) u → u.cell? ⟨w.heap.size, 0, none⟩ = some (.slice (some ⟨b1, off, none⟩) t.nodes.length cn) ∧ u.cell? ⟨w.heap.size, 1, none⟩ = some (.slice Ae t.edges.length ce) ∧ u.cell? ⟨b1, off + k * 4 + 1, none⟩ = some (.int .i64 pr) ∧ Below (w.heap.size + 1) (w.alloc (.cells #[.slice (some ⟨b1, off, none⟩) t.nodes.length cn, .slice Ae t.edges.length ce] 25 (0, 0))) u) := Lib.hid fun u hu =>
          ⟨(hu.cell (p := ⟨w.heap.size, 0, none⟩) (by simp)).trans (by simp), (hu.cell (p := ⟨w.heap.size, 1, none⟩) (by simp)).trans (by simp), (hu.cell (p := ⟨b1, off + k * 4 + 1, none⟩) (Nat.lt_succ_of_lt hbb)).trans ((World.cell?_alloc_lt w _ _ hbb).trans k1), hu⟩
        have HW : Hid (∀ u, Below (w.heap.size + 1) (w.alloc (.cells #[.slice (some ⟨b1, off, none⟩) t.nodes.length cn, .slice Ae t.edges.length ce] 25 (0, 0))) u → Below w.heap.size w u) := Lib.hid fun u hu => ((Below.refl w.heap.size w).alloc (Nat.le_refl _) _).trans (hu.mono (by omega))
        have HI2 : Hid (∀ u, u.cell? ⟨w.heap.size, 0, none⟩ = some (.slice (some ⟨b1, off, none⟩) t.nodes.length cn) ∧ u.cell? ⟨w.heap.size, 1, none⟩ = some (.slice Ae t.edges.length ce) ∧ u.cell? ⟨b1, off + k * 4 + 1, none⟩ = some (.int .i64 pr) ∧ Below (w.heap.size + 1) (w.alloc (.cells #[.slice (some ⟨b1, off, none⟩) t.nodes.length cn, .slice Ae t.edges.length ce] 25 (0, 0))) u → Calls Try.prog 40 #[tyval (some ⟨b1, off, none⟩) t.nodes.length cn Ae t.edges.length ce, .int .i64 pr, .int .i64 b] u fun e w' => e = .returned (.bool R2) ∧ w'.cell? ⟨w.heap.size, 0, none⟩ = some (.slice (some ⟨b1, off, none⟩) t.nodes.length cn) ∧ w'.cell? ⟨w.heap.size, 1, none⟩ = some (.slice Ae t.edges.length ce) ∧ w'.cell? ⟨b1, off + k * 4 + 1, none⟩ = some (.int .i64 pr) ∧ Below (w.heap.size + 1) (w.alloc (.cells #[.slice (some ⟨b1, off, none⟩) t.nodes.length cn, .slice Ae t.edges.length ce] 25 (0, 0))) w') := Lib.hid fun u hu => by
          obtain ⟨_, _, _, hu⟩ := hu
          refine (HI.out u (DReads.up HT.out (HW.out u hu))).mono ?_
          rintro e w' ⟨rfl, h2⟩
          exact ⟨rfl, HCELL.out w' (hu.trans (h2.mono (by have := hu.size; simpa using this)))⟩
        have HS0 := Lib.hid (HCELL.out _ (Below.drew (Below.refl (w.heap.size + 1) (w.alloc (.cells #[.slice (some ⟨b1, off, none⟩) t.nodes.length cn, .slice Ae t.edges.length ce] 25 (0, 0))))))
        clear hT ih HX hb hp hpar k0 k1 k2 k3 hn h2 h3 HI
        go_enter Try.func40, Try.ntmps40
        go_wp2_with fail
        go_region_held3 (fun u => u.cell? ⟨w.heap.size, 0, none⟩ = some (.slice (some ⟨b1, off, none⟩) t.nodes.length cn) ∧ u.cell? ⟨w.heap.size, 1, none⟩ = some (.slice Ae t.edges.length ce) ∧ u.cell? ⟨b1, off + k * 4 + 1, none⟩ = some (.int .i64 pr) ∧ Below (w.heap.size + 1) (w.alloc (.cells #[.slice (some ⟨b1, off, none⟩) t.nodes.length cn, .slice Ae t.edges.length ce] 25 (0, 0))) u) (first | assumption | exact HS0.out)
          ((with_reducible refine (HI2.out _ (by assumption)).mono ?_; rintro e w2 ⟨rfl, hs2⟩))
        obtain ⟨_, _, _, hu⟩ := hs2
        go_wp2_with fail
        go_ret
        exact ⟨ret_bool HR.out.symm, HW.out _ hu⟩

end Go.Proofs.Ytgpcaofikmdpjaa
