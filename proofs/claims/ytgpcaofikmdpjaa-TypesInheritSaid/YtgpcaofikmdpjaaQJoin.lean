/-
  Types, the program: Join.
-/
import Derived.Test.YtgpcaofikmdpjaaQTop
namespace Go.Proofs.Ytgpcaofikmdpjaa
open Go.RowKit

/-- what is above k and above i is above k's parent, where k comes behind i -/
theorem joinU_par {t : Typ} (hg : GoodP t) {k : Nat} (hk : k < t.nodes.length) : ∀ (m : Nat) (i : Int), -1 ≤ i → i < k → joinU t k m i = joinU t (parT t k) m i := by
  intro m
  induction m with
  | zero => intro i _ _; rfl
  | succ m ih =>
    intro i h1 h2
    by_cases h0 : i < 0
    · rw [joinU_neg _ h0, joinU_neg _ h0]
    · obtain ⟨j, rfl⟩ : ∃ j : Nat, i = j := ⟨i.toNat, by omega⟩
      have hp := hg j (by omega)
      simp only [joinU]
      rw [if_neg h0, if_neg h0, Int.toNat_natCast, ih (parT t j) hp.1 (by omega), bel_step hg hk (j : Int), decide_eq_false (by omega), Bool.false_or]
/-- what is above i comes not behind it -/
theorem joinU_up {t : Typ} (hg : GoodP t) {k m : Nat} (hk : k < t.nodes.length) (hm : k + 1 ≤ m) {b : Int} (hb : -1 ≤ b) (h : b < k) : joinU t b m k = joinU t b (m - 1) (parT t k) := by
  rw [joinU_step hm, bel_gt hg k b hb (by omega) h]
  rfl

set_option maxRecDepth 100000 in
set_option maxHeartbeats 2000000 in
theorem joinP_any (hn : NameC 60) : JoinC 29 := by
  intro t An cn Ae ce a b w hf hcap _ _ hT
  have HG := Lib.hid (check2 hn t An cn Ae ce a b w hf hcap hT)
  have HT := Lib.hid hT
  have HX : Hid (joinS t a b = if givenE t a b ≠ 0 then (0, givenE t a b) else joinU t b (a + 1).toNat a) := Lib.hid rfl
  clear hT hn hf hcap
  generalize joinS t a b = R at HX ⊢
  by_cases hg : givenE t a b = 0
  · have hG := giv_of hg
    have hgp := hG.val.good
    rw [hg] at HG
    have HX2 : Hid (R = joinU t b (a + 1).toNat a) := Lib.hid (by rw [HX.out, if_neg (fun e => e hg)])
    obtain ⟨a0, a1, b0, b1⟩ : 0 ≤ a ∧ a < t.nodes.length ∧ 0 ≤ b ∧ b < t.nodes.length := ⟨hG.a0, hG.a1, hG.b0, hG.b1⟩
    have HUP : Hid (∀ (k m : Nat) (y : Int), k < t.nodes.length → k + 1 ≤ m → -1 ≤ y → y < k → joinU t y m k = joinU t y (m - 1) (parT t k)) := Lib.hid fun k m y h1 h2 h3 h4 => joinU_up hgp h1 h2 h3 h4
    have HPAR : Hid (∀ (k m : Nat) (x : Int), k < t.nodes.length → -1 ≤ x → x < k → joinU t k m x = joinU t (parT t k) m x) := Lib.hid fun k m x h1 h2 h3 => joinU_par hgp h1 m x h2 h3
    have HEQ : Hid (∀ (k m : Nat), k < t.nodes.length → k + 1 ≤ m → joinU t k m k = ((k : Int), 0)) := Lib.hid fun k m h1 h2 => by rw [joinU_step h2, bel_self hgp h1]; rfl
    have HPA : Hid (∀ (u : World) (k : Nat) (hk : k < t.nodes.length), TyC u An Ae t → ∃ b off, An = some ⟨b, off, none⟩ ∧ u.cell? ⟨b, off + k * 4 + 1, none⟩ = some (.int .i64 (parT t k)) ∧ -1 ≤ parT t k ∧ parT t k < k) := Lib.hid fun u k hk hu => by
      obtain ⟨b, off, _, _, h1, _, _, h2, _⟩ := Nods.cells hu.1 hk
      exact ⟨b, off, h1, by unfold parT; rw [getD_at hk]; exact h2, hgp k hk⟩
    have n12 := hG.val.few
    clear HX hG hgp hg
    generalize hN : t.nodes.length = N at *
    generalize t.edges.length = M at *
    clear hN
    go_enter Try.func29, Try.ntmps29
    go_wp2_with fail
    with_reducible refine HG.out.mono ?_
    rintro e w1 ⟨rfl, hb1⟩
    obtain ⟨c0, c1⟩ := twoB_cell hb1
    have HB1 := Lib.hid (twoB_below hb1)
    clear hb1
    go_wp2_with fail
    go_loopw [1, 2] (fun vx vy wr => ∃ (x y : Int) (m : Nat), vx = .int .i64 x ∧ vy = .int .i64 y ∧ -1 ≤ x ∧ x < N ∧ -1 ≤ y ∧ y < N ∧ (x + 1).toNat ≤ m ∧ R = joinU t y m x ∧ wr = w1) (fun vx vy _ => (intOf vx + 1).toNat + (intOf vy + 1).toNat)
    case atStart => exact ⟨a, b, (a + 1).toNat, rfl, rfl, by omega, a1, by omega, b1, Nat.le_refl _, HX2.out, rfl⟩
    case round =>
      obtain ⟨x, y, m, rfl, rfl, hx0, hx1, hy0, hy1, hm, hR, rfl⟩ := hrel
      clear HX2
      by_cases hxy : x = y
      · subst hxy
        by_cases hneg : x < 0
        · have HR2 : Hid (R = (0, 10)) := Lib.hid (by rw [hR]; exact joinU_neg m hneg)
          have t1 : decide (x < 0) = true := decide_eq_true hneg
          clear hR
          go_wp2_with fail
          go_ret2
          exact ⟨by rw [HR2.out]; rfl, HB1.out⟩
        · obtain ⟨k, rfl⟩ : ∃ k : Nat, x = k := ⟨x.toNat, by omega⟩
          have HR2 : Hid (R = ((k : Int), 0)) := Lib.hid (by rw [hR]; exact HEQ.out k m (by omega) (by omega))
          have t1 : decide ((k : Int) < 0) = false := decide_eq_false hneg
          clear hR
          go_wp2_with fail
          go_ret2
          exact ⟨by rw [HR2.out]; rfl, HB1.out⟩
      · have t1 : (x != y) = true := by simp [hxy]
        by_cases hlt : y < x
        · have t2 : decide (y < x) = true := decide_eq_true hlt
          obtain ⟨k, rfl⟩ : ∃ k : Nat, x = k := ⟨x.toNat, by omega⟩
          have hk : k < N := by omega
          have HR2 : Hid (R = joinU t y (m - 1) (parT t k)) := Lib.hid (by rw [hR]; exact HUP.out k m y hk (by omega) hy0 hlt)
          obtain ⟨bb, off, rfl, j0, p0, p1⟩ := HPA.out wr k hk (HT.out.up HB1.out)
          generalize parT t k = pr at *
          have i0 : (0 : Int) ≤ (k : Int) := by omega
          have i1 : (k : Int) < (N : Int) := by omega
          have i2 : ((k : Int)).toNat = k := by omega
          clear hR hxy
          go_wp2_with fail
          go_roundw
          case rel => exact ⟨pr, y, m - 1, rfl, rfl, p0, by omega, hy0, hy1, by omega, HR2.out, trivial⟩
          case measure => simp [intOf]; omega
        · have t2 : decide (y < x) = false := decide_eq_false hlt
          obtain ⟨k, rfl⟩ : ∃ k : Nat, y = k := ⟨y.toNat, by omega⟩
          have hk : k < N := by omega
          have HR2 : Hid (R = joinU t (parT t k) m x) := Lib.hid (by rw [hR]; exact HPAR.out k m x hk hx0 (by omega))
          obtain ⟨bb, off, rfl, j0, p0, p1⟩ := HPA.out wr k hk (HT.out.up HB1.out)
          generalize parT t k = pr at *
          have i0 : (0 : Int) ≤ (k : Int) := by omega
          have i1 : (k : Int) < (N : Int) := by omega
          have i2 : ((k : Int)).toNat = k := by omega
          clear hR hxy
          go_wp2_with fail
          go_roundw
          case rel => exact ⟨x, pr, m, rfl, rfl, hx0, hx1, p0, by omega, hm, HR2.out, trivial⟩
          case measure => simp [intOf]; omega
  · have HX2 : Hid (R = (0, givenE t a b)) := Lib.hid (by rw [HX.out, if_pos hg])
    generalize givenE t a b = g at *
    have t3 : ((g : Int) != 0) = true := by simp; omega
    generalize hN : t.nodes.length = N at *
    generalize t.edges.length = M at *
    clear HX hg hN
    go_enter Try.func29, Try.ntmps29
    go_wp2_with fail
    with_reducible refine HG.out.mono ?_
    rintro e w1 ⟨rfl, hb1⟩
    have HB1 := Lib.hid (twoB_below hb1)
    clear hb1
    go_wp2_with fail
    go_ret2
    exact ⟨by (rw [HX2.out]; rfl), HB1.out⟩

end Go.Proofs.Ytgpcaofikmdpjaa
