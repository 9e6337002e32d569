/-
  Graphs: Same of the program and the reference, same of the law, Few, Copied, slices.Clip, Contains, BinarySearch.
-/
import Derived.Test.YtiafmhdicgmfaaaGSl
import Derived.Test.YtiafmhdicgmfaaaGVal
import Derived.Test.YtiafmhdicgmfaaaShelf
namespace Go.Proofs.Ytiafmhdicgmfaaa
open Go.RowKit

theorem gr_eq (a b : Gr) : decide (a = b) = (decide (a.ns = b.ns) && decide (a.es = b.es)) := by
  cases a; cases b
  simp only [Gr.mk.injEq, Bool.decide_and]
theorem mo_eq (a b : Mo) : decide (a = b) = (decide (a.ns = b.ns) && decide (a.es = b.es)) := by
  cases a; cases b
  simp only [Mo.mk.injEq, Bool.decide_and]

set_option maxHeartbeats 1000000 in
theorem sameP_any (a b : Gr) (An : Option Addr) (cn : Nat) (Ae : Option Addr) (ce : Nat) (Bn : Option Addr) (dn : Nat) (Be : Option Addr) (de : Nat) (w : World) (ha : GrAt w An cn Ae ce a) (hb : GrAt w Bn dn Be de b) :
    Calls Try.prog 18 #[gval An a.ns.length cn Ae a.es.length ce, gval Bn b.ns.length dn Be b.es.length de] w fun e w' => e = .returned (.bool (decide (a = b))) ∧ Below w.heap.size w w' := by
  have l1 := Nat.le_trans ha.cn.1 ha.cn.2
  have l2 := Nat.le_trans ha.ce.1 ha.ce.2
  have HB0 : Hid (∀ o o', Below w.heap.size w ((w.alloc o).alloc o')) := Lib.hid fun o o' => ((Below.refl _ _).alloc (Nat.le_refl _) _).alloc (by simp) _
  have H1 := Lib.hid (fun u (hu : Below w.heap.size w u) => equal_any a.ns b.ns An Bn w.heap.size w.heap.size cn dn u l1 (Reads.below ha.ns hu) (Reads.below hb.ns hu))
  have H2 := Lib.hid (fun u (hu : Below w.heap.size w u) => equalE_any a.es b.es Ae Be w.heap.size w.heap.size ce de u l2 (Reads.below ha.es hu) (Reads.below hb.es hu))
  have HX := Lib.hid (gr_eq a b)
  clear ha hb
  generalize decide (a = b) = z at HX ⊢
  generalize decide (a.ns = b.ns) = z1 at H1 HX
  generalize decide (a.es = b.es) = z2 at H2 HX
  go_enter Try.func18, Try.ntmps18
  go_wp2_with fail
  refine (H1.out _ (HB0.out _ _)).mono ?_
  rintro e w1 ⟨rfl, hb1⟩
  obtain ⟨b0, b1, hsz⟩ := boxes2 hb1
  obtain ⟨c0, c1⟩ := cell2 b0
  obtain ⟨c2, c3⟩ := cell2 b1
  have HB := Lib.hid ((HB0.out _ _).trans (hb1.mono (by simp; omega)))
  clear b0 b1 hb1
  cases z1
  · go_wp2_with fail
    go_ret
    exact ⟨ret_bool (by rw [HX.out]; rfl), HB.out⟩
  · go_wp2_with fail
    refine (H2.out _ HB.out).mono ?_
    rintro e w2 ⟨rfl, hb2⟩
    have HB2 := Lib.hid (HB.out.trans (hb2.mono (by omega)))
    clear hb2
    go_wp2_with fail
    go_ret
    exact ⟨ret_bool (by rw [HX.out]; rfl), HB2.out⟩

set_option maxHeartbeats 1000000 in
theorem sameM_any (a b : Mo) (An : Option Addr) (cn : Nat) (Ae : Option Addr) (ce : Nat) (Bn : Option Addr) (dn : Nat) (Be : Option Addr) (de : Nat) (w : World) (ha : MoAt w An cn Ae ce a) (hb : MoAt w Bn dn Be de b) :
    Calls Try.prog 24 #[gval An a.ns.length cn Ae a.es.length ce, gval Bn b.ns.length dn Be b.es.length de] w fun e w' => e = .returned (.bool (decide (a = b))) ∧ Below w.heap.size w w' := by
  have l1 := Nat.le_trans ha.cn.1 ha.cn.2
  have l2 := Nat.le_trans ha.ce.1 ha.ce.2
  have HB0 : Hid (∀ o o', Below w.heap.size w ((w.alloc o).alloc o')) := Lib.hid fun o o' => ((Below.refl _ _).alloc (Nat.le_refl _) _).alloc (by simp) _
  have H1 := Lib.hid (fun u (hu : Below w.heap.size w u) => equal_any a.ns b.ns An Bn w.heap.size w.heap.size cn dn u l1 (Reads.below ha.ns hu) (Reads.below hb.ns hu))
  have H2 := Lib.hid (fun u (hu : Below w.heap.size w u) => equal_any a.es b.es Ae Be w.heap.size w.heap.size ce de u l2 (Reads.below ha.es hu) (Reads.below hb.es hu))
  have HX := Lib.hid (mo_eq a b)
  clear ha hb
  generalize decide (a = b) = z at HX ⊢
  generalize decide (a.ns = b.ns) = z1 at H1 HX
  generalize decide (a.es = b.es) = z2 at H2 HX
  go_enter Try.func24, Try.ntmps24
  go_wp2_with fail
  refine (H1.out _ (HB0.out _ _)).mono ?_
  rintro e w1 ⟨rfl, hb1⟩
  obtain ⟨b0, b1, hsz⟩ := boxes2 hb1
  obtain ⟨c0, c1⟩ := cell2 b0
  obtain ⟨c2, c3⟩ := cell2 b1
  have HB := Lib.hid ((HB0.out _ _).trans (hb1.mono (by simp; omega)))
  clear b0 b1 hb1
  cases z1
  · go_wp2_with fail
    go_ret
    exact ⟨ret_bool (by rw [HX.out]; rfl), HB.out⟩
  · go_wp2_with fail
    refine (H2.out _ HB.out).mono ?_
    rintro e w2 ⟨rfl, hb2⟩
    have HB2 := Lib.hid (HB.out.trans (hb2.mono (by omega)))
    clear hb2
    go_wp2_with fail
    go_ret
    exact ⟨ret_bool (by rw [HX.out]; rfl), HB2.out⟩

set_option maxRecDepth 100000 in
set_option maxHeartbeats 2000000 in
theorem sameR_any (a b : Gr) (An : Option Addr) (cn : Nat) (Ae : Option Addr) (ce : Nat) (Bn : Option Addr) (dn : Nat) (Be : Option Addr) (de : Nat) (w : World) (ha : GrAt w An cn Ae ce a) (hb : GrAt w Bn dn Be de b) :
    Calls Try.prog 17 #[gval An a.ns.length cn Ae a.es.length ce, gval Bn b.ns.length dn Be b.es.length de] w fun e w' => e = .returned (.bool (decide (a = b))) ∧ Below w.heap.size w w' := by
  have l1 := Nat.le_trans ha.cn.1 ha.cn.2
  have l2 := Nat.le_trans ha.ce.1 ha.ce.2
  have l3 := Nat.le_trans hb.ce.1 hb.ce.2
  have HB0 : Hid (∀ o o', Below w.heap.size w ((w.alloc o).alloc o')) := Lib.hid fun o o' => ((Below.refl _ _).alloc (Nat.le_refl _) _).alloc (by simp) _
  have H1 := Lib.hid (fun u (hu : Below w.heap.size w u) => sameInts_any a.ns b.ns An Bn w.heap.size w.heap.size cn dn u l1 (Reads.below ha.ns hu) (Reads.below hb.ns hu))
  have HX := Lib.hid (gr_eq a b)
  have HA := Lib.hid ha.es
  have HBe := Lib.hid hb.es
  clear ha hb l1
  unfold maxLen at l2 l3
  generalize decide (a = b) = z at HX ⊢
  generalize decide (a.ns = b.ns) = z1 at H1 HX
  go_enter Try.func17, Try.ntmps17
  go_wp2_with fail
  refine (H1.out _ (HB0.out _ _)).mono ?_
  rintro e w1 ⟨rfl, hb1⟩
  obtain ⟨b0, b1, hsz⟩ := boxes2 hb1
  obtain ⟨c0, c1⟩ := cell2 b0
  obtain ⟨c2, c3⟩ := cell2 b1
  have HB := Lib.hid ((HB0.out _ _).trans (hb1.mono (by simp; omega)))
  clear b0 b1 hb1
  cases z1
  · go_wp2_with fail
    go_ret
    exact ⟨ret_bool (by rw [HX.out]; rfl), HB.out⟩
  · generalize a.es = xs at *
    generalize b.es = ys at *
    by_cases hl : xs.length = ys.length
    case neg =>
      have t : ((xs.length : Int) != (ys.length : Int)) = true := by simp; omega
      have H := Lib.hid (show z = false by rw [HX.out, decide_eq_false (fun h => hl (by rw [h]))]; rfl)
      clear hl
      go_wp2_with fail
      go_ret
      exact ⟨ret_bool (by rw [H.out]), HB.out⟩
    have t : ((xs.length : Int) != (ys.length : Int)) = false := by simp; omega
    have HLN := Lib.hid hl
    have hyl : ys.length ≤ xs.length := by omega
    have hxl : xs.length ≤ ys.length := by omega
    clear hl
    go_wp2_with fail
    clear t
    go_loopw [5] (fun i wr => ∃ k q : Nat, k ≤ xs.length ∧ i = .int .i64 k ∧ wr = w1.drewN q ∧ ∀ j (h1 : j < xs.length) (h2 : j < ys.length), j < k → xs[j] = ys[j]) (fun i _ => xs.length - (intOf i).toNat)
    case atStart => exact ⟨0, 0, Nat.zero_le _, rfl, rfl, fun j _ _ hj => by omega⟩
    case round =>
      obtain ⟨k, q, hk, rfl, rfl, hs⟩ := hrel
      have HS := Lib.hid hs
      clear hs
      by_cases hlt : k < xs.length
      · have hlt' : k < ys.length := by omega
        obtain ⟨b, off, rfl, hb, c⟩ := Eds.cells (Reads.below HA.out HB.out) hlt
        obtain ⟨b', off', rfl, hb', d⟩ := Eds.cells (Reads.below HBe.out HB.out) hlt'
        obtain ⟨k0, k1, k2⟩ := c k hlt
        obtain ⟨d0, d1, d2⟩ := d k hlt'
        have ex : xs.getD k default = xs[k] := by rw [List.getD_eq_getElem?_getD, List.getElem?_eq_getElem hlt]; rfl
        have ey : ys.getD k default = ys[k] := by rw [List.getD_eq_getElem?_getD, List.getElem?_eq_getElem hlt']; rfl
        rw [ex] at k0 k1 k2
        rw [ey] at d0 d1 d2
        clear c d ex ey
        have hk0 : (0 : Int) ≤ (k : Int) := by omega
        have hk1 : (k : Int) < (xs.length : Int) := by omega
        have hk1' : (k : Int) < (ys.length : Int) := by omega
        have hk2 : ((k : Int)).toNat = k := by omega
        have HNE : Hid (¬ xs[k] = ys[k] → z = false) := Lib.hid fun h => by rw [HX.out, decide_eq_false (fun h2 => h (by simp only [h2]))]; rfl
        have HEQ : Hid (xs[k] = ys[k] → ∀ j (h1 : j < xs.length) (h2 : j < ys.length), j < k + 1 → xs[j] = ys[j]) := Lib.hid fun h j h1 h2 h3 => by
          by_cases e : j = k
          · subst e; exact h
          · exact HS.out j h1 h2 (by omega)
        generalize xs[k] = x at k0 k1 k2 HNE HEQ
        generalize ys[k] = y at d0 d1 d2 HNE HEQ
        obtain ⟨x1, x2, x3⟩ := x
        obtain ⟨y1, y2, y3⟩ := y
        dsimp only at k0 k1 k2 d0 d1 d2
        have hc : (x1 = y1 ∧ x2 = y2 ∧ x3 = y3) ∨ (¬ x1 = y1 ∨ (x1 = y1 ∧ ¬ x2 = y2) ∨ (x1 = y1 ∧ x2 = y2 ∧ ¬ x3 = y3)) := by omega
        rcases hc with ⟨rfl, rfl, rfl⟩ | hc
        · have HXX := Lib.hid (HEQ.out rfl)
          clear HEQ HNE
          go_wp2_with fail
          go_quiet (fail)
          go_wp2_with fail
          go_roundw
          case rel => exact ⟨k + 1, _, by omega, by go_num, rfl, HXX.out⟩
          case measure => simp [intOf]; omega
        · have HXX := Lib.hid (HNE.out (by simp only [Ed.mk.injEq]; omega))
          clear HEQ HNE
          rcases hc with h1 | ⟨h1, h2⟩ | ⟨h1, h2, h3⟩
          all_goals
            go_wp2_with fail
            go_quiet (fail)
            go_wp2_with fail
            go_ret
            exact ⟨ret_bool (by rw [HXX.out]), below_draws (below_draws HB.out q) _⟩
      · have H := Lib.hid (show z = true by rw [HX.out, decide_eq_true (List.ext_getElem HLN.out fun j h1 h2 => HS.out j h1 h2 (by omega))]; rfl)
        clear HS
        go_wp2_with fail
        go_ret
        exact ⟨ret_bool (by rw [H.out]), below_draws HB.out q⟩

/-- a small graph -/
def fewB (g : Gr) : Bool := decide (g.ns.length ≤ 45) && decide (g.es.length ≤ 90)
theorem few_iff {g : Gr} : fewB g = true ↔ g.ns.length ≤ 45 ∧ g.es.length ≤ 90 := by simp [fewB]
theorem few_any (g : Gr) (An : Option Addr) (cn : Nat) (Ae : Option Addr) (ce : Nat) (w : World) (hT : GrAt w An cn Ae ce g) :
    Calls Try.prog 11 #[gval An g.ns.length cn Ae g.es.length ce] w fun e w' => e = .returned (.bool (fewB g)) ∧ Below w.heap.size w w' := by
  have H : Hid (fewB g = (decide (g.ns.length ≤ 45) && decide (g.es.length ≤ 90))) := Lib.hid rfl
  have l1 := Nat.le_trans hT.cn.1 hT.cn.2
  have l2 := Nat.le_trans hT.ce.1 hT.ce.2
  clear hT
  unfold maxLen at l1 l2
  generalize fewB g = z at H ⊢
  generalize g.ns.length = a at *
  generalize g.es.length = b at *
  by_cases h1 : a ≤ 45
  · by_cases h2 : b ≤ 90
    · have HR := Lib.hid (show z = true by rw [H.out, decide_eq_true h1, decide_eq_true h2]; rfl)
      have t1 : decide ((a : Int) ≤ 45) = true := decide_eq_true (by omega)
      have t2 : decide ((b : Int) ≤ 90) = true := decide_eq_true (by omega)
      go_enter Try.func11, Try.ntmps11
      go_wp2_with fail
      go_ret
      exact ⟨ret_bool (by rw [HR.out]), (Below.refl _ _).alloc (Nat.le_refl _) _⟩
    · have HR := Lib.hid (show z = false by rw [H.out, decide_eq_true h1, decide_eq_false h2]; rfl)
      have t1 : decide ((a : Int) ≤ 45) = true := decide_eq_true (by omega)
      have t2 : decide ((b : Int) ≤ 90) = false := decide_eq_false (by omega)
      go_enter Try.func11, Try.ntmps11
      go_wp2_with fail
      go_ret
      exact ⟨ret_bool (by rw [HR.out]), (Below.refl _ _).alloc (Nat.le_refl _) _⟩
  · have HR := Lib.hid (show z = false by rw [H.out, decide_eq_false h1]; rfl)
    have t1 : decide ((a : Int) ≤ 45) = false := decide_eq_false (by omega)
    go_enter Try.func11, Try.ntmps11
    go_wp2_with fail
    go_ret
    exact ⟨ret_bool (by rw [HR.out]), (Below.refl _ _).alloc (Nat.le_refl _) _⟩

/-- slices.Contains -/
theorem contains_any (xs : List Int) (x : Int) (A : Option Addr) (B c : Nat) (w : World) (hl : xs.length ≤ maxLen) (hA : Ints w B A xs) :
    Calls Try.prog 65 #[.slice A xs.length c, .int .i64 x] w fun e w' => e = .returned (.bool (decide (x ∈ xs))) ∧ w = w' := by
  rcases Nat.eq_zero_or_pos xs.length with h | h
  · have e : xs = [] := List.eq_nil_of_length_eq_zero h
    subst e
    refine (Try.slices_Contains_int_empty A c x w).mono ?_
    rintro e w' ⟨rfl, rfl⟩
    exact ⟨ret_bool (by simp), rfl⟩
  · obtain ⟨b, off, rfl, _, hc⟩ := Ints.cells hA h
    refine (Try.slices_Contains_int b off xs.length c xs x w (Nat.le_refl _) (by unfold maxLen at hl; omega) hc).mono ?_
    rintro e w' ⟨rfl, rfl⟩
    refine ⟨ret_bool ?_, rfl⟩
    rw [List.take_length, List.contains_eq_mem]
/-- slices.BinarySearch in an ascending list -/
theorem bin_any (xs : List Int) (i : Nat) (A : Option Addr) (B c : Nat) (w : World) (hl : xs.length ≤ 1000000) (hA : Ints w B A xs) (hs : Asc xs) :
    Calls Try.prog 66 #[.slice A xs.length c, .int .i64 (i : Int)] w fun e w' => e = .returned (.tuple #[.int .i64 (cntL xs i : Nat), .bool (decide ((i : Int) ∈ xs))]) ∧ ∃ q, w' = w.drewN q := by
  rcases Nat.eq_zero_or_pos xs.length with h | h
  · have e : xs = [] := List.eq_nil_of_length_eq_zero h
    subst e
    refine (Try.slices_BinarySearch_int_empty A c i w).mono ?_
    rintro e w' ⟨rfl, rfl⟩
    exact ⟨by simp [cntL], 0, rfl⟩
  · obtain ⟨b, off, rfl, _, hc⟩ := Ints.cells hA h
    refine (Try.slices_BinarySearch_int b off xs.length c xs i w (Nat.le_refl _) (by omega) hc (by rw [List.take_length]; exact hs.imp fun h => Int.le_of_lt h)).mono ?_
    rintro e w' ⟨rfl, hq⟩
    refine ⟨?_, hq⟩
    rw [List.take_length, List.contains_eq_mem]
    rfl

end Go.Proofs.Ytiafmhdicgmfaaa
