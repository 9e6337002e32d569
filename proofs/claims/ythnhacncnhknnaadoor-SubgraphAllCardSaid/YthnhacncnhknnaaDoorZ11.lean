import Derived.Test.YthnhacncnhknnaaDoorZ10
import Derived.Test.YthnhacncnhknnaaDoorZ03
import Derived.Test.YthnhacncnhknnaaDoorZ02
import Derived.Shelf.SlSortCmp.WholeK
import Derived.Ground.SlsfProg
import Derived.Ground.NamesProg
import Derived.Test.YthnhacncnhknnaaDoorProg
import Derived.Sort.OwnSortedInts
import Derived.Test.YthnhacncnhknnaaDoorZ09
import Derived.Test.YthnhacncnhknnaaDoorZ05
import Derived.Lay
import Derived.MakeChecks
import Derived.Lib.LaidTab
import Derived.Stop.LaidErr
import Derived.Test.YthnhacncnhknnaaDoorRows
/-
  Graphs, the reference: Components.
-/
namespace Go.Proofs.YthnhacncnhknnaaDoor
open Go.RowKit
open Pt (at_)

abbrev RSl := Option Addr × Nat × Nat
abbrev rsv (r : RSl) : Value := .slice r.1 r.2.1 r.2.2
def ERp : El (RSl × RSl) := ⟨fun x => [rsv x.1, rsv x.2], 2, fun _ => rfl, fun x u hu => by simp at hu; rcases hu with rfl | rfl <;> rfl⟩
/-- the rows behind raw parts -/
def RowsP (w : World) (base : Nat) (rs : List (RSl × RSl)) (ps : List Mo) : Prop := rs.length = ps.length ∧ ∀ (i : Nat) (r : RSl × RSl) (x : Mo), rs[i]? = some r → ps[i]? = some x → OwnI w base (rsv r.1) x.ns ∧ OwnI w base (rsv r.2) x.es
theorem RowsP.below {w w' : World} {base B : Nat} {rs : List (RSl × RSl)} {ps : List Mo} (h : RowsP w base rs ps) (hb : Below B w w') (hB : w.heap.size ≤ B) : RowsP w' base rs ps :=
  ⟨h.1, fun i r x h1 h2 => ⟨OwnE.below (h.2 i r x h1 h2).1 hb hB, OwnE.below (h.2 i r x h1 h2).2 hb hB⟩⟩
theorem RowsP.grow {w w' : World} {base b2 : Nat} {t : TypeId} {rs : List (RSl × RSl)} {ps : List Mo} (h : RowsP w base rs ps) (ht : 3 ≠ t) (hg : Grow t b2 w w') : RowsP w' base rs ps :=
  ⟨h.1, fun i r x h1 h2 => ⟨hg.row ht (h.2 i r x h1 h2).1, hg.row ht (h.2 i r x h1 h2).2⟩⟩
theorem RowsP.snoc {w : World} {base : Nat} {rs : List (RSl × RSl)} {ps : List Mo} {r : RSl × RSl} {x : Mo} (h : RowsP w base rs ps) (h1 : OwnI w base (rsv r.1) x.ns) (h2 : OwnI w base (rsv r.2) x.es) : RowsP w base (rs ++ [r]) (ps ++ [x]) := by
  refine ⟨by simp [h.1], fun i r' x' e1 e2 => ?_⟩
  by_cases hi : i < rs.length
  · rw [List.getElem?_append_left hi] at e1
    rw [List.getElem?_append_left (by rw [← h.1]; exact hi)] at e2
    exact h.2 i r' x' e1 e2
  · rw [List.getElem?_append_right (by omega)] at e1
    rw [List.getElem?_append_right (by rw [← h.1]; omega), ← h.1] at e2
    cases hk : i - rs.length with
    | zero =>
      rw [hk] at e1 e2
      simp only [List.getElem?_cons_zero, Option.some.injEq] at e1 e2
      subst e1 e2
      exact ⟨h1, h2⟩
    | succ k => rw [hk] at e1; simp at e1
theorem isP_rows {w : World} {base b2 : Nat} {v : Value} {rs : List (RSl × RSl)} {ps : List Mo} (h : OwnE ERp 27 w base v rs) (hr : RowsP w b2 rs ps) : IsP w v ps := by
  obtain ⟨A, c, rfl, hR⟩ := OwnE.reads h
  refine ⟨A, c, by rw [hr.1], Reads.lift (D := DPart) hR rfl hr.1.symm fun i x y hx hy => ?_⟩
  obtain ⟨h1, h2⟩ := hr.2 i y x hy hx
  obtain ⟨A1, c1, e1, r1⟩ := OwnE.reads h1
  obtain ⟨A2, c2, e2, r2⟩ := OwnE.reads h2
  exact ⟨A1, c1, A2, c2, by show [rsv y.1, rsv y.2] = _; rw [e1, e2], r1, r2⟩

theorem ne_beq' {a b : Int} (h : a ≠ b) : (a == b) = false := beq_eq_false_iff_ne.2 h
theorem numS_range (n : Nat) : numS 0 n = Pt.toI (List.range n) := by
  apply List.ext_getElem?
  intro i
  unfold numS
  by_cases h : i < n
  · rw [coll_get _ h, Pt.toI_get?, List.getElem?_range h]; simp
  · rw [List.getElem?_eq_none (by rw [coll_len]; omega), List.getElem?_eq_none (by rw [Pt.toI_length, List.length_range]; omega)]
theorem toI_relax (ls : List Nat) (a b : Nat) : ((Pt.toI ls).set a ((min (at_ ls a) (at_ ls b) : Nat) : Int)).set b ((min (at_ ls a) (at_ ls b) : Nat) : Int) = Pt.toI (relax ls a b) := by
  unfold relax Pt.toI
  rw [List.map_set, List.map_set]

theorem far_of {u v : Value} {B : Nat} (h : ∀ q, u.ownBlock = some q → q < B) (h2 : ∀ q, v.ownBlock = some q → B ≤ q) : u.ownBlock = none ∨ u.ownBlock ≠ v.ownBlock := by
  cases e : u.ownBlock with
  | none => exact .inl rfl
  | some q => exact .inr fun e2 => by have := h q e; have := h2 q e2.symm; omega
set_option maxRecDepth 100000 in
set_option maxHeartbeats 8000000 in
theorem compRf : CompC 36 := by
  intro g An cn Ae ce w hT
  have HV := Lib.hid (validR_any g An cn Ae ce _ (hT.up (below_a w (.cells #[.slice An g.ns.length cn, .slice Ae g.es.length ce] 25 (0, 0)))))
  have HT := Lib.hid hT
  have HNO : Hid (validE g ≠ 0 → compR g = []) := Lib.hid fun h => by unfold compR; rw [if_neg h]
  have HYES : Hid (validE g = 0 → compR g = compTo g (lstS g) g.ns.length) := Lib.hid fun h => by unfold compR; rw [if_pos h]
  obtain ⟨v, hv0⟩ : ∃ v, v = validE g := ⟨_, rfl⟩
  have HVE := Lib.hid hv0
  rw [← hv0] at HV HNO HYES ⊢
  clear hT hv0
  generalize compR g = rc at HNO HYES ⊢
  go_enter Tryd.func36, Tryd.ntmps36
  go_wp2_with fail
  refine HV.out.mono ?_
  rintro e w1 ⟨rfl, hb1⟩
  have hb1' := below_one' hb1
  obtain ⟨c0, c1⟩ := box_cell hb1'
  have HB := Lib.hid hb1'
  have HBw := Lib.hid (box_below hb1')
  have hs1 : w.heap.size + 1 ≤ w1.heap.size := by have := hb1'.size; simpa using this
  clear hb1 hb1' HV
  by_cases hv : v = 0
  case neg =>
    have HR := Lib.hid (HNO.out hv)
    have t1 : ((v : Int) != 0) = true := by simp; omega
    clear hv
    go_wp2_with fail
    go_ret2
    exact ⟨⟨_, rfl, by rw [HR.out]; exact isP_nil _⟩, HBw.out⟩
  have HVA := Lib.hid (show validE g = 0 by rw [← HVE.out]; exact hv)
  have HR := Lib.hid (HYES.out hv)
  subst hv
  obtain ⟨l1, l2, _⟩ := valid_zero HVA.out
  have HNM := Lib.hid (numbersR_any 0 g.ns.length w1 (Int.le_refl _) (by omega) (by omega))
  have HXY := Lib.hid (fun k (hk : k < g.es.length) => show ∃ (ty : Int) (a b : Nat), g.es.getD k default = ⟨ty, a, b⟩ ∧ a < g.ns.length ∧ b < g.ns.length ∧ frN g k = a ∧ toN g k = b by
    obtain ⟨⟨f1, f2⟩, f3, f4⟩ := valid_at HVA.out hk
    unfold frN toN
    generalize g.es.getD k default = x at f1 f2 f3 f4 ⊢
    obtain ⟨ty, fr, tt⟩ := x
    dsimp only at f1 f2 f3 f4 ⊢
    exact ⟨ty, fr.toNat, tt.toNat, by rw [Int.toNat_of_nonneg f1, Int.toNat_of_nonneg f3], by omega, by omega, rfl, rfl⟩)
  clear HNO HYES
  go_wp2_with fail
  refine HNM.out.mono ?_
  rintro e w2 ⟨vL, rfl, hoL, hb2⟩
  rw [numS_range] at hoL
  have HOL := Lib.hid (OwnE.mono hoL hs1)
  have HB2 := Lib.hid (HB.out.trans (hb2.mono hs1))
  obtain ⟨aL, cL, hvL⟩ := OwnE.slice hoL
  rw [Pt.toI_length, List.length_range] at hvL
  subst hvL
  clear hoL hb2 HNM HB HBw c0 c1 hs1
  go_wp2_with fail
  go_loopw [6] (fun vi wr => ∃ r : Nat, r ≤ g.ns.length ∧ vi = .int .i64 r ∧ OwnI wr (w.heap.size + 1) (.slice aL g.ns.length cL) (Pt.toI (rnd g r)) ∧ Below (w.heap.size + 1) (w.alloc (.cells #[.slice An g.ns.length cn, .slice Ae g.es.length ce] 25 (0, 0))) wr) (fun vi _ => g.ns.length - (intOf vi).toNat)
  case atStart => exact ⟨0, Nat.zero_le _, rfl, HOL.out, HB2.out⟩
  case round =>
    clear HOL HB2
    obtain ⟨r, hr, rfl, hown, hbel⟩ := hrel
    obtain ⟨c0, c1⟩ := box_cell hbel
    have hs1 : w.heap.size < wr.heap.size := by have := hbel.size; simp at this; omega
    have HO := Lib.hid hown
    have HB := Lib.hid hbel
    clear hown hbel
    by_cases hlr : r < g.ns.length
    · obtain ⟨wo, hwo⟩ : ∃ wo, wo = wr := ⟨_, rfl⟩
      subst hwo
      obtain ⟨gL, capL, hE, hgL, _⟩ := OwnE.pos HO.out (by rw [Pt.toI_length, rnd_len]; omega)
      simp only [Value.slice.injEq] at hE
      obtain ⟨rfl, hjunk, rfl⟩ := hE
      clear hjunk
      go_wp2_with fail
      clear c0 c1
      go_loopw [7] (fun vi wr => ∃ j : Nat, j ≤ g.es.length ∧ vi = .int .i64 j ∧ OwnI wr (w.heap.size + 1) (.slice (some ⟨gL, 0, none⟩) g.ns.length cL) (Pt.toI (relTo g (rnd g r) j)) ∧ Below (w.heap.size + 1) (w.alloc (.cells #[.slice An g.ns.length cn, .slice Ae g.es.length ce] 25 (0, 0))) wr) (fun vi _ => g.es.length - (intOf vi).toNat)
      case atStart => exact ⟨0, Nat.zero_le _, rfl, HO.out, HB.out⟩
      case round =>
        clear HO HB
        obtain ⟨j, hj, rfl, hown, hbel⟩ := hrel
        obtain ⟨c0, c1⟩ := box_cell hbel
        have hs2 : w.heap.size < wr.heap.size := by have := hbel.size; simp at this; omega
        have HO := Lib.hid hown
        have HB := Lib.hid hbel
        have HBw := Lib.hid (box_below hbel)
        clear hown hbel
        by_cases hlj : j < g.es.length
        · obtain ⟨ty, a, b, g1, ha, hb, g4, g5⟩ := HXY.out j hlj
          obtain ⟨bb, off, rfl, hbb, hc⟩ := Eds.cells (HT.out.es.below HBw.out) hlj
          obtain ⟨k0, k1, k2⟩ := hc j hlj
          rw [g1] at k0 k1 k2
          have HST : Hid (relax (relTo g (rnd g r) j) a b = relTo g (rnd g r) (j + 1)) := Lib.hid (by simp only [relTo]; rw [g4, g5])
          have hln : (Pt.toI (relTo g (rnd g r) j)).length = g.ns.length := by rw [Pt.toI_length, relTo_len, rnd_len]
          have ca := OwnI.cell hln.symm HO.out ha
          have cb := OwnI.cell hln.symm HO.out hb
          have fa := OwnI.free hln.symm HO.out a
          have fb := OwnI.free hln.symm HO.out b
          rw [Pt.toI_at] at ca cb
          have HFQ : Hid (∀ q, OwnI (((wr.drewN q).setCell ⟨gL, a, none⟩ (.int .i64 (min ((at_ (relTo g (rnd g r) j) a : Nat) : Int) ((at_ (relTo g (rnd g r) j) b : Nat) : Int)))).setCell ⟨gL, b, none⟩ (.int .i64 (min ((at_ (relTo g (rnd g r) j) a : Nat) : Int) ((at_ (relTo g (rnd g r) j) b : Nat) : Int)))) (w.heap.size + 1) (.slice (some ⟨gL, 0, none⟩) g.ns.length cL) (Pt.toI (relTo g (rnd g r) (j + 1))) ∧ (∃ yb, ((wr.drewN q).setCell ⟨gL, a, none⟩ (.int .i64 (min ((at_ (relTo g (rnd g r) j) a : Nat) : Int) ((at_ (relTo g (rnd g r) j) b : Nat) : Int)))).cell? ⟨gL, b, none⟩ = some yb) ∧ ((wr.drewN q).setCell ⟨gL, a, none⟩ (.int .i64 (min ((at_ (relTo g (rnd g r) j) a : Nat) : Int) ((at_ (relTo g (rnd g r) j) b : Nat) : Int)))).frozen? ⟨gL, b, none⟩ = false) := Lib.hid fun q => by
            have em : min ((at_ (relTo g (rnd g r) j) a : Nat) : Int) ((at_ (relTo g (rnd g r) j) b : Nat) : Int) = ((min (at_ (relTo g (rnd g r) j) a) (at_ (relTo g (rnd g r) j) b) : Nat) : Int) := by omega
            rw [em]
            have hq := OwnE.below HO.out (below_draws (Below.refl _ _) q) (Nat.le_refl _)
            have hset := OwnI.set hln.symm hq a ((min (at_ (relTo g (rnd g r) j) a) (at_ (relTo g (rnd g r) j) b) : Nat) : Int)
            have hset2 := OwnI.set (by rw [List.length_set]; exact hln.symm) hset.1 b ((min (at_ (relTo g (rnd g r) j) a) (at_ (relTo g (rnd g r) j) b) : Nat) : Int)
            rw [toI_relax, HST.out] at hset2
            exact ⟨hset2.1, ⟨_, OwnI.cell (by rw [List.length_set]; exact hln.symm) hset.1 hb⟩, OwnI.free (by rw [List.length_set]; exact hln.symm) hset.1 b⟩
          have HLN := Lib.hid hln
          clear hc g1 g4 g5 hln HST
          dsimp only at k0 k1 k2
          generalize at_ (relTo g (rnd g r) j) a = x at *
          generalize at_ (relTo g (rnd g r) j) b = y at *
          have j0 : (0 : Int) ≤ (j : Int) := by omega
          have j1 : (j : Int) < (g.es.length : Int) := by omega
          have j2 : ((j : Int)).toNat = j := by omega
          have ja0 : (0 : Int) ≤ (a : Int) := by omega
          have ja1 : (a : Int) < (g.ns.length : Int) := by omega
          have ja2 : ((a : Int)).toNat = a := by omega
          have jb0 : (0 : Int) ≤ (b : Int) := by omega
          have jb1 : (b : Int) < (g.ns.length : Int) := by omega
          have jb2 : ((b : Int)).toNat = b := by omega
          go_wp2_with fail
          go_quiet (fail)
          generalize nq = q1
          go_wp2_with fail
          go_quiet (fail)
          obtain ⟨HS2', ⟨yb, hyb⟩, hyf⟩ := HFQ.out (q1 + nq)
          have HS2 := Lib.hid HS2'
          clear HS2'
          go_wp2_with fail
          go_roundw
          case rel => exact ⟨j + 1, by omega, by go_num, HS2.out, ((below_draws HB.out (q1 + nq)).setCell (p := ⟨gL, a, none⟩) hgL _).setCell (p := ⟨gL, b, none⟩) hgL _⟩
          case measure => simp [intOf]; omega
        · have e : j = g.es.length := by omega
          subst e
          go_wp2_with fail
          go_roundw
          case rel => exact ⟨r + 1, by omega, by go_num, HO.out, HB.out⟩
          case measure => simp [intOf]; omega
    · have e : r = g.ns.length := by omega
      subst e
      obtain ⟨wo, hwo⟩ : ∃ wo, wo = wr := ⟨_, rfl⟩
      subst hwo
      have HOL := Lib.hid (OwnE.cast (by rw [rnd_all HVA.out]) HO.out)
      have HWL : Hid (∀ W, Below wo.heap.size wo W → ∀ i, i < g.ns.length → ∃ b off, aL = some ⟨b, off, none⟩ ∧ b < W.heap.size ∧ W.cell? ⟨b, off + i, none⟩ = some (.int .i64 (at_ (lstS g) i : Nat))) := Lib.hid fun W h i hi => by
        obtain ⟨A, c, e, hR⟩ := OwnE.reads (OwnE.below HOL.out h (Nat.le_refl _))
        simp only [Value.slice.injEq] at e
        obtain ⟨rfl, _, _⟩ := e
        have hll : (Pt.toI (lstS g)).length = g.ns.length := by rw [Pt.toI_length, lstS_len]
        obtain ⟨b, off, e1, e2, e3⟩ := Ints.cells hR (k := i) (by rw [hll]; exact hi)
        exact ⟨b, off, e1, e2, by rw [e3 i (by rw [hll]; exact hi), Pt.toI_at]⟩
      have HWB := Lib.hid (fun W (h : Below wo.heap.size wo W) => box_cell (HB.out.trans (h.mono (by omega))))
      have HWw := Lib.hid (fun W (h : Below wo.heap.size wo W) => box_below (HB.out.trans (h.mono (by omega))))
      have HCY := Lib.hid (fun k (h : at_ (lstS g) k = k) => show compTo g (lstS g) k ++ [⟨ndsOf (lstS g) g.ns.length k, edsOf g (lstS g) g.es.length k⟩] = compTo g (lstS g) (k + 1) by unfold compTo; rw [Pt.fixsTo_yes h, List.map_append]; rfl)
      have HCN := Lib.hid (fun k (h : at_ (lstS g) k ≠ k) => show compTo g (lstS g) (k + 1) = compTo g (lstS g) k by unfold compTo; rw [Pt.fixsTo_no h])
      have HC0 : Hid (compTo g (lstS g) 0 = []) := Lib.hid rfl
      have HCL := Lib.hid (fun k => show (compTo g (lstS g) k).length ≤ k by rw [compTo_len]; exact Pt.rank_le _ _)
      have HND := Lib.hid (fun r i => show ndsOf (lstS g) (i + 1) r = ndsOf (lstS g) i r ++ (if at_ (lstS g) i = r then [(i : Int)] else []) from rfl)
      have HED := Lib.hid (fun r i => show edsOf g (lstS g) (i + 1) r = edsOf g (lstS g) i r ++ (if at_ (lstS g) (frN g i) = r then [(i : Int)] else []) from rfl)
      have HNL := Lib.hid (fun r i => show (ndsOf (lstS g) i r).length ≤ i from coll_le (fun i => by split <;> simp) i)
      have HEL := Lib.hid (fun r i => show (edsOf g (lstS g) i r).length ≤ i from coll_le (fun i => by split <;> simp) i)
      have HN0 : Hid (∀ r, ndsOf (lstS g) 0 r = []) := Lib.hid fun r => rfl
      have HE0 : Hid (∀ r, edsOf g (lstS g) 0 r = []) := Lib.hid fun r => rfl
      clear HO HB hr hlr HOL
      generalize ndsOf (lstS g) = nd at *
      generalize edsOf g (lstS g) = ed at *
      generalize compTo g (lstS g) = cp at *
      generalize at_ (lstS g) = L at *
      go_wp2_with fail
      clear c0 c1
      go_loopw [11, 12] (fun vo vi wr => ∃ (k : Nat) (rs : List (RSl × RSl)), k ≤ g.ns.length ∧ vi = .int .i64 k ∧ OwnE ERp 27 wr wo.heap.size vo rs ∧ RowsP wr wo.heap.size rs (cp k) ∧ Below wo.heap.size wo wr) (fun _ vi _ => g.ns.length - (intOf vi).toNat)
      case atStart => exact ⟨0, [], Nat.zero_le _, rfl, OwnE.nil _ _ _, by rw [HC0.out]; exact ⟨rfl, fun i r x h => by simp at h⟩, Below.refl _ _⟩
      case round =>
        obtain ⟨k, rs, hk, rfl, hown, hrows, hbel⟩ := hrel
        have HO := Lib.hid hown
        have HRW := Lib.hid hrows
        have HG := Lib.hid hbel
        have hs3 := hbel.size
        obtain ⟨c0, c1⟩ := HWB.out _ HG.out
        have z0 : w.heap.size < wr.heap.size := by omega
        have hrl : rs.length ≤ 40 := by have := hrows.1; have := HCL.out k; omega
        obtain ⟨ao, cap, rfl⟩ := OwnE.slice hown
        clear hown hrows hbel
        by_cases hlt : k < g.ns.length
        · obtain ⟨bL, offL, rfl, hbL, q0⟩ := HWL.out _ HG.out k hlt
          by_cases hroot : L k = k
          case neg =>
            have HCN' := Lib.hid (HCN.out k hroot)
            generalize L k = y at q0 hroot
            have t1 : ((y : Int) != (k : Int)) = true := by simp; omega
            clear hroot
            go_wp2_with fail
            go_roundw
            case rel => exact ⟨k + 1, rs, by omega, by go_num, HO.out, by rw [HCN'.out]; exact HRW.out, HG.out⟩
            case measure => simp [intOf]; omega
          have HCY' := Lib.hid (HCY.out k hroot)
          rw [hroot] at q0
          have t1 : ((k : Int) != (k : Int)) = false := by simp
          clear hroot
          obtain ⟨wp, hwp⟩ : ∃ wp, wp = wr := ⟨_, rfl⟩
          subst hwp
          have HP0 : Hid (BoxIs wp.heap.size (.slice none 0 0) (.slice none 0 0) 27 (wp.alloc (.cells #[.slice none 0 0, .slice none 0 0] 27 (0, 0)))) := Lib.hid (heap_alloc_new _ _)
          have HPB := Lib.hid (below_a wp (.cells #[.slice none 0 0, .slice none 0 0] 27 (0, 0)))
          have HGT := Lib.hid (fun W (h : Below wp.heap.size wp W) => HG.out.trans (h.mono hs3))
          go_wp2_with fail
          clear c0 c1 q0 t1
          go_loopw [14] (fun vi wr => ∃ (i : Nat) (vN : Value), i ≤ g.ns.length ∧ vi = .int .i64 i ∧ BoxIs wp.heap.size vN (.slice none 0 0) 27 wr ∧ OwnI wr (wp.heap.size + 1) vN (nd i k) ∧ Below wp.heap.size wp wr) (fun vi _ => g.ns.length - (intOf vi).toNat)
          case atStart => exact ⟨0, _, Nat.zero_le _, rfl, HP0.out, by rw [HN0.out]; exact OwnE.nil _ _ _, HPB.out⟩
          case round =>
            obtain ⟨i, vN, hi, rfl, hbl, hown, hbel⟩ := hrel
            have HBL := Lib.hid hbl
            have HGP := Lib.hid hbel
            have hsz := heap_lt hbl
            obtain ⟨aN, cN, rfl⟩ := OwnE.slice hown
            have HON := Lib.hid hown
            clear hbl hown hbel
            obtain ⟨c0, c1⟩ := HWB.out _ (HGT.out _ HGP.out)
            obtain ⟨b0, b1⟩ := BoxIs.cells HBL.out
            have bf := BoxIs.free HBL.out 0
            have z1 : w.heap.size < wr.heap.size := by omega
            by_cases hli : i < g.ns.length
            · obtain ⟨bL2, offL2, hE2, hbL2, q1⟩ := HWL.out _ (HGT.out _ HGP.out) i hli
              simp only [Option.some.injEq, Addr.mk.injEq, and_true] at hE2
              obtain ⟨rfl, rfl⟩ := hE2
              have hNDi := HND.out k i
              have hle := HNL.out k i
              by_cases hLi : L i = k
              · rw [if_pos hLi] at hNDi
                rw [hLi] at q1
                have HN2 := Lib.hid hNDi
                have t1 : ((k : Int) == (k : Int)) = true := by simp
                clear hLi hNDi
                go_wp2_with (at_builtin; refine wpList_append_int (w := wr.alloc _) rfl _ _ rfl (wp.heap.size + 1) _ (nd i k) rfl ?y1 wr.heap.size 1 (i : Int) rfl ?y2 ?y3 ?y4 ?_)
                case y1 => exact HON.out.alloc _
                case y2 => exact cell_new _ _ _
                case y3 => omega
                case y4 => first | omega | (simp; omega)
                intro v3 w3 ho3 hg3 hb3
                have hgr := Grow.own (HON.out.alloc _) hg3 hb3
                have HB3 := Lib.hid ((BoxIs.up HBL.out (below_a _ _)).grow (by decide) hgr)
                have HG3 := Lib.hid ((HGP.out.trans ((below_a _ _).mono (by omega))).trans (hb3.mono (Nat.le_succ _)))
                have ho3' := OwnE.cast HN2.out.symm ho3
                obtain ⟨ao3, cap3, rfl⟩ := OwnE.slice ho3'
                have HO3 := Lib.hid ho3'
                clear ho3 ho3' hg3 hb3 hgr b0 b1 bf
                obtain ⟨b0, b1⟩ := BoxIs.cells HB3.out
                have bf := BoxIs.free HB3.out 0
                go_wp2_with fail
                go_roundw
                case rel => exact ⟨i + 1, _, by omega, by go_num, BoxIs.set0 HB3.out _, OwnE.setBox HO3.out HB3.out (by decide) 0, HG3.out.setCell (p := ⟨wp.heap.size, 0, none⟩) (Nat.le_refl _) _⟩
                case measure => simp [intOf]; omega
              · rw [if_neg hLi, List.append_nil] at hNDi
                have HN2 := Lib.hid hNDi
                generalize L i = y at q1 hLi
                have t1 : ((y : Int) == (k : Int)) = false := ne_beq' (by omega)
                clear hLi hNDi
                go_wp2_with fail
                go_roundw
                case rel => exact ⟨i + 1, _, by omega, by go_num, HBL.out, OwnE.cast HN2.out.symm HON.out, HGP.out⟩
                case measure => simp [intOf]; omega
            · have e : i = g.ns.length := by omega
              subst e
              obtain ⟨w5, hw5⟩ : ∃ w5, w5 = wr := ⟨_, rfl⟩
              subst hw5
              have HNB := Lib.hid (fun q (hq : (Value.slice aN (nd g.ns.length k).length cN).ownBlock = some q) => (OwnE.lt HON.out q hq).2)
              have hz5 := HGP.out.size
              go_wp2_with fail
              clear c0 c1 b0 b1 bf
              go_loopw [15] (fun vi wr => ∃ (j : Nat) (vE : Value), j ≤ g.es.length ∧ vi = .int .i64 j ∧ BoxIs wp.heap.size (.slice aN (nd g.ns.length k).length cN) vE 27 wr ∧ OwnI wr (wp.heap.size + 1) (.slice aN (nd g.ns.length k).length cN) (nd g.ns.length k) ∧ OwnI wr w5.heap.size vE (ed j k) ∧ Below wp.heap.size wp wr ∧ w5.heap.size ≤ wr.heap.size) (fun vi _ => g.es.length - (intOf vi).toNat)
              case atStart => exact ⟨0, _, Nat.zero_le _, rfl, HBL.out, HON.out, by rw [HE0.out]; exact OwnE.nil _ _ _, HGP.out, Nat.le_refl _⟩
              case round =>
                clear HBL HON HGP
                obtain ⟨j, vE, hj, rfl, hbl, hownN, hown, hbel, hz6⟩ := hrel
                have HBL := Lib.hid hbl
                have HGP := Lib.hid hbel
                have hsz6 := heap_lt hbl
                obtain ⟨aE, cE, rfl⟩ := OwnE.slice hown
                have HON := Lib.hid hownN
                have HOE := Lib.hid hown
                clear hbl hown hbel hownN
                obtain ⟨c0, c1⟩ := HWB.out _ (HGT.out _ HGP.out)
                obtain ⟨b0, b1⟩ := BoxIs.cells HBL.out
                have bf := BoxIs.free HBL.out 1
                have z2 : w.heap.size < wr.heap.size := by omega
                by_cases hlj : j < g.es.length
                · obtain ⟨ty, a, b, g1, ha, hb, g4, g5⟩ := HXY.out j hlj
                  obtain ⟨bb, off, rfl, hbb, hc⟩ := Eds.cells (HT.out.es.below (HWw.out _ (HGT.out _ HGP.out))) hlj
                  obtain ⟨k0, k1, k2⟩ := hc j hlj
                  rw [g1] at k0 k1 k2
                  dsimp only at k0 k1 k2
                  obtain ⟨bL2, offL2, hE2, hbL2, q1⟩ := HWL.out _ (HGT.out _ HGP.out) a ha
                  simp only [Option.some.injEq, Addr.mk.injEq, and_true] at hE2
                  obtain ⟨rfl, rfl⟩ := hE2
                  have hEDj := HED.out k j
                  rw [g4] at hEDj
                  have hle := HEL.out k j
                  have ja0 : (0 : Int) ≤ (a : Int) := by omega
                  have ja1 : (a : Int) < (g.ns.length : Int) := by omega
                  have ja2 : ((a : Int)).toNat = a := by omega
                  clear hc g1 g4 g5
                  by_cases hLa : L a = k
                  · rw [if_pos hLa] at hEDj
                    rw [hLa] at q1
                    have HE2 := Lib.hid hEDj
                    have t1 : ((k : Int) == (k : Int)) = true := by simp
                    clear hLa hEDj
                    go_wp2_with (at_builtin; refine wpList_append_int (w := wr.alloc _) rfl _ _ rfl w5.heap.size _ (ed j k) rfl ?y1 wr.heap.size 1 (j : Int) rfl ?y2 ?y3 ?y4 ?_)
                    case y1 => exact HOE.out.alloc _
                    case y2 => exact cell_new _ _ _
                    case y3 => omega
                    case y4 => first | omega | (simp; omega)
                    intro v3 w3 ho3 hg3 hb3
                    have hgr := Grow.own (HOE.out.alloc _) hg3 hb3
                    have HB3 := Lib.hid ((BoxIs.up HBL.out (below_a _ _)).grow (by decide) hgr)
                    have HG3 := Lib.hid ((HGP.out.trans ((below_a _ _).mono (by omega))).trans (hb3.mono (by omega)))
                    have HN3 := Lib.hid (OwnE.kept (HON.out.alloc _) hg3 (far_of HNB.out fun q hq => (OwnE.lt HOE.out q hq).1))
                    have hz7 : w5.heap.size ≤ w3.heap.size := by have := hb3.size; simp at this; omega
                    have ho3' := OwnE.cast HE2.out.symm ho3
                    obtain ⟨ao3, cap3, rfl⟩ := OwnE.slice ho3'
                    have HO3 := Lib.hid ho3'
                    clear ho3 ho3' hg3 hb3 hgr b0 b1 bf
                    obtain ⟨b0, b1⟩ := BoxIs.cells HB3.out
                    have bf := BoxIs.free HB3.out 1
                    go_wp2_with fail
                    go_roundw
                    case rel => exact ⟨j + 1, _, by omega, by go_num, BoxIs.set1 HB3.out _, OwnE.setBox HN3.out HB3.out (by decide) 1, OwnE.setBox HO3.out HB3.out (by decide) 1, HG3.out.setCell (p := ⟨wp.heap.size, 1, none⟩) (Nat.le_refl _) _, by simpa using hz7⟩
                    case measure => simp [intOf]; omega
                  · rw [if_neg hLa, List.append_nil] at hEDj
                    have HE2 := Lib.hid hEDj
                    generalize L a = y at q1 hLa
                    have t1 : ((y : Int) == (k : Int)) = false := ne_beq' (by omega)
                    clear hLa hEDj
                    go_wp2_with fail
                    go_roundw
                    case rel => exact ⟨j + 1, _, by omega, by go_num, HBL.out, HON.out, OwnE.cast HE2.out.symm HOE.out, HGP.out, hz6⟩
                    case measure => simp [intOf]; omega
                · have e : j = g.es.length := by omega
                  subst e
                  have HOR := Lib.hid (OwnE.below HO.out HGP.out (Nat.le_refl _))
                  have HRR := Lib.hid (RowsP.below HRW.out HGP.out (Nat.le_refl _))
                  have hz8 := HGP.out.size
                  go_wp2_with (at_builtin; refine wpList_append_E (E := ERp) (w := wr.alloc _) rfl _ _ 60 27 rfl Tryd.underlying60 infoPart rfl (by decide) (by decide) wo.heap.size _ rs rfl ?y1 ⟨wr.heap.size, 0, none⟩ 1 ((aN, (nd g.ns.length k).length, cN), (aE, (ed g.es.length k).length, cE)) rfl ?y2 ?y3 ?y4 ?_)
                  case y1 => exact HOR.out.alloc _
                  case y2 => exact news_of (E := ERp) (heap_alloc_new _ _) rfl
                  case y3 => omega
                  case y4 => first | omega | (simp; omega)
                  intro v3 w3 ho3 hg3 hb3
                  have hgr := Grow.own (HOR.out.alloc _) hg3 hb3
                  have hr3 := RowsP.snoc (r := ((aN, (nd g.ns.length k).length, cN), (aE, (ed g.es.length k).length, cE))) (x := ⟨nd g.ns.length k, ed g.es.length k⟩) ((RowsP.below HRR.out (below_a _ _) (Nat.le_refl _)).grow (by decide) hgr) (hgr.row (by decide) ((OwnE.mono HON.out (by omega)).alloc _)) (hgr.row (by decide) ((OwnE.mono HOE.out (by omega)).alloc _))
                  rw [HCY'.out] at hr3
                  have HR3 := Lib.hid hr3
                  have HG3 := Lib.hid ((HGT.out _ HGP.out).trans (((below_a _ _).mono (by omega)).trans hb3))
                  obtain ⟨ao3, cap3, rfl⟩ := OwnE.slice ho3
                  have HO3 := Lib.hid ho3
                  clear ho3 hg3 hb3 hgr hr3 b0 b1 bf
                  go_wp2_with fail
                  go_roundw
                  case rel => exact ⟨k + 1, _, by omega, by go_num, HO3.out, HR3.out, HG3.out⟩
                  case measure => simp [intOf]; omega
        · have e : k = g.ns.length := by omega
          subst e
          have HPP := Lib.hid (isP_rows HO.out HRW.out)
          have HBF := Lib.hid (HWw.out _ HG.out)
          go_wp2_with fail
          go_ret2
          exact ⟨⟨_, rfl, by rw [HR.out]; exact HPP.out⟩, HBF.out⟩

end Go.Proofs.YthnhacncnhknnaaDoor

/-
  DERIVED: THE SHELF's CONTRACTS AT THIS DUMP, IN PLAIN WORDS (tools/lay-plain.mjs out of 'TrydShelf2.lean', which tools/lay-shelf.mjs wrote): THE SAME DECLARATIONS UNDER THE SAME NAMES: 'import', 'namespace', 'open', 'def', 'theorem' AND NOTHING ELSE: no command of the shelf's: FOR A HAND-IN. Each laying: the table of numbers ('.._ren') and one theorem, a field a fact of the dump's own or the kernel's comparison; each contract: ONE APPLICATION.
-/
namespace Go.Proofs
open Go.Shelf
def Tryd.sortPart_ren : Go.Shelf.Ren := ⟨fun | 6 => 70 | 15 => 95 | 14 => 94 | 28 => 116 | 29 => 117 | 20 => 108 | 21 => 109 | 22 => 110 | 23 => 111 | 24 => 112 | 25 => 113 | 26 => 114 | 27 => 115 | 46 => 124 | 47 => 125 | 48 => 126 | 49 => 127 | 50 => 128 | 57 => 137 | n => n, fun | 22 => 60 | 24 => 27 | 25 => 65 | 3 => 3 | 39 => 88 | 0 => 0 | 53 => 114 | 55 => 28 | 4 => 4 | 46 => 118 | 45 => 117 | 50 => 109 | 5 => 5 | 9 => 9 | 66 => 128 | 70 => 132 | 76 => 139 | 77 => 140 | n => n, fun | n => n⟩
theorem Tryd.sortPart : Go.Proofs.SlLaysF0.n6 Tryd.prog Tryd.sortPart_ren := {
  mixed := by kernel_rfl
  f6 := ⟨Tryd.f70.name, by decide, Tryd.func70.trans (congrArg some (by kernel_rfl))⟩
  f14 := ⟨Tryd.f94.name, by decide, Tryd.func94.trans (congrArg some (by kernel_rfl))⟩
  f15 := Tryd.func95.trans (congrArg some (by kernel_rfl))
  f20 := ⟨Tryd.f108.name, by decide, Tryd.func108.trans (congrArg some (by kernel_rfl))⟩
  f21 := ⟨Tryd.f109.name, by decide, Tryd.func109.trans (congrArg some (by kernel_rfl))⟩
  f22 := ⟨Tryd.f110.name, by decide, Tryd.func110.trans (congrArg some (by kernel_rfl))⟩
  f23 := ⟨Tryd.f111.name, by decide, Tryd.func111.trans (congrArg some (by kernel_rfl))⟩
  f24 := ⟨Tryd.f112.name, by decide, Tryd.func112.trans (congrArg some (by kernel_rfl))⟩
  f25 := ⟨Tryd.f113.name, by decide, Tryd.func113.trans (congrArg some (by kernel_rfl))⟩
  f26 := ⟨Tryd.f114.name, by decide, Tryd.func114.trans (congrArg some (by kernel_rfl))⟩
  f27 := ⟨Tryd.f115.name, by decide, Tryd.func115.trans (congrArg some (by kernel_rfl))⟩
  f28 := Tryd.func116.trans (congrArg some (by kernel_rfl))
  f29 := Tryd.func117.trans (congrArg some (by kernel_rfl))
  f46 := ⟨Tryd.f124.name, by decide, Tryd.func124.trans (congrArg some (by kernel_rfl))⟩
  f47 := Tryd.func125.trans (congrArg some (by kernel_rfl))
  f48 := Tryd.func126.trans (congrArg some (by kernel_rfl))
  f49 := ⟨Tryd.f127.name, by decide, Tryd.func127.trans (congrArg some (by kernel_rfl))⟩
  f50 := ⟨Tryd.f128.name, by decide, Tryd.func128.trans (congrArg some (by kernel_rfl))⟩
  f57 := ⟨Tryd.f137.name, by decide, Tryd.func137.trans (congrArg some (by kernel_rfl))⟩
  t0 := Tryd.underlying0
  a0 := Tryd.isAgg0
  z0 := Tryd.sizeOf0
  v0 := Tryd.zeroValue0
  t3 := Tryd.underlying3
  a3 := Tryd.isAgg3
  z3 := Tryd.sizeOf3
  v3 := Tryd.zeroValue3
  t4 := Tryd.underlying4
  a4 := Tryd.isAgg4
  z4 := Tryd.sizeOf4
  v4 := Tryd.zeroValue4
  t5 := Tryd.underlying5
  a5 := Tryd.isAgg5
  z5 := Tryd.sizeOf5
  v5 := Tryd.zeroValue5
  t9 := Tryd.underlying9
  a9 := Tryd.isAgg9
  z9 := Tryd.sizeOf9
  v9 := Tryd.zeroValue9
  t22 := Tryd.underlying60
  a22 := Tryd.isAgg60
  z22 := Tryd.sizeOf60
  v22 := Tryd.zeroValue60
  t25 := Tryd.underlying65
  a25 := Tryd.isAgg65
  z25 := Tryd.sizeOf65
  v25 := Tryd.zeroValue65
  t39 := Tryd.underlying88
  a39 := Tryd.isAgg88
  z39 := Tryd.sizeOf88
  v39 := Tryd.zeroValue88
  t45 := Tryd.underlying117
  a45 := Tryd.isAgg117
  z45 := Tryd.sizeOf117
  v45 := Tryd.zeroValue117
  t46 := Tryd.underlying118
  a46 := Tryd.isAgg118
  z46 := Tryd.sizeOf118
  v46 := Tryd.zeroValue118
  t50 := Tryd.underlying109
  a50 := Tryd.isAgg109
  z50 := Tryd.sizeOf109
  v50 := Tryd.zeroValue109
  t53 := Tryd.underlying114
  a53 := Tryd.isAgg114
  z53 := Tryd.sizeOf114
  v53 := Tryd.zeroValue114
  t55 := Tryd.underlying28
  a55 := Tryd.isAgg28
  z55 := Tryd.sizeOf28
  v55 := Tryd.zeroValue28
  t66 := Tryd.underlying128
  a66 := Tryd.isAgg128
  z66 := Tryd.sizeOf128
  v66 := Tryd.zeroValue128
  t70 := Tryd.underlying132
  a70 := Tryd.isAgg132
  z70 := Tryd.sizeOf132
  v70 := Tryd.zeroValue132
  t76 := Tryd.underlying139
  a76 := Tryd.isAgg139
  z76 := Tryd.sizeOf139
  v76 := Tryd.zeroValue139
  t77 := Tryd.underlying140
  a77 := Tryd.isAgg140
  z77 := Tryd.sizeOf140
  v77 := Tryd.zeroValue140 }
end Go.Proofs

/-
  The program's sort of parts: slices.SortFunc by its comparison.
-/
namespace Go.Proofs.YthnhacncnhknnaaDoor
open Go.RowKit Go.Shelf

theorem heap_sortedV {w : World} {g n : Nat} {os : Array Obj} {cur : Array Value} {e : TypeId} {fr : Nat × Nat} (d : Array Value) (hb : w.heap[g]? = some (.cells cur e fr)) :
    (Sort.grow (Sort.putRow id (Sort.ahead w n) g 0 d) os).heap[g]? = some (.cells (Sort.putCells id 0 d cur) e fr) := by
  have hg : g < w.heap.size := (Array.getElem?_eq_some_iff.1 hb).1
  rw [Sort.heap_grow_old _ _ (by simpa using hg)]
  simp [Sort.putRow, Sort.mapBlock, Sort.ahead, Array.getElem?_modify, hb, Sort.onCells]
theorem grownBy_sortedV {w : World} {g n : Nat} {os : Array Obj} (d : Array Value) : w.grownBy (Sort.grow (Sort.putRow id (Sort.ahead w n) g 0 d) os) (some g) := by
  refine ⟨rfl, rfl, rfl, by simp, fun k hk hne => ?_⟩
  rw [Sort.heap_grow_old _ _ (by simpa using hk)]
  have : g ≠ k := fun e => hne (by rw [e])
  simp [Sort.putRow, Sort.mapBlock, Sort.ahead, Array.getElem?_modify, this]
theorem take_putCellsV (cur : Array Value) (F : Array Value) (h : F.size ≤ cur.size) : (Sort.putCells id 0 F cur).toList.take F.size = F.toList := by
  apply List.ext_getElem?
  intro j
  by_cases hj : j < F.size
  · rw [List.getElem?_take_of_lt hj, Array.getElem?_toList, Array.getElem?_toList]
    simp [Sort.putCells, hj, show j < cur.size by omega]
  · rw [List.getElem?_take_eq_none (by omega), List.getElem?_eq_none (by simp; omega)]

/-- the numbers of rows, and what stands there -/
def rwAt (rs : List (RSl × RSl)) (i : Nat) : List Value := ERp.enc (rs.getD i default)
theorem rwAt_two (rs : List (RSl × RSl)) (i : Nat) : rwAt rs i = [rsv (rs.getD i default).1, rsv (rs.getD i default).2] := rfl
theorem flat_rows (rs : List (RSl × RSl)) (d : Array Nat) : (Sort.flatK (rwAt rs) 2 d).toList = cellsE ERp (d.toList.map fun i => rs.getD i default) := by
  apply List.ext_getElem?
  intro t
  by_cases ht : t < d.size * 2
  · have h1 : (Sort.flatK (rwAt rs) 2 d).toList[t]? = some ((rwAt rs d[t / 2]!)[t % 2]!) := by
      rw [Array.getElem?_toList]
      simp [Sort.flatK, ht]
    have hq : t / 2 < d.size := by omega
    have h2 : (d.toList.map fun i => rs.getD i default)[t / 2]? = some (rs.getD d[t / 2]! default) := by
      rw [List.getElem?_map, Array.getElem?_toList, Array.getElem?_eq_getElem hq]
      simp [hq]
    have h3 := cellsE_get ERp h2 (j := t % 2) (u := (rwAt rs d[t / 2]!)[t % 2]!) (by
      show (rwAt rs d[t / 2]!)[t % 2]? = _
      rw [rwAt_two]
      have : t % 2 = 0 ∨ t % 2 = 1 := by omega
      rcases this with e | e <;> rw [e] <;> rfl)
    rw [h1, show t = t / 2 * ERp.size + t % 2 from (show t = t / 2 * 2 + t % 2 by omega)]
    rw [h3]
    have e1 : (t / 2 * ERp.size + t % 2) / 2 = t / 2 := by show (t / 2 * 2 + t % 2) / 2 = t / 2; omega
    have e2 : (t / 2 * ERp.size + t % 2) % 2 = t % 2 := by show (t / 2 * 2 + t % 2) % 2 = t % 2; omega
    rw [e1, e2]
  · rw [List.getElem?_eq_none (by simp; omega), List.getElem?_eq_none (by rw [cellsE_length]; show (d.toList.map _).length * 2 ≤ t; simp; omega)]
theorem rows_at {w : World} {B : Nat} {rs : List (RSl × RSl)} {l : List Mo} (h : RowsP w B rs l) (hl : ∀ x ∈ l, x.ns.length ≤ 1000 ∧ x.es.length ≤ 1000) (i : Nat) :
    ∃ A a A' a', rwAt rs i = [.slice A (l.getD i default).ns.length a, .slice A' (l.getD i default).es.length a'] ∧ PtAt w A A' (l.getD i default) := by
  by_cases hi : i < l.length
  · have e1 : rs[i]? = some (rs.getD i default) := by
      rw [List.getD_eq_getElem?_getD, List.getElem?_eq_getElem (by rw [h.1]; exact hi)]; rfl
    have e2 : l[i]? = some (l.getD i default) := by
      rw [List.getD_eq_getElem?_getD, List.getElem?_eq_getElem hi]; rfl
    obtain ⟨h1, h2⟩ := h.2 i _ _ e1 e2
    obtain ⟨A1, c1, q1, r1⟩ := OwnE.reads h1
    obtain ⟨A2, c2, q2, r2⟩ := OwnE.reads h2
    have hm := hl _ (getD_mem (d := default) hi)
    exact ⟨A1, c1, A2, c2, by rw [rwAt_two, q1, q2], ⟨r1, r2, hm.1, hm.2⟩⟩
  · have e1 : rs.getD i default = default := by rw [List.getD_eq_getElem?_getD, List.getElem?_eq_none (by rw [h.1]; omega)]; rfl
    have e2 : l.getD i default = default := by rw [List.getD_eq_getElem?_getD, List.getElem?_eq_none (by omega)]; rfl
    rw [rwAt_two, e1, e2]
    exact ⟨none, 0, none, 0, rfl, ⟨.inl rfl, .inl rfl, Nat.zero_le _, Nat.zero_le _⟩⟩
theorem RowsP.kept {w w' : World} {B g : Nat} {rs : List (RSl × RSl)} {l : List Mo} {cs : Array Value} (h : RowsP w B rs l) (hb : w.heap[g]? = some (.cells cs 27 (0, 0))) (hg : w.grownBy w' (some g)) : RowsP w' B rs l :=
  ⟨h.1, fun i r x h1 h2 => ⟨OwnE.kept (h.2 i r x h1 h2).1 hg (.inr (own_far (h.2 i r x h1 h2).1 hb (by decide))), OwnE.kept (h.2 i r x h1 h2).2 hg (.inr (own_far (h.2 i r x h1 h2).2 hb (by decide)))⟩⟩
theorem isAggPart : ∀ w, (isAgg 27).run Tryd.prog w = .ok true w := Tryd.isAgg27
theorem sizeOfPart : ∀ w, (Go.sizeOf 27).run Tryd.prog w = .ok 2 w := Tryd.sizeOf27

theorem sortG_any (rs : List (RSl × RSl)) (l : List Mo) (v : Value) (B : Nat) (w : World) (ho : OwnE ERp 27 w B v rs) (hr : RowsP w B rs l) (hn : 0 < l.length) (h64 : l.length ≤ 1000) (hl : ∀ x ∈ l, x.ns.length ≤ 1000 ∧ x.es.length ≤ 1000) :
    Calls Tryd.prog 70 #[v, .func (.func 71) #[] #[]] w fun e w' => e = .returned (.tuple #[]) ∧ (∃ rs' l', OwnE ERp 27 w' B v rs' ∧ RowsP w' B rs' l' ∧ l'.Perm l ∧ ∀ i j, i < j → j < l'.length → ¬ cmpG (l'.getD j default) (l'.getD i default) < 0) ∧ Below B w w' := by
  have h0 := ho
  have hlen : rs.length = l.length := hr.1
  rcases h0.2 with ⟨e, hz⟩ | ⟨g, cap, cur, e, hbg, hg, h1, h2, h3, h4⟩
  · omega
  · subst e
    have hgs : g < w.heap.size := (Array.getElem?_eq_some_iff.1 hg).1
    have hrange : (Array.range rs.length).toList.map (fun i => rs.getD i default) = rs := by
      apply List.ext_getElem?
      intro i
      by_cases hi : i < rs.length
      · rw [List.getElem?_map]; simp [hi, List.getD_eq_getElem?_getD]
      · rw [List.getElem?_eq_none (by simp; omega), List.getElem?_eq_none (by omega)]
    have hrangel : (Array.range rs.length).toList.map (fun i => l.getD i default) = l := by
      apply List.ext_getElem?
      intro i
      by_cases hi : i < l.length
      · rw [List.getElem?_map]; simp [hi, hlen, List.getD_eq_getElem?_getD]
      · rw [List.getElem?_eq_none (by simp; omega), List.getElem?_eq_none (by omega)]
    have hH : Sort.HoldsK (rwAt rs) 2 w g 0 (Array.range rs.length) := by
      intro j hj
      have hj2 : j < rs.length * 2 := by simpa using hj
      have hf := flat_rows rs (Array.range rs.length)
      rw [hrange] at hf
      refine ⟨?_, World.ownsRow.frozenAt ho _⟩
      rw [Nat.zero_add, World.ownsRow.cellAt ho j hj2, ← hf, Array.getElem?_toList]
      simp [hj2]
    have hcmp : CmpLays Tryd.prog 71 #[] (rwAt rs) 2 (fun i j => cmpG (l.getD i default) (l.getD j default)) g 0 (Array.range rs.length).size w := by
      intro m os dk hdk x y
      have hk := RowsP.kept (w' := sortWorldK (rwAt rs) 2 w g 0 m dk os) hr hg (grownBy_sortedV _)
      obtain ⟨A, a, A', a', q1, p1⟩ := rows_at hk hl x
      obtain ⟨D, b, D', b', q2, p2⟩ := rows_at hk hl y
      rw [q1, q2]
      exact compareG_any _ _ A a A' a' D b D' b' _ p1 p2
    have hcon := AnyQ.slices_SortFunc Tryd.sortPart 2 isAggPart sizeOfPart (rwAt rs) (fun _ => rfl) (fun x v hv => ERp.one _ v hv) (fun i j => cmpG (l.getD i default) (l.getD j default)) (cmp_swo fun i => l.getD i default) 71 #[] g 0 cap (Array.range rs.length) w (enters_of Tryd.func71 (by kernel_rfl) rfl) hcmp hH hgs (by simp; omega)
    change Calls Tryd.prog 70 _ _ _ at hcon
    rw [show (Array.range rs.length).size = rs.length from Array.size_range] at hcon
    refine hcon.mono ?_
    rintro e w' ⟨rfl, d', n, os, ⟨hs, _, hp⟩, hso, rfl⟩
    have hsz : d'.size = rs.length := by simpa using hs
    have hperm : d'.toList.Perm (List.range rs.length) := by
      have h5 := hp
      rw [show d'.extract 0 rs.length = d' by rw [← hsz]; simp, show (Array.range rs.length).extract 0 rs.length = Array.range rs.length by have := Array.size_range (n := rs.length); simp] at h5
      simpa using h5
    have hlt : ∀ k ∈ d'.toList, k < rs.length := fun k hk => by
      have := hperm.mem_iff.1 hk
      simpa using this
    have hgr : w.grownBy (sortWorldK (rwAt rs) 2 w g 0 n d' os) (some g) := grownBy_sortedV _
    refine ⟨rfl, ⟨d'.toList.map (fun i => rs.getD i default), d'.toList.map (fun i => l.getD i default), ?_, ?_, ?_, ?_⟩, (Below.refl _ _).grown hgr (by omega) (fun k hk => by injection hk with hk; omega)⟩
    · have hb := heap_sortedV (n := n) (os := os) (Sort.flatK (rwAt rs) 2 d') hg
      have hcs : cur.size = cap * 2 := h3
      have ht := take_putCellsV cur (Sort.flatK (rwAt rs) 2 d') (by simp; omega)
      rw [flat_rows, Sort.size_flatK, hsz] at ht
      have hl2 : (d'.toList.map fun i => rs.getD i default).length = rs.length := by simp [hsz]
      unfold OwnE
      rw [hl2]
      refine ⟨by rw [cellsE_length, hl2], .inr ⟨g, cap, _, rfl, hbg, hb, h1, h2, by simp [Sort.putCells, h3], ?_⟩⟩
      exact ht
    · have hk := RowsP.kept hr hg hgr
      refine ⟨by simp, fun i r x e1 e2 => ?_⟩
      rw [List.getElem?_map] at e1 e2
      obtain ⟨k, hk1, rfl⟩ := Option.map_eq_some_iff.1 e1
      rw [hk1] at e2
      simp only [Option.map_some, Option.some.injEq] at e2
      subst e2
      have hkl := hlt k (List.mem_of_getElem? hk1)
      refine hk.2 k _ _ ?_ ?_
      · rw [List.getD_eq_getElem?_getD, List.getElem?_eq_getElem hkl]; rfl
      · rw [List.getD_eq_getElem?_getD, List.getElem?_eq_getElem (by omega)]; rfl
    · have h5 := hperm.map (fun i => l.getD i default)
      have h6 : (List.range rs.length).map (fun i => l.getD i default) = l := by simpa using hrangel
      rw [h6] at h5
      exact h5
    · intro i j hij hj
      have hjn : j < d'.size := by simpa using hj
      have hs2 := hso i j (Nat.zero_le _) hij (by simpa [hsz] using hjn)
      unfold ltOf at hs2
      have a1 : (d'.toList.map fun i => l.getD i default).getD j default = l.getD d'[j]! default := by
        rw [List.getD_eq_getElem?_getD, List.getElem?_map, Array.getElem?_toList, Array.getElem?_eq_getElem hjn]; simp [hjn]
      have a2 : (d'.toList.map fun i => l.getD i default).getD i default = l.getD d'[i]! default := by
        rw [List.getD_eq_getElem?_getD, List.getElem?_map, Array.getElem?_toList, Array.getElem?_eq_getElem (by omega)]; simp [show i < d'.size by omega]
      rw [a1, a2]
      simpa using hs2

end Go.Proofs.YthnhacncnhknnaaDoor

/-
  Parts of graphs, the program: All. Printed by mkg7.py.
-/
namespace Go.Proofs.YthnhacncnhknnaaDoor
open Go.RowKit Go.Shelf

theorem bP_ok (g : Gr) (a b : Nat) : (bP g a b).ns.length ≤ g.ns.length ∧ (bP g a b).es.length ≤ g.es.length := ⟨sel_le _ _, sel_le _ _⟩
theorem bP_bts {g : Gr} {a b : Nat} (h6 : g.ns.length + g.es.length ≤ 6) (ha : a < 2 ^ g.ns.length) (hb : b < 2 ^ g.es.length) : bP g a b = ⟨bts a, bts b⟩ := by
  unfold bP
  rw [bts_sel ha (by omega), bts_sel hb (by omega)]
theorem pow_six {n : Nat} (h : n ≤ 6) : 0 < 2 ^ n ∧ 2 ^ n ≤ 64 := ⟨Nat.two_pow_pos n, by have := Nat.pow_le_pow_right (n := 2) (by omega) h; simpa using this⟩
theorem in_succ_yes {g : Gr} {a k : Nat} (h : rightE g (bP g a k) = 0) : inA g a (k + 1) = inA g a k ++ [bP g a k] := by
  show inA g a k ++ (if rightE g (bP g a k) = 0 then [bP g a k] else []) = _
  rw [if_pos h]
theorem in_succ_no {g : Gr} {a k : Nat} (h : rightE g (bP g a k) ≠ 0) : inA g a (k + 1) = inA g a k := by
  show inA g a k ++ (if rightE g (bP g a k) = 0 then [bP g a k] else []) = _
  rw [if_neg h, List.append_nil]
theorem out_succ (g : Gr) (k : Nat) : outA g (k + 1) = outA g k ++ inA g k (2 ^ g.es.length) := rfl
def AllPost (E : Nat) (l : List Mo) (w : World) (e : Ending) (w' : World) : Prop := (∃ v, e = .returned (.tuple #[v, .int .i64 (E : Nat)]) ∧ IsP w' v l) ∧ Below w.heap.size w w'
theorem shl_one {n : Nat} (h : n ≤ 6) : IntKind.u64.wrap ((2 : Int) ^ n) = ((2 ^ n : Nat) : Int) := by
  have hn : n = 0 ∨ n = 1 ∨ n = 2 ∨ n = 3 ∨ n = 4 ∨ n = 5 ∨ n = 6 := by omega
  rcases hn with rfl | rfl | rfl | rfl | rfl | rfl | rfl <;> rfl

set_option maxRecDepth 100000 in
set_option maxHeartbeats 4000000 in
theorem allG_any : AllC 37 := by
  intro g An cn Ae ce w hT hg
  suffices key : Calls Tryd.prog 37 #[gval An g.ns.length cn Ae g.es.length ce] w (AllPost (pAllE g) (pAllR g) w) from key
  have hS0 : SR w [(.slice An g.ns.length cn, .slice Ae g.es.length ce, 25)] (w.alloc (.cells #[.slice An g.ns.length cn, .slice Ae g.es.length ce] 25)) := SR.push (SR.nil w) rfl _ _ _
  have HV := Lib.hid (fun (u : World) (hu : Below w.heap.size w u) => validP_any g An cn Ae ce u (hg.up hu))
  have HVP := Lib.hid (fun (p : Mo) X x Y y (u : World) (hu : Below w.heap.size w u) (hp : PtAt u X Y p) => validG_any g p An cn Ae ce X x Y y u (hg.up hu) hp)
  have HMB := Lib.hid (fun (s : Nat) (hs : s < 64) (u : World) (hu : Below w.heap.size w u) => membersG_any s u hs (hT.up hu))
  have HE : Hid (pAllE g = if validE g ≠ 0 then validE g else if 6 < g.ns.length + g.es.length then 3 else 0) := Lib.hid rfl
  have HR : Hid (pAllR g = if pAllE g = 0 then pAll g else []) := Lib.hid rfl
  have HZ := Lib.hid (fun (hv : validE g = 0) => valid_zero hv)
  have HPE : Hid (validE g = 0 → ∀ p, partE g p = rightE g p) := Lib.hid fun hv p => by unfold partE; rw [if_neg (by omega)]
  have HSORT : Hid (∀ l : List Mo, l.Perm (outA g (2 ^ g.ns.length)) → (∀ i j, i < j → j < l.length → ¬ cmpG (l.getD j default) (l.getD i default) < 0) → l = pAll g) := Lib.hid fun l h1 h2 => all_sorted h1 h2
  have HPOS : Hid (0 < (outA g (2 ^ g.ns.length)).length) := Lib.hid (by
    have hm : (⟨[], []⟩ : Mo) ∈ outA g (2 ^ g.ns.length) := outA_mem.2 ⟨List.Pairwise.nil, (fun x hx => by cases hx), List.Pairwise.nil, (fun x hx => by cases hx), (fun i hi => by cases hi)⟩
    exact List.length_pos_of_mem hm)
  have HLEN : Hid (g.ns.length + g.es.length ≤ 6 → ∀ x ∈ outA g (2 ^ g.ns.length), x.ns.length ≤ 1000 ∧ x.es.length ≤ 1000) := Lib.hid fun h6 x hx => by
    have hk := outA_mem.1 hx
    have a1 := asc_len hk.an hk.rn
    have a2 := asc_len hk.ae hk.re
    omega
  have HCNT : Hid (g.ns.length + g.es.length ≤ 6 → ∀ k j, k < 2 ^ g.ns.length → j ≤ 2 ^ g.es.length → (outA g k ++ inA g k j).length ≤ 64) := Lib.hid fun h6 k j hk hj => by
    have h1 := outA_len g k
    have h2 := inA_len g k j
    have h3 : (k + 1) * 2 ^ g.es.length ≤ 2 ^ g.ns.length * 2 ^ g.es.length := Nat.mul_le_mul_right _ (by omega)
    have h4 : 2 ^ g.ns.length * 2 ^ g.es.length ≤ 64 := by rw [← Nat.pow_add]; exact (pow_six h6).2
    rw [Nat.succ_mul] at h3
    rw [List.length_append]
    omega
  have HCN2 : Hid (g.ns.length + g.es.length ≤ 6 → (outA g (2 ^ g.ns.length)).length ≤ 64) := Lib.hid fun h6 => by
    have h1 := outA_len g (2 ^ g.ns.length)
    have h4 : 2 ^ g.ns.length * 2 ^ g.es.length ≤ 64 := by rw [← Nat.pow_add]; exact (pow_six h6).2
    omega
  have HBP := Lib.hid (fun (h6 : g.ns.length + g.es.length ≤ 6) a b (ha : a < 2 ^ g.ns.length) (hb : b < 2 ^ g.es.length) => bP_bts h6 ha hb)
  have HIY := Lib.hid (fun a k (h : rightE g (bP g a k) = 0) => in_succ_yes h)
  have HIN := Lib.hid (fun a k (h : rightE g (bP g a k) ≠ 0) => in_succ_no h)
  have HOS := Lib.hid (fun k => out_succ g k)
  have HI0 : Hid (∀ a, inA g a 0 = []) := Lib.hid fun _ => rfl
  have HO0 : Hid (outA g 0 = []) := Lib.hid rfl
  have HS0 := Lib.hid hS0
  clear hS0 hg hT
  generalize pAllR g = R at *
  generalize pAllE g = E at *
  generalize pAll g = PA at *
  go_enter Tryd.func37, Tryd.ntmps37
  obtain ⟨c0, c1⟩ := HS0.out.cell (i := 0) rfl
  simp only [Nat.add_zero] at c0 c1
  go_wp2_with fail
  refine (HV.out _ HS0.out.1).mono ?_
  rintro e w1 ⟨rfl, hb1⟩
  have HS1 := Lib.hid (HS0.out.up hb1)
  clear hb1 HS0 HV c0 c1
  obtain ⟨c0, c1⟩ := HS1.out.cell (i := 0) rfl
  simp only [Nat.add_zero] at c0 c1
  by_cases h1 : validE g = 0
  case neg =>
    have HEE := Lib.hid (show E = validE g by rw [HE.out, if_pos h1])
    have HRR := Lib.hid (show R = [] by rw [HR.out, if_neg (by rw [HEE.out]; exact h1)])
    have t1 : ((validE g : Int) != 0) = true := by simp; omega
    clear h1
    generalize validE g = z at *
    go_wp2_with fail
    go_ret2
    rw [HRR.out, HEE.out]
    unfold AllPost
    exact ⟨⟨_, rfl, isP_nil _⟩, HS1.out.1⟩
  have HPR := Lib.hid (HPE.out h1)
  obtain ⟨v1, v2, _⟩ := HZ.out h1
  have HE2 := Lib.hid (show E = if 6 < g.ns.length + g.es.length then 3 else 0 by rw [HE.out, if_neg (by omega)])
  have t1 : ((validE g : Int) != 0) = false := by simp; omega
  clear h1 HE HPE HZ
  generalize validE g = z at *
  by_cases h6 : 6 < g.ns.length + g.es.length
  case pos =>
    have HEE := Lib.hid (show E = 3 by rw [HE2.out, if_pos h6])
    have HRR := Lib.hid (show R = [] by rw [HR.out, if_neg (by rw [HEE.out]; omega)])
    have t2 : (6 : Int) < (g.ns.length : Int) + (g.es.length : Int) := by omega
    clear h6
    go_wp2_with fail
    go_ret2
    rw [HRR.out, HEE.out]
    unfold AllPost
    exact ⟨⟨_, rfl, isP_nil _⟩, HS1.out.1⟩
  have HEE := Lib.hid (show E = 0 by rw [HE2.out, if_neg h6])
  have HRR := Lib.hid (show R = PA by rw [HR.out, if_pos HEE.out])
  have t2 : ¬ (6 : Int) < (g.ns.length : Int) + (g.es.length : Int) := by omega
  have h66 : g.ns.length + g.es.length ≤ 6 := by omega
  have HLN2 := Lib.hid (HLEN.out h66)
  have HCNT2 := Lib.hid (HCNT.out h66)
  have HCN22 := Lib.hid (HCN2.out h66)
  have HBP2 := Lib.hid (HBP.out h66)
  have s1 := shl_one (n := g.ns.length) (by omega)
  have s2 := shl_one (n := g.es.length) (by omega)
  have p1 := (pow_six (n := g.ns.length) (by omega)).2
  have p2 := (pow_six (n := g.es.length) (by omega)).2
  have n1 : g.ns.length ≤ 6 := by omega
  have n2 : g.es.length ≤ 6 := by omega
  clear h6 h66 HE2 HR HLEN HCNT HCN2 HBP v1 v2
  generalize 2 ^ g.ns.length = N1 at *
  generalize 2 ^ g.es.length = N2 at *
  obtain ⟨B0, hB0⟩ : ∃ B0, B0 = w1.heap.size := ⟨_, rfl⟩
  have HB0 : Hid (w.heap.size + 1 ≤ B0) := Lib.hid (by rw [hB0]; exact heap_lt (HS1.out.2 0 _ rfl))
  have HBW : Hid (B0 ≤ w1.heap.size) := Lib.hid (Nat.le_of_eq hB0)
  clear hB0
  go_wp2_with fail
  clear t1 t2 c0 c1
  go_loopw [5, 26] (fun v x wr => ∃ (k : Nat) (rs : List (RSl × RSl)), k ≤ N1 ∧ x = .int .u64 (k : Int) ∧ OwnE ERp 27 wr B0 v rs ∧ RowsP wr B0 rs (outA g k) ∧ SR w [(.slice An g.ns.length cn, .slice Ae g.es.length ce, 25)] wr ∧ B0 ≤ wr.heap.size) (fun _ x _ => N1 - (intOf x).toNat)
  case atStart => exact ⟨0, [], Nat.zero_le _, rfl, OwnE.nil _ _ _, ⟨by rw [HO0.out]; rfl, fun i r x h => by simp at h⟩, HS1.out, HBW.out⟩
  case round =>
    clear HS1 HBW
    obtain ⟨k, rs, hk, rfl, hO, hRW, hsr, hsz⟩ := hrel
    have HO := Lib.hid hO
    have HRW := Lib.hid hRW
    have HS := Lib.hid hsr
    have HSZ := Lib.hid hsz
    obtain ⟨ao, cap, rfl⟩ := OwnE.slice hO
    obtain ⟨c0, c1⟩ := HS.out.cell (i := 0) rfl
    simp only [Nat.add_zero] at c0 c1
    clear hO hRW hsr hsz
    by_cases hlt : k < N1
    · have HLT := Lib.hid hlt
      have HM : Hid (N1 - ((k : Int) + 1).toNat < N1 - ((k : Int)).toNat) := Lib.hid (by omega)
      have HRS : Hid (RowsP wr B0 rs (outA g k ++ inA g k 0)) := Lib.hid (by rw [HI0.out, List.append_nil]; exact HRW.out)
      have HOSK := Lib.hid (HOS.out k)
      have HK64 : Hid (k < 64) := Lib.hid (by omega)
      obtain ⟨wo, hwo⟩ : ∃ wo : World, wo = wr := ⟨_, rfl⟩
      subst hwo
      go_wp2_with fail
      clear c0 c1 HRW
      go_loopw [5, 33] (fun v x wr => ∃ (j : Nat) (rs : List (RSl × RSl)), j ≤ N2 ∧ x = .int .u64 (j : Int) ∧ OwnE ERp 27 wr B0 v rs ∧ RowsP wr B0 rs (outA g k ++ inA g k j) ∧ SR w [(.slice An g.ns.length cn, .slice Ae g.es.length ce, 25)] wr ∧ B0 ≤ wr.heap.size) (fun _ x _ => N2 - (intOf x).toNat)
      case atStart => exact ⟨0, rs, Nat.zero_le _, rfl, HO.out, HRS.out, HS.out, HSZ.out⟩
      case round =>
        clear HO HRS HS HSZ
        obtain ⟨j, rs2, hj, rfl, hO, hRW, hsr, hsz⟩ := hrel
        have HO := Lib.hid hO
        have HRW := Lib.hid hRW
        have HS := Lib.hid hsr
        have HSZ := Lib.hid hsz
        obtain ⟨ao, cap, rfl⟩ := OwnE.slice hO
        clear hO hRW hsr hsz
        by_cases hltj : j < N2
        · have HLTJ := Lib.hid hltj
          have HMJ : Hid (N2 - ((j : Int) + 1).toNat < N2 - ((j : Int)).toNat) := Lib.hid (by omega)
          have HRL : Hid (rs2.length ≤ 64) := Lib.hid (by rw [HRW.out.1]; exact HCNT2.out k j HLT.out hj)
          have HBPK := Lib.hid (HBP2.out k j HLT.out hltj)
          have HIYK := Lib.hid (HIY.out k j)
          have HINK := Lib.hid (HIN.out k j)
          have HQ1 := Lib.hid (HMB.out k HK64.out wr HS.out.1)
          have HQ2 := Lib.hid (fun (u : World) (hu : Below w.heap.size w u) => HMB.out j (by omega) u hu)
          have HTL : Hid ((bts k).length ≤ 6 ∧ (bts j).length ≤ 6) := Lib.hid ⟨bts_len k, bts_len j⟩
          rw [HBPK.out] at HIYK HINK
          have HRR9 : Hid (∀ p, partE g p = rightE g p) := HPR
          go_wp2_with fail
          refine HQ1.out.mono ?_
          rintro e u1 ⟨v1, rfl, ho1, hb1⟩
          have HS1 := Lib.hid (HS.out.up hb1)
          have HO1 := Lib.hid (OwnE.below HO.out hb1 (Nat.le_refl _))
          have HR1 := Lib.hid (RowsP.below HRW.out hb1 (Nat.le_refl _))
          have HA1 := Lib.hid (OwnE.mono ho1 HSZ.out)
          have HZ1 := Lib.hid (Nat.le_trans HSZ.out hb1.size)
          obtain ⟨a1, c1, rfl⟩ := OwnE.slice ho1
          clear ho1 hb1 HS HO HRW HSZ
          go_wp2_with fail
          refine (HQ2.out _ HS1.out.1).mono ?_
          rintro e u2 ⟨v2, rfl, ho2, hb2⟩
          have HS2 := Lib.hid (HS1.out.up hb2)
          have HO2 := Lib.hid (OwnE.below HO1.out hb2 (Nat.le_refl _))
          have HR2 := Lib.hid (RowsP.below HR1.out hb2 (Nat.le_refl _))
          have HA2 := Lib.hid (OwnE.below HA1.out hb2 (Nat.le_refl _))
          have HA2' := Lib.hid (OwnE.mono ho2 HZ1.out)
          have HZ2 := Lib.hid (Nat.le_trans HZ1.out hb2.size)
          obtain ⟨a2, c2, rfl⟩ := OwnE.slice ho2
          clear ho2 hb2 HS1 HO1 HR1 HA1 HZ1
          generalize bts k = b1 at *
          generalize bts j = b2 at *
          go_upto_region 14 with fail
          have hba : Below u2.heap.size u2 (u2.alloc (.cells #[.slice a1 b1.length c1, .slice a2 b2.length c2] 27)) := (Below.refl _ _).alloc (Nat.le_refl _) _
          have HX3 : Hid (BX u2.heap.size (.slice a1 b1.length c1) (.slice a2 b2.length c2) 27 (u2.alloc (.cells #[.slice a1 b1.length c1, .slice a2 b2.length c2] 27))) := Lib.hid (heap_alloc_new _ _)
          have HS3 := Lib.hid (HS2.out.up hba)
          have HO3 := Lib.hid (OwnE.below HO2.out hba (Nat.le_refl _))
          have HR3 := Lib.hid (RowsP.below HR2.out hba (Nat.le_refl _))
          have HA3 := Lib.hid (OwnE.below HA2.out hba (Nat.le_refl _))
          have HA3' := Lib.hid (OwnE.below HA2'.out hba (Nat.le_refl _))
          have HZ3 := Lib.hid (Nat.le_trans HZ2.out hba.size)
          clear hba HS2 HO2 HR2 HA2 HA2' HZ2
          generalize u2.alloc (.cells #[.slice a1 b1.length c1, .slice a2 b2.length c2] 27) = u3 at *
          generalize u2.heap.size = gx at *
          have HPT : Hid (PtAt u3 a1 a2 (⟨b1, b2⟩ : Mo)) := Lib.hid (by
            obtain ⟨Y1, y1, e1, q1⟩ := OwnE.reads HA3.out
            obtain ⟨Y2, y2, e2, q2⟩ := OwnE.reads HA3'.out
            injection e1 with e1 _ _
            injection e2 with e2 _ _
            rw [← e1] at q1
            rw [← e2] at q2
            exact ⟨q1, q2, by have := HTL.out.1; show b1.length ≤ 1000; omega, by have := HTL.out.2; show b2.length ≤ 1000; omega⟩)
          have HQV := Lib.hid (HVP.out (⟨b1, b2⟩ : Mo) a1 c1 a2 c2 u3 HS3.out.1 HPT.out)
          rw [HRR9.out] at HQV
          obtain ⟨d0, d1⟩ := HS3.out.cell (i := 0) rfl
          simp only [Nat.add_zero] at d0 d1
          obtain ⟨x0, x1⟩ := HX3.out.cells
          generalize rightE g ⟨b1, b2⟩ = r at *
          go_wp2_with fail
          refine HQV.out.mono ?_
          rintro e u4 ⟨rfl, hb4⟩
          have HX4 := Lib.hid (HX3.out.up hb4)
          have HS4 := Lib.hid (HS3.out.up hb4)
          have HO4 := Lib.hid (OwnE.below HO3.out hb4 (Nat.le_refl _))
          have HR4 := Lib.hid (RowsP.below HR3.out hb4 (Nat.le_refl _))
          have HA4 := Lib.hid (OwnE.below HA3.out hb4 (Nat.le_refl _))
          have HA4' := Lib.hid (OwnE.below HA3'.out hb4 (Nat.le_refl _))
          have HZ4 := Lib.hid (Nat.le_trans HZ3.out hb4.size)
          clear hb4 HX3 HS3 HO3 HR3 HA3 HA3' HZ3 d0 d1 x0 x1 HPT HQV
          by_cases hr : r = 0
          case neg =>
            have HI2 := Lib.hid (HINK.out hr)
            have t3 : ((r : Int) == 0) = false := by simp; omega
            clear hr
            go_wp2_with fail
            go_roundw
            case rel => exact ⟨j + 1, rs2, HLTJ.out, by go_num, HO4.out, by rw [HI2.out]; exact HR4.out, HS4.out, HZ4.out⟩
            case measure => exact HMJ.out
          case pos =>
            have HI2 := Lib.hid (HIYK.out hr)
            have t3 : ((r : Int) == 0) = true := by simp; omega
            clear hr
            obtain ⟨x0, x1⟩ := HX4.out.cells
            go_wp2_with (at_builtin; refine wpList_append_E (E := ERp) (w := u4.alloc _) rfl _ _ 60 27 rfl Tryd.underlying60 infoPart rfl (by decide) (by decide) B0 _ rs2 rfl ?y1 ⟨u4.heap.size, 0, none⟩ 1 ((a1, b1.length, c1), (a2, b2.length, c2)) rfl ?y2 ?y3 ?y4 ?_)
            case y1 => exact HO4.out.alloc _
            case y2 => exact news_of (E := ERp) (heap_alloc_new _ _) rfl
            case y3 => have := HRL.out; omega
            case y4 => have := HZ4.out; simp; omega
            intro v5 w5 ho5 hg5 hb5
            have hgr := Grow.own (HO4.out.alloc _) hg5 hb5
            have hr5 := RowsP.snoc (r := ((a1, b1.length, c1), (a2, b2.length, c2))) (x := ⟨b1, b2⟩) ((RowsP.below HR4.out (below_a _ _) (Nat.le_refl _)).grow (by decide) hgr) (hgr.row (by decide) (OwnE.alloc HA4.out _)) (hgr.row (by decide) (OwnE.alloc HA4'.out _))
            rw [List.append_assoc, ← HI2.out] at hr5
            have HR5 := Lib.hid hr5
            have HS5 := Lib.hid (SR.low (HS4.out.up (below_a _ _)) HB0.out hb5)
            have HO5 := Lib.hid ho5
            have HZ5 : Hid (B0 ≤ w5.heap.size) := Lib.hid (Nat.le_trans HZ4.out (Nat.le_trans (by simp) hb5.size))
            obtain ⟨ao3, cap3, rfl⟩ := OwnE.slice ho5
            clear ho5 hg5 hb5 hgr hr5 x0 x1
            go_wp2_with fail
            go_roundw
            case rel => exact ⟨j + 1, _, HLTJ.out, by go_num, HO5.out, HR5.out, HS5.out, HZ5.out⟩
            case measure => exact HMJ.out
        · have e : j = N2 := by omega
          subst e
          have HR9 : Hid (RowsP wr B0 rs2 (outA g (k + 1))) := Lib.hid (by rw [HOSK.out]; exact HRW.out)
          go_wp2_with fail
          go_roundw
          case rel => exact ⟨k + 1, rs2, HLT.out, by go_num, HO.out, HR9.out, HS.out, HSZ.out⟩
          case measure => exact HM.out
    · have e : k = N1 := by omega
      subst e
      have HQ := Lib.hid (sortG_any rs (outA g k) (.slice ao rs.length cap) B0 wr HO.out HRW.out HPOS.out (by have := HCN22.out; omega) HLN2.out)
      clear c0 c1
      go_wp2_with fail
      refine HQ.out.mono ?_
      rintro e w9 ⟨rfl, ⟨rs', l', ho9, hr9, hp9, hs9⟩, hb9⟩
      have HL := Lib.hid (HSORT.out l' hp9 hs9)
      have HPP := Lib.hid (isP_rows ho9 hr9)
      have HB9 := Lib.hid ((SR.low HS.out HB0.out hb9).1)
      clear ho9 hr9 hp9 hs9 hb9
      go_wp2_with fail
      go_ret2
      rw [HRR.out, HEE.out]
      unfold AllPost
      exact ⟨⟨_, rfl, by rw [← HL.out]; exact HPP.out⟩, HB9.out⟩

end Go.Proofs.YthnhacncnhknnaaDoor

/-
  The arguments of the laws of parts, opened; the listed tables.
-/
namespace Go.Proofs.YthnhacncnhknnaaDoor
open Go.RowKit

/-- what the rows list -/
abbrev laidL : List (String × DataW Unit) := [("math/bits.deBruijn32tab", Rows.laid_math_bits_deBruijn32tab), ("math/bits.deBruijn64tab", Rows.laid_math_bits_deBruijn64tab)]
theorem tab_of_laid {W : World} (h : laidMetH Tryd.prog laidL W) : TabV W := by
  rw [MakeChecks.laidMetH_plain _ _ _ (by kernel_rfl)] at h
  have hg : Tryd.prog.globalNamed "math/bits.deBruijn64tab" = some 1 := by kernel_rfl
  have e : (Rows.laid_math_bits_deBruijn64tab : DataW Unit) = Lib.tabData .u8 (List.map (fun n : Nat => (n : Int)) Lib.deBruijn64tab) := rfl
  unfold laidL at h
  rw [e] at h
  have h2 := laidMet.tail h
  have t := Lib.tabIs_of_head (t := 127) hg (by kernel_rfl) Tryd.underlying127 Tryd.underlying5 (by kernel_rfl) (by kernel_rfl) h2
  have hc : ∀ j, j < 64 → W.cell? ⟨1, j, none⟩ = some (.int .u8 (Lib.deBruijn64tab.getD j 0)) := fun j hj => by
    have hl : Lib.deBruijn64tab.length = 64 := rfl
    rw [t.cell hg j (by simp [hl, hj])]
    have h1 : Lib.deBruijn64tab[j]? = some (Lib.deBruijn64tab[j]'(by omega)) := List.getElem?_eq_getElem (by omega)
    simp [List.getD, h1]
  exact ⟨hc, World.block_lt_of_cell? _ _ (hc 0 (by decide))⟩
theorem met (os : Os) (args : Array Value) : laidMetH Tryd.prog laidL ((World.laidAll Tryd.prog os laidL).forCall (fun _ _ => 0) ⟨#[], args, []⟩).memory := by
  rw [MakeChecks.laidMetH_plain _ _ _ (by kernel_rfl)]
  exact laidMet_laidAll _ (by kernel_rfl) (by kernel_rfl)
theorem shaped (os : Os) (args : Array Value) : ((World.laidAll Tryd.prog os laidL).forCall (fun _ _ => 0) ⟨#[], args, []⟩).Shaped Tryd.prog := World.shaped_of_ZipB (by kernel_rfl) (by kernel_rfl)

section
open Go.ChangeShapes Go.WideShapes Go.Deep
variable {H : Type} {enc : TypeId × Value → H} {W : World} {fuel : Nat} {cs : List Value} {x : DataW H × List MemPlace}
theorem u64_of {n : Int} (h : (Lit.int .u64 n).wf = true) : ∃ s : Nat, n = (s : Int) ∧ s < 18446744073709551616 := by
  simp [Lit.wf, IntKind.min, IntKind.max, IntKind.signed, IntKind.bits] at h
  exact ⟨n.toNat, by omega, by omega⟩
theorem cellsPt : Tryd.prog.cellsOf 27 = 2 := by kernel_rfl
theorem cellsMo : Tryd.prog.cellsOf 42 = 2 := by kernel_rfl
theorem bytesInt : Tryd.prog.bytesOf 3 = 8 := by kernel_rfl
theorem open_Iw (h : DataW.trod enc Tryd.prog W 0 (fun _ => true) true fuel 22 cs = some x) :
    ∃ (A : Option Addr) (xs : List Int) (c : Nat), cs = [.slice A xs.length c] ∧ Ints W W.heap.size A xs ∧ xs.length ≤ c ∧ c ≤ maxLen ∧ ((∀ n ∈ x.1.weights Tryd.prog 22, n ≤ reachBytes) → xs.length ≤ 1152921504606846976) := by
  obtain ⟨A, xs, c, e, hR, h1, h2⟩ := open_I h
  refine ⟨A, xs, c, e, hR, h1, h2, fun hw => ?_⟩
  rcases open_slice Tryd.underlying22 h with ⟨e2, _⟩ | ⟨a, len, cap, m, n, Ed, Pl, e2, _, hlc, hcm, hm, e3, hi⟩
  · rw [e2] at e
    injection e with e
    injection e with _ e _
    omega
  · rw [e2] at e
    injection e with e
    injection e with _ e _
    subst e3
    have hb : (0x7ffffffff000 : Nat) = reachBytes := rfl
    have hw2 := hw _ (by simp only [DataW.weights, Tryd.underlying22]; exact List.mem_cons_self)
    rw [bytesInt, ← hb] at hw2
    simp at hw2
    omega
theorem weights_struct2 {T a b : TypeId} {f0 f1 : Field} {y0 y1 : DataW H} {p : List MemPlace} (hT : Tryd.prog.underlying T = some (.struct #[f0, f1])) (h0 : f0.type = a) (h1 : f1.type = b) (hx : x = (.agg [y0, y1], p)) (hw : ∀ n ∈ x.1.weights Tryd.prog T, n ≤ reachBytes) :
    (∀ n ∈ y0.weights Tryd.prog a, n ≤ reachBytes) ∧ (∀ n ∈ y1.weights Tryd.prog b, n ≤ reachBytes) := by
  subst hx h0 h1
  refine ⟨fun n hn => hw n ?_, fun n hn => hw n ?_⟩ <;> simp [DataW.weights, hT, DataW.weightsEach, hn]
theorem weights_struct3 {T c : TypeId} {f0 f1 f2 : Field} {y0 y1 y2 : DataW H} {p : List MemPlace} (hT : Tryd.prog.underlying T = some (.struct #[f0, f1, f2])) (h2 : f2.type = c) (hx : x = (.agg [y0, y1, y2], p)) (hw : ∀ n ∈ x.1.weights Tryd.prog T, n ≤ reachBytes) :
    ∀ n ∈ y2.weights Tryd.prog c, n ≤ reachBytes := by
  subst hx h2
  refine fun n hn => hw n ?_
  simp [DataW.weights, hT, DataW.weightsEach, hn]
theorem open_P (h : DataW.trod enc Tryd.prog W 0 (fun _ => true) true fuel 27 cs = some x) :
    ∃ (m : Mo) (An : Option Addr) (cn : Nat) (Ae : Option Addr) (ce : Nat), cs = [.slice An m.ns.length cn, .slice Ae m.es.length ce] ∧ Ints W W.heap.size An m.ns ∧ Ints W W.heap.size Ae m.es ∧ ((∀ n ∈ x.1.weights Tryd.prog 27, n ≤ reachBytes) → m.ns.length ≤ 1152921504606846976 ∧ m.es.length ≤ 1152921504606846976) := by
  obtain ⟨y0, y1, n, hx, hl, h0, h1⟩ := trod_struct2 Tryd.underlying27 h
  dsimp only at h0 h1
  rw [cellsInts] at h0 h1
  rw [cellsPt] at hl
  obtain ⟨An, ns, cn, e0, hN, _, _, w0⟩ := open_Iw h0
  obtain ⟨Ae, es, ce, e1, hE, _, _, w1⟩ := open_Iw h1
  refine ⟨⟨ns, es⟩, An, cn, Ae, ce, two_of hl e0 e1, hN, hE, fun hw => ?_⟩
  obtain ⟨q0, q1⟩ := weights_struct2 Tryd.underlying27 rfl rfl hx hw
  exact ⟨w0 q0, w1 q1⟩
theorem open_M (h : DataW.trod enc Tryd.prog W 0 (fun _ => true) true fuel 42 cs = some x) :
    ∃ (m : Mo) (An : Option Addr) (cn : Nat) (Ae : Option Addr) (ce : Nat), cs = [.slice An m.ns.length cn, .slice Ae m.es.length ce] ∧ Ints W W.heap.size An m.ns ∧ Ints W W.heap.size Ae m.es ∧ ((∀ n ∈ x.1.weights Tryd.prog 42, n ≤ reachBytes) → m.ns.length ≤ 1152921504606846976 ∧ m.es.length ≤ 1152921504606846976) := by
  obtain ⟨y0, y1, n, hx, hl, h0, h1⟩ := trod_struct2 Tryd.underlying42 h
  dsimp only at h0 h1
  rw [cellsInts] at h0 h1
  rw [cellsMo] at hl
  obtain ⟨An, ns, cn, e0, hN, _, _, w0⟩ := open_Iw h0
  obtain ⟨Ae, es, ce, e1, hE, _, _, w1⟩ := open_Iw h1
  refine ⟨⟨ns, es⟩, An, cn, Ae, ce, two_of hl e0 e1, hN, hE, fun hw => ?_⟩
  obtain ⟨q0, q1⟩ := weights_struct2 Tryd.underlying42 rfl rfl hx hw
  exact ⟨w0 q0, w1 q1⟩
theorem cellsAw : Tryd.prog.cellsOf 44 = 6 := by kernel_rfl
theorem six_of2 {cs : List Value} (hl : cs.length = 6) {a b c d e f : Value} (h0 : (cs.drop 0).take 2 = [a, b]) (h1 : (cs.drop 2).take 2 = [c, d]) (h2 : (cs.drop 4).take 2 = [e, f]) : cs = [a, b, c, d, e, f] := by
  match cs, hl with
  | [x, y, z, u, v, w], _ => simp at h0 h1 h2; rw [h0.1, h0.2, h1.1, h1.2, h2.1, h2.2]
theorem open_A (h : DataW.trod enc Tryd.prog W 0 (fun _ => true) true fuel 44 cs = some x) (hw : ∀ n ∈ x.1.weights Tryd.prog 44, n ≤ reachBytes) :
    ∃ y : Aw, cs = [.slice y.An y.a.ns.length y.cn, .slice y.Ae y.a.es.length y.ce, .slice y.Bn y.b.ns.length y.dn, .slice y.Be y.b.es.length y.de, .slice y.Mn y.m.ns.length y.mn, .slice y.Me y.m.es.length y.me] ∧ AwAt W y := by
  obtain ⟨y0, y1, y2, n, hx, hl, h0, h1, h2⟩ := trod_struct3 Tryd.underlying44 h
  dsimp only at h0 h1 h2
  rw [cellsGr] at h0 h1
  rw [cellsMo] at h2
  rw [cellsAw] at hl
  obtain ⟨a, An, cn, Ae, ce, e0, hG⟩ := open_G h0
  obtain ⟨b, Bn, dn, Be, de, e1, hH⟩ := open_G h1
  obtain ⟨m, Mn, mn, Me, me, e2, hN, hE, w1⟩ := open_M h2
  obtain ⟨l1, l2⟩ := w1 (weights_struct3 Tryd.underlying44 rfl hx hw)
  exact ⟨⟨a, b, m, An, cn, Ae, ce, Bn, dn, Be, de, Mn, mn, Me, me⟩, six_of2 hl e0 e1 e2, hG, hH, hN, hE, l1, l2⟩
end

end Go.Proofs.YthnhacncnhknnaaDoor
