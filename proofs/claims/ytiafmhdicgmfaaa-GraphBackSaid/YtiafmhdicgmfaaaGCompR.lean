/-
  Graphs, the reference: Components.
-/
import Derived.Test.YtiafmhdicgmfaaaGCompP
import Derived.Test.YtiafmhdicgmfaaaGValR
import Derived.Test.YtiafmhdicgmfaaaGNum
namespace Go.Proofs.Ytiafmhdicgmfaaa
open Go.RowKit
open Pt (at_)

abbrev RSl := Option Addr × Nat × Nat
abbrev rsv (r : RSl) : Value := .slice r.1 r.2.1 r.2.2
def ERp : El (RSl × RSl) := ⟨fun x => [rsv x.1, rsv x.2], 2, fun _ => rfl, fun x u hu => by simp at hu; rcases hu with rfl | rfl <;> rfl⟩
/-- the rows behind raw parts -/
def RowsP (w : World) (base : Nat) (rs : List (RSl × RSl)) (ps : List Mo) : Prop := rs.length = ps.length ∧ ∀ (i : Nat) (r : RSl × RSl) (x : Mo), rs[i]? = some r → ps[i]? = some x → OwnI w base (rsv r.1) x.ns ∧ OwnI w base (rsv r.2) x.es
theorem RowsP.below {w w' : World} {base B : Nat} {rs : List (RSl × RSl)} {ps : List Mo} (h : RowsP w base rs ps) (hb : Below B w w') (hB : w.heap.size ≤ B) : RowsP w' base rs ps :=
  ⟨h.1, fun i r x h1 h2 => ⟨OwnE.below (h.2 i r x h1 h2).1 hb hB, OwnE.below (h.2 i r x h1 h2).2 hb hB⟩⟩
theorem RowsP.grow {w w' : World} {base b2 : Nat} {t : TypeId} {rs : List (RSl × RSl)} {ps : List Mo} (h : RowsP w base rs ps) (ht : 3 ≠ t) (hg : Grow t b2 w w') : RowsP w' base rs ps :=
  ⟨h.1, fun i r x h1 h2 => ⟨hg.row ht (h.2 i r x h1 h2).1, hg.row ht (h.2 i r x h1 h2).2⟩⟩
theorem RowsP.snoc {w : World} {base : Nat} {rs : List (RSl × RSl)} {ps : List Mo} {r : RSl × RSl} {x : Mo} (h : RowsP w base rs ps) (h1 : OwnI w base (rsv r.1) x.ns) (h2 : OwnI w base (rsv r.2) x.es) : RowsP w base (rs ++ [r]) (ps ++ [x]) := by
  refine ⟨by simp [h.1], fun i r' x' e1 e2 => ?_⟩
  by_cases hi : i < rs.length
  · rw [List.getElem?_append_left hi] at e1
    rw [List.getElem?_append_left (by rw [← h.1]; exact hi)] at e2
    exact h.2 i r' x' e1 e2
  · rw [List.getElem?_append_right (by omega)] at e1
    rw [List.getElem?_append_right (by rw [← h.1]; omega), ← h.1] at e2
    cases hk : i - rs.length with
    | zero =>
      rw [hk] at e1 e2
      simp only [List.getElem?_cons_zero, Option.some.injEq] at e1 e2
      subst e1 e2
      exact ⟨h1, h2⟩
    | succ k => rw [hk] at e1; simp at e1
theorem isP_rows {w : World} {base b2 : Nat} {v : Value} {rs : List (RSl × RSl)} {ps : List Mo} (h : OwnE ERp 60 w base v rs) (hr : RowsP w b2 rs ps) : IsP w v ps := by
  obtain ⟨A, c, rfl, hR⟩ := OwnE.reads h
  refine ⟨A, c, by rw [hr.1], Reads.lift (D := DPart) hR rfl hr.1.symm fun i x y hx hy => ?_⟩
  obtain ⟨h1, h2⟩ := hr.2 i y x hy hx
  obtain ⟨A1, c1, e1, r1⟩ := OwnE.reads h1
  obtain ⟨A2, c2, e2, r2⟩ := OwnE.reads h2
  exact ⟨A1, c1, A2, c2, by show [rsv y.1, rsv y.2] = _; rw [e1, e2], r1, r2⟩

theorem ne_beq' {a b : Int} (h : a ≠ b) : (a == b) = false := beq_eq_false_iff_ne.2 h
theorem numS_range (n : Nat) : numS 0 n = Pt.toI (List.range n) := by
  apply List.ext_getElem?
  intro i
  unfold numS
  by_cases h : i < n
  · rw [coll_get _ h, Pt.toI_get?, List.getElem?_range h]; simp
  · rw [List.getElem?_eq_none (by rw [coll_len]; omega), List.getElem?_eq_none (by rw [Pt.toI_length, List.length_range]; omega)]
theorem toI_relax (ls : List Nat) (a b : Nat) : ((Pt.toI ls).set a ((min (at_ ls a) (at_ ls b) : Nat) : Int)).set b ((min (at_ ls a) (at_ ls b) : Nat) : Int) = Pt.toI (relax ls a b) := by
  unfold relax Pt.toI
  rw [List.map_set, List.map_set]

theorem far_of {u v : Value} {B : Nat} (h : ∀ q, u.ownBlock = some q → q < B) (h2 : ∀ q, v.ownBlock = some q → B ≤ q) : u.ownBlock = none ∨ u.ownBlock ≠ v.ownBlock := by
  cases e : u.ownBlock with
  | none => exact .inl rfl
  | some q => exact .inr fun e2 => by have := h q e; have := h2 q e2.symm; omega
set_option maxRecDepth 100000 in
set_option maxHeartbeats 8000000 in
theorem compRf : CompC 30 := by
  intro g An cn Ae ce w hT
  have HV := Lib.hid (validR_any g An cn Ae ce _ (hT.up (below_a w (.cells #[.slice An g.ns.length cn, .slice Ae g.es.length ce] 25 (0, 0)))))
  have HT := Lib.hid hT
  have HNO : Hid (validE g ≠ 0 → compR g = []) := Lib.hid fun h => by unfold compR; rw [if_neg h]
  have HYES : Hid (validE g = 0 → compR g = compTo g (lstS g) g.ns.length) := Lib.hid fun h => by unfold compR; rw [if_pos h]
  obtain ⟨v, hv0⟩ : ∃ v, v = validE g := ⟨_, rfl⟩
  have HVE := Lib.hid hv0
  rw [← hv0] at HV HNO HYES ⊢
  clear hT hv0
  generalize compR g = rc at HNO HYES ⊢
  go_enter Try.func30, Try.ntmps30
  go_wp2_with fail
  refine HV.out.mono ?_
  rintro e w1 ⟨rfl, hb1⟩
  have hb1' := below_one' hb1
  obtain ⟨c0, c1⟩ := box_cell hb1'
  have HB := Lib.hid hb1'
  have HBw := Lib.hid (box_below hb1')
  have hs1 : w.heap.size + 1 ≤ w1.heap.size := by have := hb1'.size; simpa using this
  clear hb1 hb1' HV
  by_cases hv : v = 0
  case neg =>
    have HR := Lib.hid (HNO.out hv)
    have t1 : ((v : Int) != 0) = true := by simp; omega
    clear hv
    go_wp2_with fail
    go_ret2
    exact ⟨⟨_, rfl, by rw [HR.out]; exact isP_nil _⟩, HBw.out⟩
  have HVA := Lib.hid (show validE g = 0 by rw [← HVE.out]; exact hv)
  have HR := Lib.hid (HYES.out hv)
  subst hv
  obtain ⟨l1, l2, _⟩ := valid_zero HVA.out
  have HNM := Lib.hid (numbersR_any 0 g.ns.length w1 (Int.le_refl _) (by omega) (by omega))
  have HXY := Lib.hid (fun k (hk : k < g.es.length) => show ∃ (ty : Int) (a b : Nat), g.es.getD k default = ⟨ty, a, b⟩ ∧ a < g.ns.length ∧ b < g.ns.length ∧ frN g k = a ∧ toN g k = b by
    obtain ⟨⟨f1, f2⟩, f3, f4⟩ := valid_at HVA.out hk
    unfold frN toN
    generalize g.es.getD k default = x at f1 f2 f3 f4 ⊢
    obtain ⟨ty, fr, tt⟩ := x
    dsimp only at f1 f2 f3 f4 ⊢
    exact ⟨ty, fr.toNat, tt.toNat, by rw [Int.toNat_of_nonneg f1, Int.toNat_of_nonneg f3], by omega, by omega, rfl, rfl⟩)
  clear HNO HYES
  go_wp2_with fail
  refine HNM.out.mono ?_
  rintro e w2 ⟨vL, rfl, hoL, hb2⟩
  rw [numS_range] at hoL
  have HOL := Lib.hid (OwnE.mono hoL hs1)
  have HB2 := Lib.hid (HB.out.trans (hb2.mono hs1))
  obtain ⟨aL, cL, hvL⟩ := OwnE.slice hoL
  rw [Pt.toI_length, List.length_range] at hvL
  subst hvL
  clear hoL hb2 HNM HB HBw c0 c1 hs1
  go_wp2_with fail
  go_loopw [6] (fun vi wr => ∃ r : Nat, r ≤ g.ns.length ∧ vi = .int .i64 r ∧ OwnI wr (w.heap.size + 1) (.slice aL g.ns.length cL) (Pt.toI (rnd g r)) ∧ Below (w.heap.size + 1) (w.alloc (.cells #[.slice An g.ns.length cn, .slice Ae g.es.length ce] 25 (0, 0))) wr) (fun vi _ => g.ns.length - (intOf vi).toNat)
  case atStart => exact ⟨0, Nat.zero_le _, rfl, HOL.out, HB2.out⟩
  case round =>
    clear HOL HB2
    obtain ⟨r, hr, rfl, hown, hbel⟩ := hrel
    obtain ⟨c0, c1⟩ := box_cell hbel
    have hs1 : w.heap.size < wr.heap.size := by have := hbel.size; simp at this; omega
    have HO := Lib.hid hown
    have HB := Lib.hid hbel
    clear hown hbel
    by_cases hlr : r < g.ns.length
    · obtain ⟨wo, hwo⟩ : ∃ wo, wo = wr := ⟨_, rfl⟩
      subst hwo
      obtain ⟨gL, capL, hE, hgL, _⟩ := OwnE.pos HO.out (by rw [Pt.toI_length, rnd_len]; omega)
      simp only [Value.slice.injEq] at hE
      obtain ⟨rfl, hjunk, rfl⟩ := hE
      clear hjunk
      go_wp2_with fail
      clear c0 c1
      go_loopw [7] (fun vi wr => ∃ j : Nat, j ≤ g.es.length ∧ vi = .int .i64 j ∧ OwnI wr (w.heap.size + 1) (.slice (some ⟨gL, 0, none⟩) g.ns.length cL) (Pt.toI (relTo g (rnd g r) j)) ∧ Below (w.heap.size + 1) (w.alloc (.cells #[.slice An g.ns.length cn, .slice Ae g.es.length ce] 25 (0, 0))) wr) (fun vi _ => g.es.length - (intOf vi).toNat)
      case atStart => exact ⟨0, Nat.zero_le _, rfl, HO.out, HB.out⟩
      case round =>
        clear HO HB
        obtain ⟨j, hj, rfl, hown, hbel⟩ := hrel
        obtain ⟨c0, c1⟩ := box_cell hbel
        have hs2 : w.heap.size < wr.heap.size := by have := hbel.size; simp at this; omega
        have HO := Lib.hid hown
        have HB := Lib.hid hbel
        have HBw := Lib.hid (box_below hbel)
        clear hown hbel
        by_cases hlj : j < g.es.length
        · obtain ⟨ty, a, b, g1, ha, hb, g4, g5⟩ := HXY.out j hlj
          obtain ⟨bb, off, rfl, hbb, hc⟩ := Eds.cells (HT.out.es.below HBw.out) hlj
          obtain ⟨k0, k1, k2⟩ := hc j hlj
          rw [g1] at k0 k1 k2
          have HST : Hid (relax (relTo g (rnd g r) j) a b = relTo g (rnd g r) (j + 1)) := Lib.hid (by simp only [relTo]; rw [g4, g5])
          have hln : (Pt.toI (relTo g (rnd g r) j)).length = g.ns.length := by rw [Pt.toI_length, relTo_len, rnd_len]
          have ca := OwnI.cell hln.symm HO.out ha
          have cb := OwnI.cell hln.symm HO.out hb
          have fa := OwnI.free hln.symm HO.out a
          have fb := OwnI.free hln.symm HO.out b
          rw [Pt.toI_at] at ca cb
          have HFQ : Hid (∀ q, OwnI (((wr.drewN q).setCell ⟨gL, a, none⟩ (.int .i64 (min ((at_ (relTo g (rnd g r) j) a : Nat) : Int) ((at_ (relTo g (rnd g r) j) b : Nat) : Int)))).setCell ⟨gL, b, none⟩ (.int .i64 (min ((at_ (relTo g (rnd g r) j) a : Nat) : Int) ((at_ (relTo g (rnd g r) j) b : Nat) : Int)))) (w.heap.size + 1) (.slice (some ⟨gL, 0, none⟩) g.ns.length cL) (Pt.toI (relTo g (rnd g r) (j + 1))) ∧ (∃ yb, ((wr.drewN q).setCell ⟨gL, a, none⟩ (.int .i64 (min ((at_ (relTo g (rnd g r) j) a : Nat) : Int) ((at_ (relTo g (rnd g r) j) b : Nat) : Int)))).cell? ⟨gL, b, none⟩ = some yb) ∧ ((wr.drewN q).setCell ⟨gL, a, none⟩ (.int .i64 (min ((at_ (relTo g (rnd g r) j) a : Nat) : Int) ((at_ (relTo g (rnd g r) j) b : Nat) : Int)))).frozen? ⟨gL, b, none⟩ = false) := Lib.hid fun q => by
            have em : min ((at_ (relTo g (rnd g r) j) a : Nat) : Int) ((at_ (relTo g (rnd g r) j) b : Nat) : Int) = ((min (at_ (relTo g (rnd g r) j) a) (at_ (relTo g (rnd g r) j) b) : Nat) : Int) := by omega
            rw [em]
            have hq := OwnE.below HO.out (below_draws (Below.refl _ _) q) (Nat.le_refl _)
            have hset := OwnI.set hln.symm hq a ((min (at_ (relTo g (rnd g r) j) a) (at_ (relTo g (rnd g r) j) b) : Nat) : Int)
            have hset2 := OwnI.set (by rw [List.length_set]; exact hln.symm) hset.1 b ((min (at_ (relTo g (rnd g r) j) a) (at_ (relTo g (rnd g r) j) b) : Nat) : Int)
            rw [toI_relax, HST.out] at hset2
            exact ⟨hset2.1, ⟨_, OwnI.cell (by rw [List.length_set]; exact hln.symm) hset.1 hb⟩, OwnI.free (by rw [List.length_set]; exact hln.symm) hset.1 b⟩
          have HLN := Lib.hid hln
          clear hc g1 g4 g5 hln HST
          dsimp only at k0 k1 k2
          generalize at_ (relTo g (rnd g r) j) a = x at *
          generalize at_ (relTo g (rnd g r) j) b = y at *
          have j0 : (0 : Int) ≤ (j : Int) := by omega
          have j1 : (j : Int) < (g.es.length : Int) := by omega
          have j2 : ((j : Int)).toNat = j := by omega
          have ja0 : (0 : Int) ≤ (a : Int) := by omega
          have ja1 : (a : Int) < (g.ns.length : Int) := by omega
          have ja2 : ((a : Int)).toNat = a := by omega
          have jb0 : (0 : Int) ≤ (b : Int) := by omega
          have jb1 : (b : Int) < (g.ns.length : Int) := by omega
          have jb2 : ((b : Int)).toNat = b := by omega
          go_wp2_with fail
          go_quiet (fail)
          generalize nq = q1
          go_wp2_with fail
          go_quiet (fail)
          obtain ⟨HS2', ⟨yb, hyb⟩, hyf⟩ := HFQ.out (q1 + nq)
          have HS2 := Lib.hid HS2'
          clear HS2'
          go_wp2_with fail
          go_roundw
          case rel => exact ⟨j + 1, by omega, by go_num, HS2.out, ((below_draws HB.out (q1 + nq)).setCell (p := ⟨gL, a, none⟩) hgL _).setCell (p := ⟨gL, b, none⟩) hgL _⟩
          case measure => simp [intOf]; omega
        · have e : j = g.es.length := by omega
          subst e
          go_wp2_with fail
          go_roundw
          case rel => exact ⟨r + 1, by omega, by go_num, HO.out, HB.out⟩
          case measure => simp [intOf]; omega
    · have e : r = g.ns.length := by omega
      subst e
      obtain ⟨wo, hwo⟩ : ∃ wo, wo = wr := ⟨_, rfl⟩
      subst hwo
      have HOL := Lib.hid (OwnE.cast (by rw [rnd_all HVA.out]) HO.out)
      have HWL : Hid (∀ W, Below wo.heap.size wo W → ∀ i, i < g.ns.length → ∃ b off, aL = some ⟨b, off, none⟩ ∧ b < W.heap.size ∧ W.cell? ⟨b, off + i, none⟩ = some (.int .i64 (at_ (lstS g) i : Nat))) := Lib.hid fun W h i hi => by
        obtain ⟨A, c, e, hR⟩ := OwnE.reads (OwnE.below HOL.out h (Nat.le_refl _))
        simp only [Value.slice.injEq] at e
        obtain ⟨rfl, _, _⟩ := e
        have hll : (Pt.toI (lstS g)).length = g.ns.length := by rw [Pt.toI_length, lstS_len]
        obtain ⟨b, off, e1, e2, e3⟩ := Ints.cells hR (k := i) (by rw [hll]; exact hi)
        exact ⟨b, off, e1, e2, by rw [e3 i (by rw [hll]; exact hi), Pt.toI_at]⟩
      have HWB := Lib.hid (fun W (h : Below wo.heap.size wo W) => box_cell (HB.out.trans (h.mono (by omega))))
      have HWw := Lib.hid (fun W (h : Below wo.heap.size wo W) => box_below (HB.out.trans (h.mono (by omega))))
      have HCY := Lib.hid (fun k (h : at_ (lstS g) k = k) => show compTo g (lstS g) k ++ [⟨ndsOf (lstS g) g.ns.length k, edsOf g (lstS g) g.es.length k⟩] = compTo g (lstS g) (k + 1) by unfold compTo; rw [Pt.fixsTo_yes h, List.map_append]; rfl)
      have HCN := Lib.hid (fun k (h : at_ (lstS g) k ≠ k) => show compTo g (lstS g) (k + 1) = compTo g (lstS g) k by unfold compTo; rw [Pt.fixsTo_no h])
      have HC0 : Hid (compTo g (lstS g) 0 = []) := Lib.hid rfl
      have HCL := Lib.hid (fun k => show (compTo g (lstS g) k).length ≤ k by rw [compTo_len]; exact Pt.rank_le _ _)
      have HND := Lib.hid (fun r i => show ndsOf (lstS g) (i + 1) r = ndsOf (lstS g) i r ++ (if at_ (lstS g) i = r then [(i : Int)] else []) from rfl)
      have HED := Lib.hid (fun r i => show edsOf g (lstS g) (i + 1) r = edsOf g (lstS g) i r ++ (if at_ (lstS g) (frN g i) = r then [(i : Int)] else []) from rfl)
      have HNL := Lib.hid (fun r i => show (ndsOf (lstS g) i r).length ≤ i from coll_le (fun i => by split <;> simp) i)
      have HEL := Lib.hid (fun r i => show (edsOf g (lstS g) i r).length ≤ i from coll_le (fun i => by split <;> simp) i)
      have HN0 : Hid (∀ r, ndsOf (lstS g) 0 r = []) := Lib.hid fun r => rfl
      have HE0 : Hid (∀ r, edsOf g (lstS g) 0 r = []) := Lib.hid fun r => rfl
      clear HO HB hr hlr HOL
      generalize ndsOf (lstS g) = nd at *
      generalize edsOf g (lstS g) = ed at *
      generalize compTo g (lstS g) = cp at *
      generalize at_ (lstS g) = L at *
      go_wp2_with fail
      clear c0 c1
      go_loopw [11, 12] (fun vo vi wr => ∃ (k : Nat) (rs : List (RSl × RSl)), k ≤ g.ns.length ∧ vi = .int .i64 k ∧ OwnE ERp 60 wr wo.heap.size vo rs ∧ RowsP wr wo.heap.size rs (cp k) ∧ Below wo.heap.size wo wr) (fun _ vi _ => g.ns.length - (intOf vi).toNat)
      case atStart => exact ⟨0, [], Nat.zero_le _, rfl, OwnE.nil _ _ _, by rw [HC0.out]; exact ⟨rfl, fun i r x h => by simp at h⟩, Below.refl _ _⟩
      case round =>
        obtain ⟨k, rs, hk, rfl, hown, hrows, hbel⟩ := hrel
        have HO := Lib.hid hown
        have HRW := Lib.hid hrows
        have HG := Lib.hid hbel
        have hs3 := hbel.size
        obtain ⟨c0, c1⟩ := HWB.out _ HG.out
        have z0 : w.heap.size < wr.heap.size := by omega
        have hrl : rs.length ≤ 40 := by have := hrows.1; have := HCL.out k; omega
        obtain ⟨ao, cap, rfl⟩ := OwnE.slice hown
        clear hown hrows hbel
        by_cases hlt : k < g.ns.length
        · obtain ⟨bL, offL, rfl, hbL, q0⟩ := HWL.out _ HG.out k hlt
          by_cases hroot : L k = k
          case neg =>
            have HCN' := Lib.hid (HCN.out k hroot)
            generalize L k = y at q0 hroot
            have t1 : ((y : Int) != (k : Int)) = true := by simp; omega
            clear hroot
            go_wp2_with fail
            go_roundw
            case rel => exact ⟨k + 1, rs, by omega, by go_num, HO.out, by rw [HCN'.out]; exact HRW.out, HG.out⟩
            case measure => simp [intOf]; omega
          have HCY' := Lib.hid (HCY.out k hroot)
          rw [hroot] at q0
          have t1 : ((k : Int) != (k : Int)) = false := by simp
          clear hroot
          obtain ⟨wp, hwp⟩ : ∃ wp, wp = wr := ⟨_, rfl⟩
          subst hwp
          have HP0 : Hid (BoxIs wp.heap.size (.slice none 0 0) (.slice none 0 0) 60 (wp.alloc (.cells #[.slice none 0 0, .slice none 0 0] 60 (0, 0)))) := Lib.hid (heap_alloc_new _ _)
          have HPB := Lib.hid (below_a wp (.cells #[.slice none 0 0, .slice none 0 0] 60 (0, 0)))
          have HGT := Lib.hid (fun W (h : Below wp.heap.size wp W) => HG.out.trans (h.mono hs3))
          go_wp2_with fail
          clear c0 c1 q0 t1
          go_loopw [14] (fun vi wr => ∃ (i : Nat) (vN : Value), i ≤ g.ns.length ∧ vi = .int .i64 i ∧ BoxIs wp.heap.size vN (.slice none 0 0) 60 wr ∧ OwnI wr (wp.heap.size + 1) vN (nd i k) ∧ Below wp.heap.size wp wr) (fun vi _ => g.ns.length - (intOf vi).toNat)
          case atStart => exact ⟨0, _, Nat.zero_le _, rfl, HP0.out, by rw [HN0.out]; exact OwnE.nil _ _ _, HPB.out⟩
          case round =>
            obtain ⟨i, vN, hi, rfl, hbl, hown, hbel⟩ := hrel
            have HBL := Lib.hid hbl
            have HGP := Lib.hid hbel
            have hsz := heap_lt hbl
            obtain ⟨aN, cN, rfl⟩ := OwnE.slice hown
            have HON := Lib.hid hown
            clear hbl hown hbel
            obtain ⟨c0, c1⟩ := HWB.out _ (HGT.out _ HGP.out)
            obtain ⟨b0, b1⟩ := BoxIs.cells HBL.out
            have bf := BoxIs.free HBL.out 0
            have z1 : w.heap.size < wr.heap.size := by omega
            by_cases hli : i < g.ns.length
            · obtain ⟨bL2, offL2, hE2, hbL2, q1⟩ := HWL.out _ (HGT.out _ HGP.out) i hli
              simp only [Option.some.injEq, Addr.mk.injEq, and_true] at hE2
              obtain ⟨rfl, rfl⟩ := hE2
              have hNDi := HND.out k i
              have hle := HNL.out k i
              by_cases hLi : L i = k
              · rw [if_pos hLi] at hNDi
                rw [hLi] at q1
                have HN2 := Lib.hid hNDi
                have t1 : ((k : Int) == (k : Int)) = true := by simp
                clear hLi hNDi
                go_wp2_with (at_builtin; refine wpList_append_int (w := wr.alloc _) rfl _ _ rfl (wp.heap.size + 1) _ (nd i k) rfl ?y1 wr.heap.size 1 (i : Int) rfl ?y2 ?y3 ?y4 ?_)
                case y1 => exact HON.out.alloc _
                case y2 => exact cell_new _ _ _
                case y3 => omega
                case y4 => first | omega | (simp; omega)
                intro v3 w3 ho3 hg3 hb3
                have hgr := Grow.own (HON.out.alloc _) hg3 hb3
                have HB3 := Lib.hid ((BoxIs.up HBL.out (below_a _ _)).grow (by decide) hgr)
                have HG3 := Lib.hid ((HGP.out.trans ((below_a _ _).mono (by omega))).trans (hb3.mono (Nat.le_succ _)))
                have ho3' := OwnE.cast HN2.out.symm ho3
                obtain ⟨ao3, cap3, rfl⟩ := OwnE.slice ho3'
                have HO3 := Lib.hid ho3'
                clear ho3 ho3' hg3 hb3 hgr b0 b1 bf
                obtain ⟨b0, b1⟩ := BoxIs.cells HB3.out
                have bf := BoxIs.free HB3.out 0
                go_wp2_with fail
                go_roundw
                case rel => exact ⟨i + 1, _, by omega, by go_num, BoxIs.set0 HB3.out _, OwnE.setBox HO3.out HB3.out (by decide) 0, HG3.out.setCell (p := ⟨wp.heap.size, 0, none⟩) (Nat.le_refl _) _⟩
                case measure => simp [intOf]; omega
              · rw [if_neg hLi, List.append_nil] at hNDi
                have HN2 := Lib.hid hNDi
                generalize L i = y at q1 hLi
                have t1 : ((y : Int) == (k : Int)) = false := ne_beq' (by omega)
                clear hLi hNDi
                go_wp2_with fail
                go_roundw
                case rel => exact ⟨i + 1, _, by omega, by go_num, HBL.out, OwnE.cast HN2.out.symm HON.out, HGP.out⟩
                case measure => simp [intOf]; omega
            · have e : i = g.ns.length := by omega
              subst e
              obtain ⟨w5, hw5⟩ : ∃ w5, w5 = wr := ⟨_, rfl⟩
              subst hw5
              have HNB := Lib.hid (fun q (hq : (Value.slice aN (nd g.ns.length k).length cN).ownBlock = some q) => (OwnE.lt HON.out q hq).2)
              have hz5 := HGP.out.size
              go_wp2_with fail
              clear c0 c1 b0 b1 bf
              go_loopw [15] (fun vi wr => ∃ (j : Nat) (vE : Value), j ≤ g.es.length ∧ vi = .int .i64 j ∧ BoxIs wp.heap.size (.slice aN (nd g.ns.length k).length cN) vE 60 wr ∧ OwnI wr (wp.heap.size + 1) (.slice aN (nd g.ns.length k).length cN) (nd g.ns.length k) ∧ OwnI wr w5.heap.size vE (ed j k) ∧ Below wp.heap.size wp wr ∧ w5.heap.size ≤ wr.heap.size) (fun vi _ => g.es.length - (intOf vi).toNat)
              case atStart => exact ⟨0, _, Nat.zero_le _, rfl, HBL.out, HON.out, by rw [HE0.out]; exact OwnE.nil _ _ _, HGP.out, Nat.le_refl _⟩
              case round =>
                clear HBL HON HGP
                obtain ⟨j, vE, hj, rfl, hbl, hownN, hown, hbel, hz6⟩ := hrel
                have HBL := Lib.hid hbl
                have HGP := Lib.hid hbel
                have hsz6 := heap_lt hbl
                obtain ⟨aE, cE, rfl⟩ := OwnE.slice hown
                have HON := Lib.hid hownN
                have HOE := Lib.hid hown
                clear hbl hown hbel hownN
                obtain ⟨c0, c1⟩ := HWB.out _ (HGT.out _ HGP.out)
                obtain ⟨b0, b1⟩ := BoxIs.cells HBL.out
                have bf := BoxIs.free HBL.out 1
                have z2 : w.heap.size < wr.heap.size := by omega
                by_cases hlj : j < g.es.length
                · obtain ⟨ty, a, b, g1, ha, hb, g4, g5⟩ := HXY.out j hlj
                  obtain ⟨bb, off, rfl, hbb, hc⟩ := Eds.cells (HT.out.es.below (HWw.out _ (HGT.out _ HGP.out))) hlj
                  obtain ⟨k0, k1, k2⟩ := hc j hlj
                  rw [g1] at k0 k1 k2
                  dsimp only at k0 k1 k2
                  obtain ⟨bL2, offL2, hE2, hbL2, q1⟩ := HWL.out _ (HGT.out _ HGP.out) a ha
                  simp only [Option.some.injEq, Addr.mk.injEq, and_true] at hE2
                  obtain ⟨rfl, rfl⟩ := hE2
                  have hEDj := HED.out k j
                  rw [g4] at hEDj
                  have hle := HEL.out k j
                  have ja0 : (0 : Int) ≤ (a : Int) := by omega
                  have ja1 : (a : Int) < (g.ns.length : Int) := by omega
                  have ja2 : ((a : Int)).toNat = a := by omega
                  clear hc g1 g4 g5
                  by_cases hLa : L a = k
                  · rw [if_pos hLa] at hEDj
                    rw [hLa] at q1
                    have HE2 := Lib.hid hEDj
                    have t1 : ((k : Int) == (k : Int)) = true := by simp
                    clear hLa hEDj
                    go_wp2_with (at_builtin; refine wpList_append_int (w := wr.alloc _) rfl _ _ rfl w5.heap.size _ (ed j k) rfl ?y1 wr.heap.size 1 (j : Int) rfl ?y2 ?y3 ?y4 ?_)
                    case y1 => exact HOE.out.alloc _
                    case y2 => exact cell_new _ _ _
                    case y3 => omega
                    case y4 => first | omega | (simp; omega)
                    intro v3 w3 ho3 hg3 hb3
                    have hgr := Grow.own (HOE.out.alloc _) hg3 hb3
                    have HB3 := Lib.hid ((BoxIs.up HBL.out (below_a _ _)).grow (by decide) hgr)
                    have HG3 := Lib.hid ((HGP.out.trans ((below_a _ _).mono (by omega))).trans (hb3.mono (by omega)))
                    have HN3 := Lib.hid (OwnE.kept (HON.out.alloc _) hg3 (far_of HNB.out fun q hq => (OwnE.lt HOE.out q hq).1))
                    have hz7 : w5.heap.size ≤ w3.heap.size := by have := hb3.size; simp at this; omega
                    have ho3' := OwnE.cast HE2.out.symm ho3
                    obtain ⟨ao3, cap3, rfl⟩ := OwnE.slice ho3'
                    have HO3 := Lib.hid ho3'
                    clear ho3 ho3' hg3 hb3 hgr b0 b1 bf
                    obtain ⟨b0, b1⟩ := BoxIs.cells HB3.out
                    have bf := BoxIs.free HB3.out 1
                    go_wp2_with fail
                    go_roundw
                    case rel => exact ⟨j + 1, _, by omega, by go_num, BoxIs.set1 HB3.out _, OwnE.setBox HN3.out HB3.out (by decide) 1, OwnE.setBox HO3.out HB3.out (by decide) 1, HG3.out.setCell (p := ⟨wp.heap.size, 1, none⟩) (Nat.le_refl _) _, by simpa using hz7⟩
                    case measure => simp [intOf]; omega
                  · rw [if_neg hLa, List.append_nil] at hEDj
                    have HE2 := Lib.hid hEDj
                    generalize L a = y at q1 hLa
                    have t1 : ((y : Int) == (k : Int)) = false := ne_beq' (by omega)
                    clear hLa hEDj
                    go_wp2_with fail
                    go_roundw
                    case rel => exact ⟨j + 1, _, by omega, by go_num, HBL.out, HON.out, OwnE.cast HE2.out.symm HOE.out, HGP.out, hz6⟩
                    case measure => simp [intOf]; omega
                · have e : j = g.es.length := by omega
                  subst e
                  have HOR := Lib.hid (OwnE.below HO.out HGP.out (Nat.le_refl _))
                  have HRR := Lib.hid (RowsP.below HRW.out HGP.out (Nat.le_refl _))
                  have hz8 := HGP.out.size
                  go_wp2_with (at_builtin; refine wpList_append_E (E := ERp) (w := wr.alloc _) rfl _ _ 50 60 rfl Try.underlying50 infoPart rfl (by decide) (by decide) wo.heap.size _ rs rfl ?y1 ⟨wr.heap.size, 0, none⟩ 1 ((aN, (nd g.ns.length k).length, cN), (aE, (ed g.es.length k).length, cE)) rfl ?y2 ?y3 ?y4 ?_)
                  case y1 => exact HOR.out.alloc _
                  case y2 => exact news_of (E := ERp) (heap_alloc_new _ _) rfl
                  case y3 => omega
                  case y4 => first | omega | (simp; omega)
                  intro v3 w3 ho3 hg3 hb3
                  have hgr := Grow.own (HOR.out.alloc _) hg3 hb3
                  have hr3 := RowsP.snoc (r := ((aN, (nd g.ns.length k).length, cN), (aE, (ed g.es.length k).length, cE))) (x := ⟨nd g.ns.length k, ed g.es.length k⟩) ((RowsP.below HRR.out (below_a _ _) (Nat.le_refl _)).grow (by decide) hgr) (hgr.row (by decide) ((OwnE.mono HON.out (by omega)).alloc _)) (hgr.row (by decide) ((OwnE.mono HOE.out (by omega)).alloc _))
                  rw [HCY'.out] at hr3
                  have HR3 := Lib.hid hr3
                  have HG3 := Lib.hid ((HGT.out _ HGP.out).trans (((below_a _ _).mono (by omega)).trans hb3))
                  obtain ⟨ao3, cap3, rfl⟩ := OwnE.slice ho3
                  have HO3 := Lib.hid ho3
                  clear ho3 hg3 hb3 hgr hr3 b0 b1 bf
                  go_wp2_with fail
                  go_roundw
                  case rel => exact ⟨k + 1, _, by omega, by go_num, HO3.out, HR3.out, HG3.out⟩
                  case measure => simp [intOf]; omega
        · have e : k = g.ns.length := by omega
          subst e
          have HPP := Lib.hid (isP_rows HO.out HRW.out)
          have HBF := Lib.hid (HWw.out _ HG.out)
          go_wp2_with fail
          go_ret2
          exact ⟨⟨_, rfl, by rw [HR.out]; exact HPP.out⟩, HBF.out⟩

end Go.Proofs.Ytiafmhdicgmfaaa
