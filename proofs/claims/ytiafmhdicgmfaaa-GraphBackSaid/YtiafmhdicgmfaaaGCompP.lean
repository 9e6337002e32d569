/-
  Graphs, the program: Components.
-/
import Derived.Test.YtiafmhdicgmfaaaGParts
import Derived.Test.YtiafmhdicgmfaaaGComp
import Derived.Test.YtiafmhdicgmfaaaGVal
import Derived.Test.YtiafmhdicgmfaaaPt
namespace Go.Proofs.Ytiafmhdicgmfaaa
open Go.RowKit
open Pt (at_)

/-! from the texts of partition, and back -/
def EPr : El (Nat × Nat) := ⟨fun x => [.int .i64 (x.1 : Int), .int .i64 (x.2 : Int)], 2, fun _ => rfl, fun x u hu => by simp at hu; rcases hu with rfl | rfl <;> rfl⟩
theorem infoPr : (Try.prog.info? 85).map (fun i => (i.zero, i.size, i.bytes)) = some (some (.agg #[.int .i64 0, .int .i64 0]), 2, 16) := by kernel_rfl
theorem pairs_of {w : World} {B : Nat} {A : Option Addr} {ps : List (Nat × Nat)} (h : Reads EPr w B A ps) : Pt.Pairs w B A ps := by
  rcases h with h | ⟨b, off, h1, h2, h3⟩
  · exact .inl h
  · refine .inr ⟨b, off, h1, h2, fun i hi => ?_⟩
    have hx : ps[i]? = some (ps.getD i (0, 0)) := by rw [List.getD_eq_getElem?_getD, List.getElem?_eq_getElem hi]; rfl
    exact ⟨h3 i _ hx 0 _ rfl, h3 i _ hx 1 _ rfl⟩
theorem ownI_of {w : World} {base : Nat} {v : Value} {ys : List Nat} (h : Pt.Own w base v ys) : OwnI w base v (Pt.toI ys) := by
  unfold OwnI OwnE
  rw [cellsE_int, Pt.toI_length]
  have : (Pt.toI ys).map (Value.int .i64) = Pt.cellsN ys := by simp [Pt.toI, Pt.cellsN]
  rw [this]
  exact h
theorem ints_pt {w : World} {B : Nat} {A : Option Addr} {xs : List Int} (h : Ints w B A xs) : Pt.Ints w B A xs := by
  rcases h with h | ⟨b, off, h1, h2, h3⟩
  · exact .inl h
  · refine .inr ⟨b, off, h1, h2, fun i x hx => ?_⟩
    have := h3 i x hx 0 _ rfl
    rwa [show EInt.size = 1 from rfl, Nat.mul_one, Nat.add_zero] at this

def CompC (f : FuncId) : Prop := ∀ (g : Gr) (An : Option Addr) (cn : Nat) (Ae : Option Addr) (ce : Nat) (w : World), GrAt w An cn Ae ce g →
  Calls Try.prog f #[gval An g.ns.length cn Ae g.es.length ce] w fun e w' => (∃ v, e = .returned (.tuple #[v, .int .i64 (validE g : Nat)]) ∧ IsP w' v (compR g)) ∧ Below w.heap.size w w'

/-- the rows of the parts after k nodes and m edges -/
def rowQ (g : Gr) (L : List Nat) (k m j : Nat) : List Int :=
  if j % 2 = 0 then coll (fun i => if at_ (Pt.quoS L) i = j / 2 then [(i : Int)] else []) k else coll (fun e => if at_ (Pt.quoS L) (frN g e) = j / 2 then [(e : Int)] else []) m
theorem rowQ_zero (g : Gr) (L : List Nat) (j : Nat) : rowQ g L 0 0 j = [] := by unfold rowQ; split <;> rfl
theorem rowQ_node (g : Gr) (L : List Nat) (k : Nat) : ∀ j, (if j = at_ (Pt.quoS L) k * 2 then rowQ g L k 0 (at_ (Pt.quoS L) k * 2) ++ [(k : Int)] else rowQ g L k 0 j) = rowQ g L (k + 1) 0 j := by
  intro j
  by_cases hj : j = at_ (Pt.quoS L) k * 2
  · subst hj
    rw [if_pos rfl]
    unfold rowQ
    rw [if_pos (by omega), if_pos (by omega)]
    simp only [coll]
    rw [if_pos (by omega)]
  · rw [if_neg hj]
    unfold rowQ
    by_cases h2 : j % 2 = 0
    · rw [if_pos h2, if_pos h2]
      simp only [coll]
      rw [if_neg (by omega), List.append_nil]
    · rw [if_neg h2, if_neg h2]
theorem rowQ_edge (g : Gr) (L : List Nat) (n m : Nat) : ∀ j, (if j = at_ (Pt.quoS L) (frN g m) * 2 + 1 then rowQ g L n m (at_ (Pt.quoS L) (frN g m) * 2 + 1) ++ [(m : Int)] else rowQ g L n m j) = rowQ g L n (m + 1) j := by
  intro j
  by_cases hj : j = at_ (Pt.quoS L) (frN g m) * 2 + 1
  · subst hj
    rw [if_pos rfl]
    unfold rowQ
    rw [if_neg (by omega), if_neg (by omega)]
    simp only [coll]
    rw [if_pos (by omega)]
  · rw [if_neg hj]
    unfold rowQ
    by_cases h2 : j % 2 = 0
    · rw [if_pos h2, if_pos h2]
    · rw [if_neg h2, if_neg h2]
      simp only [coll]
      rw [if_neg (by omega), List.append_nil]
theorem rowQ_len (g : Gr) (L : List Nat) (k m j : Nat) : (rowQ g L k m j).length ≤ k + m := by
  unfold rowQ
  split
  · have := coll_le (f := fun i => if at_ (Pt.quoS L) i = j / 2 then [(i : Int)] else []) (fun i => by split <;> simp) k
    omega
  · have := coll_le (f := fun e => if at_ (Pt.quoS L) (frN g e) = j / 2 then [(e : Int)] else []) (fun i => by split <;> simp) m
    omega
/-- at the end the rows are the components -/
theorem rowQ_end {g : Gr} (hv : validE g = 0) : ∀ i (hi : i < (compTo g (lstS g) g.ns.length).length), rowQ g (lstS g) g.ns.length g.es.length (i * 2) = (compTo g (lstS g) g.ns.length)[i].ns ∧ rowQ g (lstS g) g.ns.length g.es.length (i * 2 + 1) = (compTo g (lstS g) g.ns.length)[i].es := by
  intro i hi
  have hV := lstS_V hv
  have hlen := lstS_len g
  have hi' : i < (Pt.fixsTo (lstS g) g.ns.length).length := by rw [compTo, List.length_map] at hi; exact hi
  obtain ⟨f, hf⟩ : ∃ f, (Pt.fixsTo (lstS g) g.ns.length)[i]? = some f := ⟨_, List.getElem?_eq_getElem hi'⟩
  obtain ⟨f1, f2, f3⟩ := Pt.fixs_mem hf
  have hel : (compTo g (lstS g) g.ns.length)[i] = ⟨ndsOf (lstS g) g.ns.length f, edsOf g (lstS g) g.es.length f⟩ := by
    have : (compTo g (lstS g) g.ns.length)[i]? = some ⟨ndsOf (lstS g) g.ns.length f, edsOf g (lstS g) g.es.length f⟩ := by
      unfold compTo
      rw [List.getElem?_map, hf]; rfl
    rw [List.getElem?_eq_getElem hi] at this
    injection this
  have hq : ∀ k, k < g.ns.length → (at_ (Pt.quoS (lstS g)) k = i ↔ at_ (lstS g) k = f) := fun k hk => by
    rw [Pt.quoS_at (by rw [hlen]; exact hk)]
    have hroot : at_ (lstS g) k < g.ns.length := by have := hV.lt (i := k) (by rw [hlen]; exact hk); rwa [hlen] at this
    have hid := hV.idem (i := k) (by rw [hlen]; exact hk)
    constructor
    · intro e
      have := Pt.fixs_at hroot hid
      rw [e, hf] at this
      injection this with this
      exact this.symm
    · intro e
      rw [e, f3]
  rw [hel]
  constructor
  · unfold rowQ ndsOf
    rw [if_pos (by omega), show i * 2 / 2 = i by omega]
    exact coll_ext fun k hk => by
      by_cases h : at_ (lstS g) k = f
      · rw [if_pos h, if_pos ((hq k hk).2 h)]
      · rw [if_neg h, if_neg (fun h2 => h ((hq k hk).1 h2))]
  · unfold rowQ edsOf
    rw [if_neg (by omega), show (i * 2 + 1) / 2 = i by omega]
    exact coll_ext fun k hk => by
      have hb := (ends_lt hv hk).1
      by_cases h : at_ (lstS g) (frN g k) = f
      · rw [if_pos h, if_pos ((hq _ hb).2 h)]
      · rw [if_neg h, if_neg (fun h2 => h ((hq _ hb).1 h2))]

set_option maxRecDepth 100000 in
set_option maxHeartbeats 8000000 in
theorem compP : CompC 29 := by
  intro g An cn Ae ce w hT
  have HV := Lib.hid (validP_any g An cn Ae ce _ (hT.up (below_a w (.cells #[.slice An g.ns.length cn, .slice Ae g.es.length ce] 25 (0, 0)))))
  have HT := Lib.hid hT
  have HNO : Hid (validE g ≠ 0 → compR g = []) := Lib.hid fun h => by unfold compR; rw [if_neg h]
  have HYES : Hid (validE g = 0 → compR g = compTo g (lstS g) g.ns.length) := Lib.hid fun h => by unfold compR; rw [if_pos h]
  obtain ⟨v, hv0⟩ : ∃ v, v = validE g := ⟨_, rfl⟩
  have HVE := Lib.hid hv0
  rw [← hv0] at HV HNO HYES ⊢
  clear hT hv0
  generalize compR g = rc at HNO HYES ⊢
  go_enter Try.func29, Try.ntmps29
  go_wp2_with fail
  refine HV.out.mono ?_
  rintro e w1 ⟨rfl, hb1⟩
  have hb1' := below_one' hb1
  obtain ⟨c0, c1⟩ := box_cell hb1'
  have HB := Lib.hid hb1'
  have HBw := Lib.hid (box_below hb1')
  clear hb1 hb1' HV
  by_cases hv : v = 0
  case neg =>
    have HR := Lib.hid (HNO.out hv)
    have t1 : ((v : Int) != 0) = true := by simp; omega
    clear hv
    go_wp2_with fail
    go_ret2
    exact ⟨⟨_, rfl, by rw [HR.out]; exact isP_nil _⟩, HBw.out⟩
  have HVA := Lib.hid (show validE g = 0 by rw [← HVE.out]; exact hv)
  have HR := Lib.hid (HYES.out hv)
  subst hv
  obtain ⟨l1, l2, _⟩ := valid_zero HVA.out
  have hel := endsL_len g
  have HEL := Lib.hid hel
  have HEG := Lib.hid (fun i (hi : i < g.es.length) => endsL_get (g := g) hi)
  have HXY := Lib.hid (fun k (hk : k < g.es.length) => show ∃ (ty : Int) (a b : Nat), g.es.getD k default = ⟨ty, a, b⟩ ∧ a < g.ns.length ∧ b < g.ns.length ∧ frN g k = a ∧ toN g k = b by
    obtain ⟨⟨f1, f2⟩, f3, f4⟩ := valid_at HVA.out hk
    unfold frN toN
    generalize g.es.getD k default = x at f1 f2 f3 f4 ⊢
    obtain ⟨ty, fr, tt⟩ := x
    dsimp only at f1 f2 f3 f4 ⊢
    exact ⟨ty, fr.toNat, tt.toNat, by rw [Int.toNat_of_nonneg f1, Int.toNat_of_nonneg f3], by omega, by omega, rfl, rfl⟩)
  clear HNO HYES hel
  go_wp2_with fail
  go_loopw [5, 27] (fun v5 vi wr => ∃ k : Nat, k ≤ g.es.length ∧ vi = .int .i64 k ∧ OwnE EPr 85 wr (w.heap.size + 1) v5 ((endsL g).take k) ∧ Below (w.heap.size + 1) (w.alloc (.cells #[.slice An g.ns.length cn, .slice Ae g.es.length ce] 25 (0, 0))) wr) (fun _ vi _ => g.es.length - (intOf vi).toNat)
  case atStart => exact ⟨0, Nat.zero_le _, rfl, OwnE.nil _ _ _, HB.out⟩
  case round =>
    clear HB HBw c0 c1
    obtain ⟨k, hk, rfl, hown, hbel⟩ := hrel
    obtain ⟨c0, c1⟩ := box_cell hbel
    have hs0 : w.heap.size + 1 ≤ wr.heap.size := by have := hbel.size; simpa using this
    have hs1 : w.heap.size < wr.heap.size := by omega
    have HB := Lib.hid hbel
    have HBw := Lib.hid (box_below hbel)
    have hlk : ((endsL g).take k).length = k := by rw [List.length_take, HEL.out]; omega
    obtain ⟨ao, cap, hv5⟩ := OwnE.slice hown
    rw [hlk] at hv5
    subst hv5
    have HO := Lib.hid hown
    have HLK := Lib.hid hlk
    clear hown hbel hlk
    by_cases hlt : k < g.es.length
    · obtain ⟨bb, off, rfl, hb, hc⟩ := Eds.cells (HT.out.es.below HBw.out) hlt
      obtain ⟨k0, k1, k2⟩ := hc k hlt
      obtain ⟨ty, a, b, g1, g2, g3, g4, g5⟩ := HXY.out k hlt
      have hbb : bb < wr.heap.size := by omega
      have HTK : Hid ((endsL g).take k ++ [(a, b)] = (endsL g).take (k + 1)) := Lib.hid (by
        rw [List.take_add_one, HEG.out k hlt, g4, g5]; rfl)
      rw [g1] at k0 k1 k2
      clear hc g1 g4 g5
      dsimp only at k0 k1 k2
      have e8 : ((endsL g).take k).length ≤ 1000 := by rw [HLK.out]; omega
      go_wp2_with (at_builtin; refine wpList_append_E (E := EPr) (w := (wr.alloc (.cells #[.int .i64 ty, .int .i64 (a : Int), .int .i64 (b : Int)] 36 (0, 0))).alloc _) rfl _ _ 83 85 rfl Try.underlying83 infoPr rfl (by decide) (by decide) (w.heap.size + 1) _ ((endsL g).take k) rfl ?y1 ⟨wr.heap.size + 1, 0, none⟩ 1 (a, b) rfl ?y2 ?y3 ?y4 ?_)
      case y1 => exact (HO.out.alloc _).alloc _
      case y2 => first | exact fun j u h => h | exact news_of (E := EPr) (heap_two' _ _ _) rfl
      case y3 => omega
      case y4 => first | omega | (simp; omega)
      intro v2 w2 hown2 _ hb2
      have HW2 := Lib.hid (OwnE.cast HTK.out hown2)
      have HB2 := Lib.hid ((((HB.out.alloc hs0 _).alloc (by simp; omega) _)).trans hb2)
      clear hown2 hb2
      go_wp2_with fail
      go_roundw
      case rel => exact ⟨k + 1, by omega, by go_num, HW2.out, HB2.out⟩
      case measure => simp [intOf]; omega
    · have e : k = g.es.length := by omega
      subst e
      have hO := OwnE.cast (show (endsL g).take g.es.length = endsL g by rw [← HEL.out]; exact List.take_length) HO.out
      obtain ⟨A5, c5, hv5, hR5⟩ := OwnE.reads hO
      rw [HEL.out] at hv5
      have HGN : Hid (Calls Try.prog 59 #[.int .i64 (g.ns.length : Int), .slice ao g.es.length cap] wr fun e w' => Pt.Res2 wr w' (lstS g) e) := Lib.hid (by
        have := Pt.gen_ok g.ns.length (endsL g) A5 c5 wr (by omega) (by rw [HEL.out]; omega) (ends_inR HVA.out) (pairs_of hR5)
        rw [HEL.out, ← hv5] at this
        exact this)
      clear hO hv5 hR5 hlt hk
      go_wp2_with fail
      refine HGN.out.mono ?_
      rintro e w2 ⟨vL, rfl, hoL, hb2⟩
      obtain ⟨AL, cL, rfl, hIL⟩ := Pt.Own.ints hoL
      have HQT := Lib.hid (Pt.quo_ok (lstS g) AL cL w2 (lstS_V HVA.out) (by rw [lstS_len]; omega) hIL)
      have hbw2 := HBw.out.trans (hb2.mono (by omega))
      have HBw2 := Lib.hid hbw2
      have HB2 := Lib.hid (HB.out.trans (hb2.mono (by omega)))
      clear hoL hIL hb2 hbw2 HGN
      go_wp2_with fail
      refine HQT.out.mono ?_
      rintro e w3 ⟨vq, rfl, hoq, hb3⟩
      have hql : (Pt.quoS (lstS g)).length = g.ns.length := by rw [Pt.quoS_length, lstS_len]
      have hoq' := ownI_of hoq
      obtain ⟨Aq, cq, rfl, hIq⟩ := OwnE.reads hoq'
      have hql2 : (Pt.toI (Pt.quoS (lstS g))).length = g.ns.length := by rw [Pt.toI_length, hql]
      have HBw3 := Lib.hid (HBw2.out.trans (hb3.mono (by have := HBw2.out.size; omega)))
      have HB3 := Lib.hid (HB2.out.trans (hb3.mono (by have := HB2.out.size; simp at this; omega)))
      have HIQ : Hid (∀ W, Below w3.heap.size w3 W → ∀ k, k < g.ns.length → ∃ b off, Aq = some ⟨b, off, none⟩ ∧ b < w3.heap.size ∧ W.cell? ⟨b, off + k, none⟩ = some (.int .i64 (at_ (Pt.quoS (lstS g)) k : Nat))) := Lib.hid fun W h k hk => by
        obtain ⟨b, off, e1, e2, e3⟩ := Ints.cells (Reads.below hIq h) (k := k) (by rw [hql2]; exact hk)
        refine ⟨b, off, e1, e2, ?_⟩
        rw [e3 k (by rw [hql2]; exact hk), Pt.toI_at]
      have HQR : Hid (∀ k, k < g.ns.length → at_ (Pt.quoS (lstS g)) k < Pt.rank (lstS g) (lstS g).length) := Lib.hid fun k hk => by
        have hlen := lstS_len g
        have hV := lstS_V HVA.out
        rw [Pt.quoS_at (by rw [hlen]; exact hk)]
        exact Pt.rank_lt (hV.lt (by rw [hlen]; exact hk)) (hV.idem (by rw [hlen]; exact hk))
      have hrk : Pt.rank (lstS g) (lstS g).length ≤ 40 := Nat.le_trans (Pt.rank_le _ _) (by rw [lstS_len]; exact l1)
      have HCL : Hid ((compTo g (lstS g) g.ns.length).length = Pt.rank (lstS g) (lstS g).length) := Lib.hid (by rw [compTo_len, lstS_len])
      have HRE := Lib.hid (rowQ_end HVA.out)
      have HRN := Lib.hid (rowQ_node g (lstS g))
      have HRG := Lib.hid (rowQ_edge g (lstS g))
      have HRL := Lib.hid (rowQ_len g (lstS g))
      have HR0 := Lib.hid (rowQ_zero g (lstS g))
      have HXF : Hid (∀ k, k < g.es.length → frN g k < g.ns.length) := Lib.hid fun k hk => (ends_lt HVA.out hk).1
      rw [hql2]
      clear hoq hoq' hIq hb3 HQT hql hql2
      generalize rowQ g (lstS g) = rq at *
      generalize Pt.rank (lstS g) (lstS g).length = n2 at *
      generalize at_ (Pt.quoS (lstS g)) = qS at *
      obtain ⟨d0, d1⟩ := box_cell HB3.out
      have hz3 : w.heap.size < w3.heap.size := by have := HB3.out.size; simp at this; omega
      clear c0 c1
      go_wp2_with (at_make; refine wpList_make_P rfl _ _ rfl w3.heap.size n2 rfl rfl (by omega) (Nat.le_refl _) ?_; intro w4 hown4 hb4 hsz4)
      have HO4 := Lib.hid hown4
      have HB4 := Lib.hid hb4
      clear hown4 hb4
      go_wp2_with fail
      go_loopw [58] (fun vi wr => ∃ k : Nat, k ≤ g.ns.length ∧ vi = .int .i64 k ∧ OwnP wr w3.heap.size (.slice (some ⟨w3.heap.size, 0, none⟩) n2 n2) n2 (rq k 0) ∧ Below w3.heap.size w3 wr) (fun vi _ => g.ns.length - (intOf vi).toNat)
      case atStart => exact ⟨0, Nat.zero_le _, rfl, HO4.out.ext fun j _ => (HR0.out j).symm, HB4.out⟩
      case round =>
        clear HO4 HB4
        obtain ⟨k, hk, rfl, hown, hbel⟩ := hrel
        have HG := Lib.hid hbel
        have hs3 := hbel.size
        have HO := Lib.hid hown
        clear hown hbel
        by_cases hlt : k < g.ns.length
        · obtain ⟨bq, offq, rfl, hbq, q0⟩ := HIQ.out _ HG.out k hlt
          have hqr := HQR.out k hlt
          have hRN := HRN.out k
          have hle := HRL.out k 0 (qS k * 2)
          obtain ⟨g3, cp, u, e1, _, _, hu, hou⟩ := OwnP.at HO.out (j := qS k * 2) (by omega)
          simp only [Value.slice.injEq, Option.some.injEq, Addr.mk.injEq, and_true] at e1
          obtain ⟨rfl, _, rfl⟩ := e1
          obtain ⟨au, cu, rfl⟩ := OwnE.slice hou
          have HOU := Lib.hid hou
          have HRNk := Lib.hid hRN
          clear hou hRN
          have hq0 : (0 : Int) ≤ (qS k : Int) := by omega
          generalize qS k = c at *
          have HST := Lib.hid (fun o w1 u' ys hgr h1 h2 => OwnP.store (w1 := w1) (o := o) (u' := u') (ys := ys) HO.out hu (by omega) hgr h1 h2)
          have hxl : (rq k 0 (c * 2)).length ≤ 1000 := by omega
          go_wp2_with (at_builtin; refine wpList_append_int_at (w := wr.alloc _) rfl _ _ rfl w3.heap.size _ (rq k 0 (c * 2)) rfl ?y1 wr.heap.size 1 (k : Int) rfl ?y2 ?y3 ?y4 ?_)
          case y1 => exact HOU.out.alloc _
          case y2 => exact cell_new _ _ _
          case y3 => omega
          case y4 => first | omega | (simp; omega)
          intro v5 w5 ho5 hg5 hbk5
          have hgb : Below w3.heap.size (wr.alloc (.cells #[.int .i64 (k : Int)] 3 (0, 0))) w5 := (Below.refl _ _).grown hg5 (by simp; omega) (fun q hq => (OwnE.lt HOU.out q hq).1)
          have HG5 := Lib.hid ((HG.out.alloc hs3 (.cells #[.int .i64 (k : Int)] 3 (0, 0))).trans hgb)
          obtain ⟨p0, p1, p2⟩ := HST.out _ w5 v5 _ hg5 ho5 (by
            rcases hbk5 with h | ⟨h, h1, h2⟩
            · exact .inl h
            · exact .inr ⟨h, h1, by first | omega | (simp at h2; omega)⟩)
          have HP2 := Lib.hid (p2.ext fun j _ => HRNk.out j)
          obtain ⟨a5, c5', rfl⟩ := OwnE.slice ho5
          generalize rq k 0 (c * 2) ++ [(k : Int)] = ys5 at *
          clear ho5 hg5 hbk5 hgb p2 hu HST
          go_wp2_with fail
          go_roundw
          case rel => exact ⟨k + 1, by omega, by go_num, HP2.out, HG5.out.setCell (p := ⟨w3.heap.size, c * 2, none⟩) (Nat.le_refl _) _⟩
          case measure => simp [intOf]; omega
        · have e : k = g.ns.length := by omega
          subst e
          obtain ⟨wo, hwo⟩ : ∃ wo, wo = wr := ⟨_, rfl⟩
          subst hwo
          have d2 : wo.cell? ⟨w.heap.size, 0, none⟩ = some (.slice An g.ns.length cn) := (HG.out.cell (p := ⟨w.heap.size, 0, none⟩) hz3).trans d0
          have d3 : wo.cell? ⟨w.heap.size, 1, none⟩ = some (.slice Ae g.es.length ce) := (HG.out.cell (p := ⟨w.heap.size, 1, none⟩) hz3).trans d1
          go_wp2_with fail
          go_loopw [79] (fun vi wr => ∃ k : Nat, k ≤ g.es.length ∧ vi = .int .i64 k ∧ OwnP wr w3.heap.size (.slice (some ⟨w3.heap.size, 0, none⟩) n2 n2) n2 (rq g.ns.length k) ∧ Below w3.heap.size w3 wr) (fun vi _ => g.es.length - (intOf vi).toNat)
          case atStart => exact ⟨0, Nat.zero_le _, rfl, HO.out, HG.out⟩
          case round =>
            clear HO HG d2 d3 hs3
            obtain ⟨k, hk, rfl, hown, hbel⟩ := hrel
            have HG := Lib.hid hbel
            have hs3 := hbel.size
            have HO := Lib.hid hown
            clear hown hbel
            by_cases hlt : k < g.es.length
            · obtain ⟨ty, a, b, g1, g2, g3, g4, g5⟩ := HXY.out k hlt
              obtain ⟨bb, off, rfl, hb, hc⟩ := Eds.cells ((HT.out.es.below HBw3.out).below (B := w.heap.size) (HG.out.mono (by omega))) hlt
              obtain ⟨k0, k1, k2⟩ := hc k hlt
              have hbb : bb < wr.heap.size := by omega
              have hqr := HQR.out _ (HXF.out k hlt)
              have hRN := HRG.out g.ns.length k
              have hle := HRL.out g.ns.length k (qS (frN g k) * 2 + 1)
              rw [g4] at hqr hRN hle
              rw [g1] at k0 k1 k2
              obtain ⟨bq, offq, rfl, hbq, q0⟩ := HIQ.out _ HG.out a g2
              have hbq2 : bq < wr.heap.size := by omega
              obtain ⟨gg, cp, u, e1, _, _, hu, hou⟩ := OwnP.at HO.out (j := qS a * 2 + 1) (by omega)
              simp only [Value.slice.injEq, Option.some.injEq, Addr.mk.injEq, and_true] at e1
              obtain ⟨rfl, _, rfl⟩ := e1
              obtain ⟨au, cu, rfl⟩ := OwnE.slice hou
              have HXA := Lib.hid (below_a wr (.cells #[.int .i64 ty, .int .i64 (a : Int), .int .i64 (b : Int)] 36 (0, 0)))
              have HOU := Lib.hid (hou.alloc (.cells #[.int .i64 ty, .int .i64 (a : Int), .int .i64 (b : Int)] 36 (0, 0)))
              have HOX := Lib.hid (HO.out.below HXA.out (Nat.le_refl _))
              have hu2 : (wr.alloc (.cells #[.int .i64 ty, .int .i64 (a : Int), .int .i64 (b : Int)] 36 (0, 0))).cell? ⟨w3.heap.size, qS a * 2 + 1, none⟩ = some (.slice au (rq g.ns.length k (qS a * 2 + 1)).length cu) := (HXA.out.cell (p := ⟨w3.heap.size, _, none⟩) (by show w3.heap.size < _; have := World.block_lt_of_cell? wr _ hu; exact this)).trans hu
              have HRNk := Lib.hid hRN
              clear hou hRN hc g1 g4 g5
              have hq0 : (0 : Int) ≤ (qS a : Int) := by omega
              have ha0 : (0 : Int) ≤ (a : Int) := by omega
              dsimp only at k0 k1 k2
              have hlw : w3.heap.size < wr.heap.size := by have := World.block_lt_of_cell? wr _ hu; exact this
              generalize qS a = c at *
              have HST := Lib.hid (fun o w1 u' ys hgr h1 h2 => OwnP.store (w1 := w1) (o := o) (u' := u') (ys := ys) HOX.out hu2 (by omega) hgr h1 h2)
              have hxl : (rq g.ns.length k (c * 2 + 1)).length ≤ 1000 := by omega
              go_wp2_with (at_builtin; refine wpList_append_int_at (w := (wr.alloc (.cells #[.int .i64 ty, .int .i64 (a : Int), .int .i64 (b : Int)] 36 (0, 0))).alloc _) rfl _ _ rfl w3.heap.size _ (rq g.ns.length k (c * 2 + 1)) rfl ?y1 (wr.heap.size + 1) 1 (k : Int) rfl ?y2 ?y3 ?y4 ?_)
              case y1 => exact HOU.out.alloc _
              case y2 => simp
              case y3 => omega
              case y4 => first | omega | (simp; omega)
              intro v5 w5 ho5 hg5 hbk5
              have hgb : Below w3.heap.size ((wr.alloc (.cells #[.int .i64 ty, .int .i64 (a : Int), .int .i64 (b : Int)] 36 (0, 0))).alloc (.cells #[.int .i64 (k : Int)] 3 (0, 0))) w5 := (Below.refl _ _).grown hg5 (by simp; omega) (fun q hq => (OwnE.lt HOU.out q hq).1)
              have HG5 := Lib.hid (((HG.out.alloc hs3 (.cells #[.int .i64 ty, .int .i64 (a : Int), .int .i64 (b : Int)] 36 (0, 0))).alloc (by simp; omega) (.cells #[.int .i64 (k : Int)] 3 (0, 0))).trans hgb)
              obtain ⟨p0, p1, p2⟩ := HST.out _ w5 v5 _ hg5 ho5 (by
                rcases hbk5 with h | ⟨h, h1, h2⟩
                · exact .inl h
                · exact .inr ⟨h, h1, by first | omega | (simp; omega) | (simp at h2; omega) | (simp at h2 ⊢; omega)⟩)
              have HP2 := Lib.hid (p2.ext fun j _ => HRNk.out j)
              obtain ⟨a5, c5', rfl⟩ := OwnE.slice ho5
              generalize rq g.ns.length k (c * 2 + 1) ++ [(k : Int)] = ys5 at *
              clear ho5 hg5 hbk5 hgb p2 hu hu2 HST
              go_wp2_with fail
              go_roundw
              case rel => exact ⟨k + 1, by omega, by go_num, HP2.out, HG5.out.setCell (p := ⟨w3.heap.size, c * 2 + 1, none⟩) (Nat.le_refl _) _⟩
              case measure => simp [intOf]; omega
            · have e : k = g.es.length := by omega
              subst e
              have HPP := Lib.hid (HO.out.isP (compTo g (lstS g) g.ns.length) HCL.out.symm HRE.out)
              have HBF := Lib.hid (HBw3.out.trans (HG.out.mono (by omega)))
              go_wp2_with fail
              go_ret2
              exact ⟨⟨_, rfl, by rw [HR.out]; exact HPP.out⟩, HBF.out⟩

end Go.Proofs.Ytiafmhdicgmfaaa
