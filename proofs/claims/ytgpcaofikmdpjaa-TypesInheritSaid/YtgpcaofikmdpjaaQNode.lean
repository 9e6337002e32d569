/-
  Types, the program: checkNode.
-/
import Derived.Test.YtgpcaofikmdpjaaQWalk
import Derived.Test.YtgpcaofikmdpjaaQName
import Derived.Test.YtgpcaofikmdpjaaQAtt
namespace Go.Proofs.Ytgpcaofikmdpjaa
open Go.RowKit

theorem node_chk (x : Nod) (L : List Att) (before : List Nod) (k : Nat) : nodeR x L before k = if chkR x.nm (before.any fun y => decide (y.nm = x.nm)) ≠ 0 then chkR x.nm (before.any fun y => decide (y.nm = x.nm)) else if inB x.par (-1) ((k : Int) - 1) = false then 6 else if 4 < x.att.length ∨ 8 < L.length then 3 else nzD (ownAt L) (L.length - x.att.length) x.att.length := by
  unfold nodeR chkR
  generalize isNm x.nm = a
  generalize (before.any fun y => decide (y.nm = x.nm)) = b
  cases a <;> cases b <;> simp
/-- what the region of checkNode's loop keeps -/
abbrev NdS (w : World) (b o : Nat) (nm : ByteArray) (lo hi : Int) (A : Option Addr) (n c : Nat) (u : World) : Prop :=
  u.cell? ⟨b, o, none⟩ = some (.string nm) ∧ u.cell? ⟨b, o + 1, none⟩ = some (.int .i64 lo) ∧ u.cell? ⟨b, o + 2, none⟩ = some (.int .i64 hi) ∧ u.cell? ⟨b, o + 3, none⟩ = some (.slice A n c) ∧ Below w.heap.size w u

set_option maxRecDepth 100000 in
set_option maxHeartbeats 4000000 in
theorem checkNode_any (hn : NameC 60) (t : Typ) (An : Option Addr) (cn k : Nat) (hk : k < t.nodes.length) (hg : GoodU t k) (hf : FewT t) (A' : Option Addr) (c' : Nat) (w : World) (hT : Nods w w.heap.size An t.nodes) (hA : Atts w w.heap.size A' t.nodes[k].att) :
    Calls Try.prog 33 #[.slice An k cn, .agg #[.string t.nodes[k].nm, .int .i64 t.nodes[k].par, .bool t.nodes[k].ab, .slice A' t.nodes[k].att.length c']] w fun e w' => e = .returned (.int .i64 (nodeE t k)) ∧ Below w.heap.size w w' := by
  have hsm := hf.node _ (List.getElem_mem hk)
  have hk20 : k ≤ 20 := by have := hf.nodes; omega
  have HX : Hid (nodeE t k = _) := Lib.hid ((show nodeE t k = nodeR t.nodes[k] (attL t k) (t.nodes.take k) k by unfold nodeE; rw [getD_at hk]).trans (node_chk _ _ _ _))
  have HLL : Hid (inB t.nodes[k].par (-1) ((k : Int) - 1) = true → attL t k = attL t t.nodes[k].par ++ t.nodes[k].att) := Lib.hid fun h => by
    have hgk : GoodU t (k + 1) := fun i hi => by
      by_cases e : i < k
      · exact hg i e
      · obtain rfl : i = k := by omega
        unfold inB at h
        simp only [Bool.and_eq_true, decide_eq_true_eq] at h
        unfold parT
        rw [getD_at hk]
        omega
    rw [attL_step hgk (Nat.lt_succ_self k), getD_at hk, show parT t k = t.nodes[k].par by unfold parT; rw [getD_at hk]]
  have HATT : Hid (inB t.nodes[k].par (-1) ((k : Int) - 1) = true → ∀ u, Below w.heap.size w u → Calls Try.prog 42 #[.slice An k cn, .int .i64 t.nodes[k].par] u fun e w' => AttEnd u.heap.size w.heap.size (attL t t.nodes[k].par) e w' ∧ Below u.heap.size u w') := Lib.hid fun h u hu => by
    unfold inB at h
    simp only [Bool.and_eq_true, decide_eq_true_eq] at h
    exact attributes_any t An k cn hg (Nat.le_of_lt hk) hk20 (fun x hx => (hf.node x hx).2.1) _ w.heap.size u h.1 (by omega) hu.size (DReads.below hT hu)
  have HCN : Hid (∀ u, Below w.heap.size w u → Calls Try.prog 48 #[.slice An k cn, .agg #[.string t.nodes[k].nm, .int .i64 t.nodes[k].par, .bool t.nodes[k].ab, .slice A' t.nodes[k].att.length c'], .func (.func 49) #[] #[]] u fun e w' => e = .returned (.int .i64 (chkR t.nodes[k].nm ((t.nodes.take k).any fun y => decide (y.nm = t.nodes[k].nm)))) ∧ Below u.heap.size u w') := Lib.hid fun u hu => by
    have h := checkN_any hn (t.nodes.take k) An cn t.nodes[k].nm t.nodes[k].par t.nodes[k].ab A' t.nodes[k].att.length c' u (by rw [List.length_take]; omega) hsm.1 ((DReads.up hT hu).take k)
    rw [List.length_take, Nat.min_eq_left (Nat.le_of_lt hk)] at h
    exact h
  have HSM := Lib.hid (attL_small hf k)
  have hl630 := attL_len (fun x hx => (hf.node x hx).2.1) (show (k : Int) ≤ 20 by omega)
  have HCA := Lib.hid (fun (l : List Att) (A : Option Addr) (c : Nat) (a : Att) (A2 : Option Addr) (c2 : Nat) (u : World) hl hs hac hL hN => checkAttr_any hn l A c a A2 c2 u hl hs hac hL hN)
  have HIX := Lib.hid (fun u => isIndex_any t.nodes[k].par k u)
  obtain ⟨ro, hro, hrr⟩ := Atts.raw hA
  have HRO := Lib.hid hro
  have HRR := Lib.hid hrr
  have hrl := hrr.1
  clear hT hA hn hg hf hsm hro hrr
  generalize nodeE t k = R at HX ⊢
  generalize attL t k = L at *
  generalize t.nodes[k] = x at *
  obtain ⟨nm, par, ab, att⟩ := x
  dsimp only at *
  generalize ((t.nodes.take k).any fun y => decide (y.nm = nm)) = b0 at *
  generalize chkR nm b0 = e1 at *
  generalize attL t par = L1 at *
  obtain ⟨q, hq⟩ : ∃ q, q = att.length := ⟨_, rfl⟩
  rw [← hq] at HX HCN hrl ⊢
  have HQ := Lib.hid hq
  have HRL := Lib.hid hrl
  clear hq hrl
  obtain ⟨bp, hbp⟩ : ∃ bp, inB par (-1) ((k : Int) - 1) = bp := ⟨_, rfl⟩
  rw [hbp] at HX HLL HATT
  have hbx : par ≠ -1 → inB par 0 ((k : Int) - 1) = bp := fun h => by
    rw [← hbp]
    unfold inB
    congr 1
    exact decide_eq_decide.2 (by omega)
  have hb1 : par = -1 → bp = true := fun h => by
    rw [← hbp, h]
    unfold inB
    rw [decide_eq_true (by omega), decide_eq_true (by omega)]; rfl
  clear hbp
  have HB0 := Lib.hid (fun (o : Obj) => (Below.refl w.heap.size w).alloc (Nat.le_refl _) o)
  have HBX : Hid (∀ u, Below (w.heap.size + 1) (w.alloc (.cells #[.string nm, .int .i64 par, .bool ab, .slice A' q c'] 55 (0, 0))) u → u.cell? ⟨w.heap.size, 0, none⟩ = some (.string nm) ∧ u.cell? ⟨w.heap.size, 1, none⟩ = some (.int .i64 par) ∧ u.cell? ⟨w.heap.size, 2, none⟩ = some (.bool ab) ∧ u.cell? ⟨w.heap.size, 3, none⟩ = some (.slice A' q c')) := Lib.hid fun u hu =>
    ⟨(hu.cell (p := ⟨w.heap.size, 0, none⟩) (by simp)).trans (by simp), (hu.cell (p := ⟨w.heap.size, 1, none⟩) (by simp)).trans (by simp), (hu.cell (p := ⟨w.heap.size, 2, none⟩) (by simp)).trans (by simp), (hu.cell (p := ⟨w.heap.size, 3, none⟩) (by simp)).trans (by simp)⟩
  go_enter Try.func33, Try.ntmps33
  go_wp2_with fail
  refine (HCN.out _ (HB0.out _)).mono ?_
  rintro e w1 ⟨rfl, hb2⟩
  have HB1 := Lib.hid (below_one' hb2)
  have hz1 : w.heap.size + 1 ≤ w1.heap.size := by have := HB1.out.size; simpa using this
  obtain ⟨d0, d1, d2, d3⟩ := HBX.out _ HB1.out
  clear hb2 HCN
  by_cases h1 : e1 = 0
  case neg =>
    have HR2 : Hid (R = e1) := Lib.hid (by rw [HX.out, if_pos h1])
    have t3 : ((e1 : Int) != 0) = true := by simp; omega
    clear HX HATT HLL h1
    go_wp2_with fail
    go_ret
    exact ⟨ret_int (by rw [HR2.out]), box_below HB1.out⟩
  have HR1 : Hid (R = if bp = false then 6 else if 4 < q ∨ 8 < L.length then 3 else nzD (ownAt L) (L.length - q) q) := Lib.hid (by rw [HX.out, if_neg (fun h => h h1)])
  subst h1
  clear HX
  cases hbpc : bp with
  | false =>
    have hp : par ≠ -1 := fun h => by rw [hb1 h] at hbpc; cases hbpc
    have HR2 : Hid (R = 6) := Lib.hid (by rw [HR1.out, if_pos hbpc])
    rw [hbx hp, hbpc] at HIX
    have t3 : (par != -1) = true := by simp [hp]
    clear HR1 HATT HLL hbx hb1 hp hbpc
    go_wp2_with fail
    refine (HIX.out _).mono ?_
    rintro e w2 ⟨rfl, rfl⟩
    go_wp2_with fail
    go_ret
    exact ⟨ret_int (by rw [HR2.out]; rfl), box_below HB1.out⟩
  | true =>
    have HR2 : Hid (R = if 4 < q ∨ 8 < L.length then 3 else nzD (ownAt L) (L.length - q) q) := Lib.hid (by rw [HR1.out, if_neg (by rw [hbpc]; simp)])
    have HLA := Lib.hid (HLL.out hbpc)
    have HATS := Lib.hid (HATT.out hbpc _ (box_below HB1.out))
    have hix : par ≠ -1 → inB par 0 ((k : Int) - 1) = true := fun h => by rw [hbx h]; exact hbpc
    clear HR1 HATT HLL hbx hb1 hbpc
    have hcase : (par != -1) = false ∨ ((par != -1) = true ∧ inB par 0 ((k : Int) - 1) = true) := by
      by_cases hp : par = -1
      · exact .inl (by simp [hp])
      · exact .inr ⟨by simp [hp], hix hp⟩
    clear hix
    rcases hcase with t3 | ⟨t3, hix⟩
    case' inl =>
      clear HIX
      go_wp2_with fail
    case' inr =>
      rw [hix] at HIX
      clear hix
      go_wp2_with fail
      refine (HIX.out _).mono ?_
      rintro e w2 ⟨rfl, rfl⟩
      clear HIX
      go_wp2_with fail
    all_goals
      refine HATS.out.mono ?_
      rintro e w2 ⟨⟨v, ys, rfl, ho, hr⟩, hb2⟩
      obtain ⟨Ai, ci, rfl, hrd⟩ := OwnE.reads ho
      have HB2 := Lib.hid (HB1.out.trans (hb2.mono hz1))
      obtain ⟨p, hp⟩ : ∃ p, p = ys.length := ⟨_, rfl⟩
      rw [← hp]
      have HP := Lib.hid hp
      have HRD := Lib.hid hrd
      have HRW := Lib.hid hr
      have hz2 : w.heap.size + 1 ≤ w2.heap.size := Nat.le_trans hz1 hb2.size
      have hpq : L.length = p + q := by rw [HLA.out, List.length_append, ← hr.1, HQ.out, hp]
      clear d0 d1 d2 d3
      obtain ⟨d0, d1, d2, d3⟩ := HBX.out _ HB2.out
      clear hb2 ho hr hrd hp HATS
      have hp630 : p + q ≤ 630 := by omega
      by_cases h4 : 4 < q
      case pos =>
        have HR3 : Hid (R = 3) := Lib.hid (by rw [HR2.out, if_pos (.inl h4)])
        have t4 : decide (4 < (q : Int)) = true := decide_eq_true (by omega)
        clear HR2
        go_wp2_with fail
        go_ret
        exact ⟨ret_int (by rw [HR3.out]; rfl), box_below HB2.out⟩
      have t4 : decide (4 < (q : Int)) = false := decide_eq_false (by omega)
      by_cases h8 : 8 < p + q
      case pos =>
        have HR3 : Hid (R = 3) := Lib.hid (by rw [HR2.out, if_pos (.inr (by omega))])
        have t5 : decide (8 < (p : Int) + (q : Int)) = true := decide_eq_true (by omega)
        clear HR2
        go_wp2_with fail
        go_ret
        exact ⟨ret_int (by rw [HR3.out]; rfl), box_below HB2.out⟩
      have t5 : decide (8 < (p : Int) + (q : Int)) = false := decide_eq_false (by omega)
      have HR3 : Hid (R = nzD (ownAt L) p (p + q - p)) := Lib.hid (by rw [HR2.out, if_neg (by omega), hpq, Nat.add_sub_cancel, Nat.add_sub_cancel_left])
      clear HR2
      go_wp2_with fail
      with_reducible refine (concat_any Ai A' p ci q c' _ ys ro HP.out HRL.out.symm (by omega) (by omega) _ w2.heap.size w2.heap.size (by simp) ?k0 ?k1 ?k2 ?k3 ?k4).mono ?_
      case k0 => simp
      case k1 => simp
      case k2 => simp
      case k3 => exact HRD.out.below ((Below.refl _ _).alloc (Nat.le_refl _) _)
      case k4 => exact (HRO.out.below (box_below HB2.out)).mono (by omega) |>.below ((Below.refl _ _).alloc (Nat.le_refl _) _)
      rintro e w3 ⟨⟨v3, rfl, ho3⟩, hb3⟩
      obtain ⟨Aa, ca, rfl⟩ := OwnE.slice ho3
      have hm : (ys ++ ro).length = p + q := by rw [List.length_append, ← HP.out, HRL.out]
      have hcap := OwnE.cap ho3
      rw [hm] at hcap ho3 ⊢
      have hb3' : Below w2.heap.size w2 w3 := ((Below.refl _ _).alloc (Nat.le_refl _) _).trans (hb3.mono (by simp))
      have HAL : Hid (Atts w3 w3.heap.size Aa L) := Lib.hid (by
        have h1 := OwnE.readAt ho3 hm.symm
        have h2 : RawRel w3 w.heap.size (ys ++ ro) L := by
          rw [HLA.out]
          exact ((HRW.out).append (HRR.out.below (box_below HB2.out))).below (hb3'.mono (by omega))
        exact h1.atts h2 (by have := hb3'.size; omega))
      have HB3 := Lib.hid (HB2.out.trans (hb3'.mono hz2))
      have hz3 : w.heap.size + 1 ≤ w3.heap.size := Nat.le_trans hz2 hb3'.size
      obtain ⟨m, hmm⟩ : ∃ m, m = p + q := ⟨_, rfl⟩
      rw [← hmm] at hpq hcap HR3 ⊢
      have HMM := Lib.hid hmm
      have hm630 : m ≤ 630 := by omega
      clear hmm hp630 h8 hb3 ho3 hm hb3' d0 d1 d2 d3 t4 t5 t3 HRD HRW HRO HRR HLA
      have HSTP : Hid (∀ (i : Nat), i < m → nzD (ownAt L) i (m - i) = if ownAt L i ≠ 0 then ownAt L i else nzD (ownAt L) (i + 1) (m - (i + 1))) := Lib.hid fun i hi => nzD_step hi
      have HCI : Hid (∀ (i : Nat) (hi : i < L.length) (A2 : Option Addr) (c2 : Nat) (u : World), Below w3.heap.size w3 u → L[i].ns.length ≤ c2 → Strs u u.heap.size A2 L[i].ns → Calls Try.prog 51 #[.slice Aa i ca, aval L[i] A2 c2] u fun e w' => e = .returned (.int .i64 (ownAt L i)) ∧ Below u.heap.size u w') := Lib.hid fun i hi A2 c2 u hu hc2 hst => by
        have h := HCA.out (L.take i) Aa ca L[i] A2 c2 u (by rw [List.length_take]; omega) (HSM.out _ (List.getElem_mem hi)) hc2 ((DReads.up HAL.out hu).take i) hst
        rw [← own_at L i hi, List.length_take, Nat.min_eq_left (Nat.le_of_lt hi)] at h
        exact h
      go_wp2_with fail
      go_loopw [8] (fun vi wr => ∃ i : Nat, p ≤ i ∧ i ≤ m ∧ vi = .int .i64 i ∧ R = nzD (ownAt L) i (m - i) ∧ Below w3.heap.size w3 wr) (fun vi _ => m - (intOf vi).toNat)
      case atStart => exact ⟨p, Nat.le_refl _, by have := HMM.out; omega, rfl, HR3.out, Below.refl _ _⟩
      case round =>
        obtain ⟨i, hpi, hi, rfl, hR, hB⟩ := hrel
        by_cases hlt : i < m
        · have hil : i < L.length := by omega
          have t1 : decide ((i : Int) < (m : Int)) = true := decide_eq_true (by omega)
          obtain ⟨b, off, A2, c2, rfl, hbb, m0, m1, m2, m3, hst, hc2⟩ := Atts.cellsC (HAL.out.below hB) hil
          have HCC : Hid (∀ u, Below w3.heap.size w3 u → Calls Try.prog 51 #[.slice (some ⟨b, off, none⟩) i ca, .agg #[.string L[i].nm, .int .i64 L[i].lo, .int .i64 L[i].hi, .slice A2 L[i].ns.length c2]] u fun e w' => e = .returned (.int .i64 (ownAt L i)) ∧ Below u.heap.size u w') := Lib.hid fun u hu => by
            obtain ⟨b', off', A3, c3, hE, _, n0, n1, n2, n3, hst3, hc3⟩ := Atts.cellsC (HAL.out.below hu) hil
            have hst4 : Strs u u.heap.size A2 L[i].ns := by
              obtain ⟨b5, off5, A5, c5, hE5, _, _, _, _, g3, hs5, _⟩ := Atts.cellsC HAL.out hil
              simp only [Option.some.injEq, Addr.mk.injEq, and_true] at hE5
              obtain ⟨rfl, rfl⟩ := hE5
              have e2 := (hB.cell (p := ⟨b, off + i * 4 + 3, none⟩) hbb).trans g3
              rw [m3] at e2
              simp only [Option.some.injEq, Value.slice.injEq] at e2
              rw [e2.1]
              exact Reads.up hs5 hu
            exact HCI.out i hil A2 c2 u hu hc2 hst4
          rw [HSTP.out i hlt] at hR
          have HRS := Lib.hid hR
          generalize L[i] = a at *
          obtain ⟨an, alo, ahi, ans⟩ := a
          dsimp only at *
          generalize ownAt L i = ee at *
          obtain ⟨nn, hnn⟩ : ∃ nn, nn = ans.length := ⟨_, rfl⟩
          rw [← hnn] at m3 HCC
          have hS0 : NdS w3 b (off + i * 4) an alo ahi A2 nn c2 wr.drew := ⟨m0, m1, m2, m3, Below.drew hB⟩
          have HS0 := Lib.hid hS0
          have HCS : Hid (∀ u, NdS w3 b (off + i * 4) an alo ahi A2 nn c2 u → Calls Try.prog 51 #[.slice (some ⟨b, off, none⟩) i ca, .agg #[.string an, .int .i64 alo, .int .i64 ahi, .slice A2 nn c2]] u fun e w' => e = .returned (.int .i64 ee) ∧ NdS w3 b (off + i * 4) an alo ahi A2 nn c2 w') := Lib.hid fun u hu => by
            obtain ⟨g0, g1, g2, g3, gb⟩ := hu
            refine (HCC.out u gb).mono ?_
            rintro e w' ⟨rfl, hb⟩
            have hbl : b < u.heap.size := Nat.lt_of_lt_of_le hbb gb.size
            exact ⟨rfl, (hb.cell (p := ⟨b, off + i * 4, none⟩) hbl).trans g0, (hb.cell (p := ⟨b, off + i * 4 + 1, none⟩) hbl).trans g1, (hb.cell (p := ⟨b, off + i * 4 + 2, none⟩) hbl).trans g2, (hb.cell (p := ⟨b, off + i * 4 + 3, none⟩) hbl).trans g3, gb.trans (hb.mono gb.size)⟩
          have i0 : (0 : Int) ≤ (i : Int) := by omega
          have i1 : (i : Int) < (m : Int) := by omega
          have i2 : ((i : Int)).toNat = i := by omega
          have i3 : (i : Int) ≤ (ca : Int) := by omega
          clear hB hR hst hS0 HCC HCI m0 m1 m2 m3 hnn
          by_cases he : ee = 0
          · have HR4 : Hid (R = nzD (ownAt L) (i + 1) (m - (i + 1))) := Lib.hid (by rw [HRS.out, if_neg (fun h => h he)])
            subst he
            clear HRS
            go_wp2_with fail
            go_region_held3 (fun u => NdS w3 b (off + i * 4) an alo ahi A2 nn c2 u) (first | assumption | exact HS0.out)
              ((with_reducible refine (HCS.out _ (by assumption)).mono ?_; rintro e w4 ⟨rfl, hs2⟩))
            all_goals
              have HB4 := Lib.hid hs2.2.2.2.2
              clear hs2
              go_wp2_with fail
              go_roundw
              case rel => exact ⟨i + 1, by omega, by omega, by go_num, HR4.out, HB4.out⟩
              case measure => simp [intOf]; omega
          · have HR4 : Hid (R = ee) := Lib.hid (by rw [HRS.out, if_pos he])
            have t3 : ((ee : Int) != 0) = true := by simp; omega
            clear HRS he
            go_wp2_with fail
            go_region_held3 (fun u => NdS w3 b (off + i * 4) an alo ahi A2 nn c2 u) (first | assumption | exact HS0.out)
              ((with_reducible refine (HCS.out _ (by assumption)).mono ?_; rintro e w4 ⟨rfl, hs2⟩))
            all_goals
              have HB4 := Lib.hid hs2.2.2.2.2
              clear hs2
              go_wp2_with fail
              go_ret
              exact ⟨ret_int (by rw [HR4.out]), box_below (HB3.out.trans (HB4.out.mono hz3))⟩
        · have t1 : decide ((i : Int) < (m : Int)) = false := decide_eq_false (by omega)
          have HR4 : Hid (R = 0) := Lib.hid (by rw [hR]; exact nzD_end (by omega))
          have HB4 := Lib.hid (HB3.out.trans (hB.mono hz3))
          clear hR hB
          go_wp2_with fail
          go_ret
          exact ⟨ret_int (by rw [HR4.out]; rfl), box_below HB4.out⟩

end Go.Proofs.Ytgpcaofikmdpjaa
