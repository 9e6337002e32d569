import Derived.Test.YthnhacncnhknnaaGreatDoorZ04
import Derived.Test.YthnhacncnhknnaaGreatDoorZ03
import Derived.Test.YthnhacncnhknnaaGreatDoorZ02
import Derived.Deep.RegionLaw
import Derived.Deep.DeepCutAuto
import Derived.Deep.CutBlock
import Derived.Deep.RegionWith
/-
  Parts of graphs, the reference: Least. Printed by mkr6.py.
-/
namespace Go.Proofs.YthnhacncnhknnaaGreatDoor
open Go.RowKit Go.Shelf

/-! marks that grow edge by edge -/
def tchS (g : Gr) (l : List Bool) (e : Nat) : List Bool := (l.set (frN g e) true).set (toN g e) true
def tchTo (g : Gr) (nb : List Bool) (eb : Nat → Bool) : Nat → List Bool
  | 0 => nb
  | k + 1 => if eb k = true then tchS g (tchTo g nb eb k) k else tchTo g nb eb k
theorem tchTo_len (g : Gr) (nb : List Bool) (eb : Nat → Bool) (k : Nat) : (tchTo g nb eb k).length = nb.length := by
  induction k with
  | zero => rfl
  | succ k ih =>
    simp only [tchTo]
    split
    · simp [tchS, ih]
    · exact ih
theorem tchTo_yes {g : Gr} {nb : List Bool} {eb : Nat → Bool} {k : Nat} (h : eb k = true) : tchTo g nb eb (k + 1) = ((tchTo g nb eb k).set (frN g k) true).set (toN g k) true := by simp only [tchTo]; rw [if_pos h]; rfl
theorem tchTo_no {g : Gr} {nb : List Bool} {eb : Nat → Bool} {k : Nat} (h : eb k = false) : tchTo g nb eb (k + 1) = tchTo g nb eb k := by simp only [tchTo]; rw [if_neg (by simp [h])]
theorem set_getD {l : List Bool} {a i : Nat} (h : i < l.length) : (l.set a true).getD i false = (l.getD i false || decide (a = i)) := by
  rw [List.getD_eq_getElem?_getD, List.getD_eq_getElem?_getD, List.getElem?_set]
  by_cases e : a = i
  · subst e; rw [if_pos rfl, if_pos h]; simp
  · rw [if_neg e]; simp [e]
theorem tchTo_at {g : Gr} {nb : List Bool} {eb : Nat → Bool} {k i : Nat} (hi : i < nb.length) : (tchTo g nb eb k).getD i false = true ↔ nb.getD i false = true ∨ ∃ e, e < k ∧ eb e = true ∧ (frN g e = i ∨ toN g e = i) := by
  induction k with
  | zero => simp [tchTo]
  | succ k ih =>
    have hl := tchTo_len g nb eb k
    by_cases hb : eb k = true
    · rw [tchTo_yes hb, set_getD (by simp [hl]; exact hi), set_getD (by omega), Bool.or_eq_true, Bool.or_eq_true, ih, decide_eq_true_iff, decide_eq_true_iff]
      constructor
      · rintro ((h | h) | h)
        · rcases h with h | ⟨e, h1, h2, h3⟩
          · exact .inl h
          · exact .inr ⟨e, by omega, h2, h3⟩
        · exact .inr ⟨k, by omega, hb, .inl h⟩
        · exact .inr ⟨k, by omega, hb, .inr h⟩
      · rintro (h | ⟨e, h1, h2, h3⟩)
        · exact .inl (.inl (.inl h))
        · by_cases he : e = k
          · subst he
            rcases h3 with h3 | h3
            · exact .inl (.inr h3)
            · exact .inr h3
          · exact .inl (.inl (.inr ⟨e, by omega, h2, h3⟩))
    · rw [tchTo_no (by simpa using hb), ih]
      constructor
      · rintro (h | ⟨e, h1, h2, h3⟩)
        · exact .inl h
        · exact .inr ⟨e, by omega, h2, h3⟩
      · rintro (h | ⟨e, h1, h2, h3⟩)
        · exact .inl h
        · by_cases he : e = k
          · subst he; exact absurd h2 hb
          · exact .inr ⟨e, by omega, h2, h3⟩
theorem tch_least {g : Gr} {nb eb : List Bool} (hn : nb.length = g.ns.length) (he : eb.length = g.es.length) :
    (⟨sel (fun i => (tchTo g nb (fun e => eb.getD e false) eb.length).getD i false) (tchTo g nb (fun e => eb.getD e false) eb.length).length, sel (fun i => eb.getD i false) eb.length⟩ : Mo) = leastP g (fun i => nb.getD i false) (fun e => eb.getD e false) := by
  unfold leastP
  rw [tchTo_len, hn, he]
  congr 1
  refine sel_ext fun i hi => ?_
  rw [Bool.eq_iff_iff, tchTo_at (by omega), Bool.or_eq_true, touch_iff]

theorem OwnB.cell {w : World} {base g c n : Nat} {xs : List Bool} (hn : n = xs.length) (h : OwnB w base (.slice (some ⟨g, 0, none⟩) n c) xs) {j : Nat} (hj : j < n) : w.cell? ⟨g, j, none⟩ = some (.bool (xs.getD j false)) := by
  subst hn
  obtain ⟨A, c', e, hR⟩ := OwnE.reads h
  simp only [Value.slice.injEq] at e
  obtain ⟨b, off, e1, _, h3⟩ := Bos.cells hR hj
  rw [← e.1] at e1
  injection e1 with e1
  injection e1 with e2 e3 _
  subst e2 e3
  have := h3 j hj
  rwa [Nat.zero_add] at this
theorem SR.far {w u : World} {L : List Bx} (h : SR w L u) {p : Addr} (hp : w.heap.size + L.length ≤ p.block) (v : Value) : SR w L (u.setCell p v) := by
  refine ⟨h.1.setCell (p := p) (by omega) v, fun i x hx => ?_⟩
  have hl : i < L.length := (List.getElem?_eq_some_iff.1 hx).1
  exact (heap_setCell_other _ _ _ _ (by omega)).trans (h.2 i x hx)
end Go.Proofs.YthnhacncnhknnaaGreatDoor

/-
  Parts of graphs, the reference: Made. Printed by mkr7.py.
-/
namespace Go.Proofs.YthnhacncnhknnaaGreatDoor
open Go.RowKit Go.Shelf

theorem step_make_B {w : World} {ops : Array Oper} {o : Oper} {a : Act} {K : Act → World → Prop} {Q : Exit → Act → World → Prop} {X : Prop} (hgd : o.guard = none) (l c : Operand)
    (ho : o.op = Op.makeSlice 61 l c) (base n : Nat) (hl : a.eval l = .int .i64 (n : Int)) (hc : a.eval c = .int .i64 (n : Int)) (hn : n ≤ 1000000) (hbase : base ≤ w.heap.size)
    (hK : ∀ w', OwnB w' base (.slice (some ⟨w.heap.size, 0, none⟩) n n) (List.replicate n false) → Below w.heap.size w w' → w.heap.size < w'.heap.size → K (a.put o.dst (.slice (some ⟨w.heap.size, 0, none⟩) n n)) w') : if Region.wanted o (yielded ops a.tmps) = true then Oper.wp Tryz.prog o a w K Q else X := by
  have hw : Region.wanted o (yielded ops a.tmps) = true := by simp [Region.wanted, hgd]
  rw [if_pos hw]
  obtain ⟨i0, hi, hz0, hz1, hz2⟩ := info_parts infoBo
  obtain ⟨w', hrun, r1, r2⟩ := run_make_full (P := Tryz.prog) w base 61 4 i0 (.bool false) 1 Tryz.underlying61 hi hz0 hz1 .i64 .i64 n (by rw [hz2]; omega) (by unfold maxLen; omega) hbase
  have h3 : OwnB w' base (.slice (some ⟨w.heap.size, 0, none⟩) n n) (List.replicate n false) := by
    unfold OwnB OwnE
    rw [cellsE_bo, List.length_replicate]
    have e : (madeCells (Value.bool false).cells (n * 1)).toList = (List.replicate n false).map Value.bool := by
      rw [Nat.mul_one]
      refine (toList_madeCells_one _ _).trans ?_
      rw [List.map_replicate]
    rw [e] at r1
    exact r1
  unfold Oper.wp
  simp [execOp, ho, hl, hc, hrun, Result.andThen]
  exact hK w' h3 ((Below.refl _ w).grown r2 (Nat.le_refl _) (by intro k hk; cases hk)) (OwnE.lt h3 _ rfl).2
theorem least_ext {g : Gr} {nb nb' eb eb' : Nat → Bool} (h1 : ∀ i, i < g.ns.length → nb i = nb' i) (h2 : ∀ e, e < g.es.length → eb e = eb' e) : leastP g nb eb = leastP g nb' eb' := by
  unfold leastP
  have ht : ∀ i, touch g eb i = touch g eb' i := fun i => by
    rw [Bool.eq_iff_iff, touch_iff, touch_iff]
    constructor
    · rintro ⟨e, a, b, c⟩; exact ⟨e, a, by rw [← h2 e a]; exact b, c⟩
    · rintro ⟨e, a, b, c⟩; exact ⟨e, a, by rw [h2 e a]; exact b, c⟩
  congr 1
  · exact sel_ext fun i hi => by rw [h1 i hi, ht]
  · exact sel_ext fun e he => h2 e he
def madeP (g : Gr) (set : Nat) : Mo := leastP g (fun i => set.testBit (i % 64)) (fun e => set.testBit ((g.ns.length + e) % 64))
theorem bit_u64 (set k : Nat) (hs : set < 18446744073709551616) : (bits .and .u64 ((set : Int) / 2 ^ k) 1 == 1) = set.testBit k := by
  have e : (set : Int) / 2 ^ k = ((set / 2 ^ k : Nat) : Int) := by rw [Int.natCast_ediv]; simp
  have hm : set / 2 ^ k < 18446744073709551616 := Nat.lt_of_le_of_lt (Nat.div_le_self _ _) hs
  rw [e, Nat.testBit_eq_decide_div_mod_eq]
  generalize set / 2 ^ k = m at *
  rw [and_one_u64 _ (by omega) (by omega)]
  rw [Bool.eq_iff_iff, beq_iff_eq, decide_eq_true_iff]
  omega

end Go.Proofs.YthnhacncnhknnaaGreatDoor

/-
  Parts of graphs, the reference: Boundary. Printed by mkr8.py.
-/
namespace Go.Proofs.YthnhacncnhknnaaGreatDoor
open Go.RowKit Go.Shelf

theorem wpList_make_B {w : World} {ops : Array Oper} {rest : List Oper} {o : Oper} {a : Act} {Q : Exit → Act → World → Prop} (hgd : o.guard = none) (l c : Operand)
    (ho : o.op = Op.makeSlice 61 l c) (base n : Nat) (hl : a.eval l = .int .i64 (n : Int)) (hc : a.eval c = .int .i64 (n : Int)) (hn : n ≤ 1000000) (hbase : base ≤ w.heap.size)
    (hK : ∀ w', OwnB w' base (.slice (some ⟨w.heap.size, 0, none⟩) n n) (List.replicate n false) → Below w.heap.size w w' → w.heap.size < w'.heap.size → wpList Tryz.prog ops Q rest (a.put o.dst (.slice (some ⟨w.heap.size, 0, none⟩) n n)) w') : wpList Tryz.prog ops Q (o :: rest) a w := by
  obtain ⟨i0, hi, hz0, hz1, hz2⟩ := info_parts infoBo
  refine wpList_make_full w hgd l c 61 ho base 4 i0 (.bool false) 1 Tryz.underlying61 hi hz0 hz1 .i64 .i64 _ _ n hl hc rfl rfl (by rw [hz2]; omega) (by unfold maxLen; omega) hbase ?_
  intro w' h1 h2
  have h3 : OwnB w' base (.slice (some ⟨w.heap.size, 0, none⟩) n n) (List.replicate n false) := by
    unfold OwnB OwnE
    rw [cellsE_bo, List.length_replicate]
    have e : (madeCells (Value.bool false).cells (n * 1)).toList = (List.replicate n false).map Value.bool := by
      rw [Nat.mul_one]
      refine (toList_madeCells_one _ _).trans ?_
      rw [List.map_replicate]
    rw [e] at h1
    exact h1
  exact hK w' h3 ((Below.refl _ w).grown h2 (Nat.le_refl _) (by intro k hk; cases hk)) (OwnE.lt h3 _ rfl).2
theorem bnd_sel (g : Gr) (p : Mo) : sel (fun i => mrg true (inB p.ns i) (inB (sel (fun i => (tchTo g (List.replicate g.ns.length false) (fun e => !inB p.es e) g.es.length).getD i false) g.ns.length) i)) g.ns.length = bndL g p := by
  unfold bndL
  refine sel_ext fun i hi => ?_
  rw [mrg_and]
  congr 1
  rw [Bool.eq_iff_iff, inB_iff, sel_has, tchTo_at (by rw [List.length_replicate]; exact hi), touch_iff]
  have h0 : ¬ (List.replicate g.ns.length false).getD i false = true := by rw [List.getD_eq_getElem?_getD, List.getElem?_replicate, if_pos hi]; simp
  exact ⟨fun h => h.2.resolve_left h0, fun h => ⟨hi, .inr h⟩⟩

set_option maxRecDepth 100000 in
set_option maxHeartbeats 4000000 in
theorem boundary7_any : BndC 11 := by
  intro g p An cn Ae ce Pn pn Pe pe w hg hp
  have hS0 : SR w [(.slice An g.ns.length cn, .slice Ae g.es.length ce, 25), (.slice Pn p.ns.length pn, .slice Pe p.es.length pe, 27)] ((w.alloc (.cells #[.slice An g.ns.length cn, .slice Ae g.es.length ce] 25)).alloc (.cells #[.slice Pn p.ns.length pn, .slice Pe p.es.length pe] 27)) := SR.push (SR.push (SR.nil w) rfl _ _ _) (by simp) _ _ _
  have HV := Lib.hid (fun (u : World) (hu : Below w.heap.size w u) => valid7_any g p An cn Ae ce Pn pn Pe pe u (hg.up hu) (hp.up hu))
  have HZ : Hid (partE g p = 0 → validE g = 0) := Lib.hid fun h => (part_zero.1 h).1
  have HFR := Lib.hid (fun (hv : validE g = 0) i (hi : i < g.es.length) => fr_eq hv hi)
  have HVV := Lib.hid (fun (hv : validE g = 0) => valid_zero hv)
  have HI : Hid (bndR g p = if partE g p = 0 then bndL g p else []) := Lib.hid rfl
  have HBS := Lib.hid (bnd_sel g p)
  have HHS := Lib.hid (fun (x : Int) (u : World) (hu : Below w.heap.size w u) => has7_any p.es x Pe u.heap.size pe u (by have := hp.le; unfold maxLen; omega) (Reads.up hp.es hu))
  have HGE := Lib.hid (fun (u : World) (hu : Below w.heap.size w u) => Reads.below hg.es hu)
  have HMG := Lib.hid (fun (l : List Int) (hl : l.length ≤ 1000) (hn : g.ns.length ≤ 1000) (A : Option Addr) (a : Nat) (u : World) (hu : Below w.heap.size w u) (r : Ints u u.heap.size A l) => merged_any g.ns.length p.ns l true Pn A pn a u hn hp.ln hl (Reads.up hp.ns hu) r)
  have HLN := Lib.hid (fun k => tchTo_len g (List.replicate g.ns.length false) (fun e => !inB p.es e) k)
  have HY := Lib.hid (fun k (h : (fun e => !inB p.es e) k = true) => tchTo_yes (g := g) (nb := List.replicate g.ns.length false) (eb := fun e => !inB p.es e) h)
  have HN := Lib.hid (fun k (h : (fun e => !inB p.es e) k = false) => tchTo_no (g := g) (nb := List.replicate g.ns.length false) (eb := fun e => !inB p.es e) h)
  have H0 : Hid (tchTo g (List.replicate g.ns.length false) (fun e => !inB p.es e) 0 = List.replicate g.ns.length false) := Lib.hid rfl
  have HS0 := Lib.hid hS0
  clear hS0 hg hp
  generalize bndR g p = R at *
  generalize partE g p = E at *
  generalize tchTo g (List.replicate g.ns.length false) (fun e => !inB p.es e) = P at *
  generalize bndL g p = RB at *
  go_enter Tryz.func11, Tryz.ntmps11
  obtain ⟨c0, c1⟩ := HS0.out.cell (i := 0) rfl
  obtain ⟨c2, c3⟩ := HS0.out.cell (i := 1) rfl
  simp only [Nat.add_zero] at c0 c1
  go_wp2_with fail
  refine (HV.out _ HS0.out.1).mono ?_
  rintro e w1 ⟨rfl, hb1⟩
  have HS1 := Lib.hid (HS0.out.up hb1)
  clear hb1 HS0 HV c0 c1 c2 c3
  obtain ⟨c0, c1⟩ := HS1.out.cell (i := 0) rfl
  simp only [Nat.add_zero] at c0 c1
  by_cases h1 : E = 0
  case neg =>
    have HR := Lib.hid (show R = [] by rw [HI.out, if_neg h1])
    have t1 : ((E : Int) != 0) = true := by simp; omega
    clear h1
    go_wp2_with fail
    go_ret2
    exact ⟨⟨none, 0, by rw [HR.out]; rfl, by rw [HR.out]; exact .inl rfl, by rw [HR.out]; exact Nat.zero_le _⟩, HS1.out.1⟩
  have HR := Lib.hid (show R = RB by rw [HI.out, if_pos h1])
  have hv0 := HZ.out h1
  have HFR := Lib.hid (HFR.out hv0)
  obtain ⟨v1, v2, _⟩ := HVV.out hv0
  have t1 : ((E : Int) != 0) = false := by simp; omega
  have HE0 := Lib.hid h1
  clear h1 HI HZ HVV hv0
  go_wp2_with (at_make; refine wpList_make_B rfl _ _ rfl w1.heap.size g.ns.length rfl rfl (by omega) (Nat.le_refl _) ?_; intro w2 hown hb hsz)
  have HS2 := Lib.hid (HS1.out.up hb)
  have HGB : Hid (w.heap.size + 2 ≤ w1.heap.size) := Lib.hid (heap_lt (HS1.out.2 1 _ rfl))
  have HO2 := Lib.hid hown
  obtain ⟨gb, hgb⟩ : ∃ q, q = w1.heap.size := ⟨_, rfl⟩
  rw [← hgb] at HO2 HGB
  rw [← hgb]
  clear hown hb hsz HS1 c0 c1 t1 hgb
  go_wp2_with fail
  go_loopw [8] (fun x wr => ∃ k : Nat, k ≤ g.es.length ∧ x = .int .i64 (k : Int) ∧ OwnB wr gb (.slice (some ⟨gb, 0, none⟩) g.ns.length g.ns.length) (P k) ∧ SR w [(.slice An g.ns.length cn, .slice Ae g.es.length ce, 25), (.slice Pn p.ns.length pn, .slice Pe p.es.length pe, 27)] wr) (fun x _ => g.es.length - (intOf x).toNat)
  case atStart => exact ⟨0, Nat.zero_le _, rfl, by rw [H0.out]; exact HO2.out, HS2.out⟩
  case round =>
    clear HO2 HS2
    obtain ⟨k, hk, rfl, ho, hs⟩ := hrel
    have HO := Lib.hid ho
    have HS := Lib.hid hs
    clear ho hs
    obtain ⟨c0, c1⟩ := HS.out.cell (i := 0) rfl
    obtain ⟨c2, c3⟩ := HS.out.cell (i := 1) rfl
    simp only [Nat.add_zero] at c0 c1
    have HPN : Hid (g.ns.length = (P k).length) := Lib.hid (by rw [HLN.out, List.length_replicate])
    by_cases hke : k < g.es.length
    · have i0 : (0 : Int) ≤ (k : Int) := by omega
      have i1 : (k : Int) < (g.es.length : Int) := by omega
      have i2 : ((k : Int)).toNat = k := by omega
      have HLT := Lib.hid hke
      have HM : Hid (g.es.length - ((k : Int) + 1).toNat < g.es.length - ((k : Int)).toNat) := Lib.hid (by omega)
      have HQ := Lib.hid (HHS.out (k : Int) wr HS.out.1)
      have HYK := Lib.hid (HY.out k)
      have HNK := Lib.hid (HN.out k)
      simp only [inB] at HYK HNK
      generalize decide ((k : Int) ∈ p.es) = z at *
      cases z
      case true =>
        have HN2 := Lib.hid (HNK.out rfl)
        clear HYK HNK hke
        go_wp2_with fail
        refine HQ.out.mono ?_
        rintro e w8 ⟨rfl, rfl⟩
        go_wp2_with fail
        go_roundw
        case rel => exact ⟨k + 1, HLT.out, by go_num, by rw [HN2.out]; exact HO.out, HS.out⟩
        case measure => exact HM.out
      case false =>
        have HY2 := Lib.hid (HYK.out rfl)
        clear HYK HNK
        obtain ⟨e1, l1, e2, l2⟩ := HFR.out k hke
        obtain ⟨b2, off2, hAe, hb2, hd⟩ := Eds.cells (HGE.out _ HS.out.1) hke
        obtain ⟨d0, d1, d2⟩ := hd k hke
        rw [e1] at d1
        rw [e2] at d2
        subst hAe
        have f0 : (0 : Int) ≤ (frN g k : Int) := by omega
        have f1 : (frN g k : Int) < (g.ns.length : Int) := by omega
        have f2 : ((frN g k : Int)).toNat = frN g k := by omega
        have t0 : (0 : Int) ≤ (toN g k : Int) := by omega
        have t1 : (toN g k : Int) < (g.ns.length : Int) := by omega
        have t2 : ((toN g k : Int)).toNat = toN g k := by omega
        have HNF : Hid (frN g k < g.ns.length ∧ toN g k < g.ns.length) := Lib.hid ⟨l1, l2⟩
        have HNE : Hid (gb ≠ w.heap.size ∧ gb ≠ b2) := Lib.hid (by have := HGB.out; omega)
        generalize frN g k = fr at *
        generalize toN g k = tt at *
        generalize (g.es.getD k default).ty = ty at *
        clear hd hke e1 e2 l1 l2
        go_wp2_with fail
        refine HQ.out.mono ?_
        rintro e w8 ⟨rfl, rfl⟩
        go_upto_region 9 with fail
        have HSW : Hid ((fun u : World => u.cell? ⟨w.heap.size, 1, none⟩ = some (.slice (some ⟨b2, off2, none⟩) g.es.length ce) ∧ u.cell? ⟨b2, off2 + k * 3, none⟩ = some (.int .i64 ty) ∧ u.cell? ⟨b2, off2 + k * 3 + 1, none⟩ = some (.int .i64 (fr : Int)) ∧ u.cell? ⟨b2, off2 + k * 3 + 2, none⟩ = some (.int .i64 (tt : Int))) w8.drew) := Lib.hid ⟨c1, d0, d1, d2⟩
        have HSS : Hid (∀ (u : World) (q : Nat) (x : Value), (fun u : World => u.cell? ⟨w.heap.size, 1, none⟩ = some (.slice (some ⟨b2, off2, none⟩) g.es.length ce) ∧ u.cell? ⟨b2, off2 + k * 3, none⟩ = some (.int .i64 ty) ∧ u.cell? ⟨b2, off2 + k * 3 + 1, none⟩ = some (.int .i64 (fr : Int)) ∧ u.cell? ⟨b2, off2 + k * 3 + 2, none⟩ = some (.int .i64 (tt : Int))) u → (fun u : World => u.cell? ⟨w.heap.size, 1, none⟩ = some (.slice (some ⟨b2, off2, none⟩) g.es.length ce) ∧ u.cell? ⟨b2, off2 + k * 3, none⟩ = some (.int .i64 ty) ∧ u.cell? ⟨b2, off2 + k * 3 + 1, none⟩ = some (.int .i64 (fr : Int)) ∧ u.cell? ⟨b2, off2 + k * 3 + 2, none⟩ = some (.int .i64 (tt : Int))) (u.setCell ⟨gb, q, none⟩ x)) := Lib.hid fun u q x h => ⟨(World.cell?_setCell_far u ⟨gb, q, none⟩ _ x (fun e => HNE.out.1 e)).trans h.1, (World.cell?_setCell_far u ⟨gb, q, none⟩ _ x (fun e => HNE.out.2 e)).trans h.2.1, (World.cell?_setCell_far u ⟨gb, q, none⟩ _ x (fun e => HNE.out.2 e)).trans h.2.2.1, (World.cell?_setCell_far u ⟨gb, q, none⟩ _ x (fun e => HNE.out.2 e)).trans h.2.2.2⟩
        have HOD : Hid (OwnB w8.drew gb (.slice (some ⟨gb, 0, none⟩) g.ns.length g.ns.length) (P k)) := Lib.hid (OwnE.below HO.out (below_d w8) (Nat.le_refl _))
        have HSD := Lib.hid (HS.out.up (below_d w8))
        have HO1 := Lib.hid (OwnB.set HPN.out HOD.out fr true).1
        have HO2 : Hid (OwnB ((w8.drew.setCell ⟨gb, fr, none⟩ (.bool true)).setCell ⟨gb, tt, none⟩ (.bool true)) gb (.slice (some ⟨gb, 0, none⟩) g.ns.length g.ns.length) (((P k).set fr true).set tt true)) := Lib.hid (OwnB.set (by rw [List.length_set]; exact HPN.out) HO1.out tt true).1
        have HSR2 := Lib.hid ((HSD.out.far (p := ⟨gb, fr, none⟩) HGB.out (.bool true)).far (p := ⟨gb, tt, none⟩) HGB.out (.bool true))
        clear c0 c1 c2 c3 d0 d1 d2
        refine wp_region_noPanic ?_
        refine wp_region_held_drew (S := (fun u : World => u.cell? ⟨w.heap.size, 1, none⟩ = some (.slice (some ⟨b2, off2, none⟩) g.es.length ce) ∧ u.cell? ⟨b2, off2 + k * 3, none⟩ = some (.int .i64 ty) ∧ u.cell? ⟨b2, off2 + k * 3 + 1, none⟩ = some (.int .i64 (fr : Int)) ∧ u.cell? ⟨b2, off2 + k * 3 + 2, none⟩ = some (.int .i64 (tt : Int)))) (by kernel_rfl) (HSW.out) (fun hHeld => ?_)
        have r1 := OwnB.cell HPN.out HOD.out HNF.out.1
        have r2 := OwnB.free HPN.out HOD.out fr
        have HR3 := Lib.hid (OwnB.cell (by rw [List.length_set]; exact HPN.out) HO1.out HNF.out.2)
        have HR4 := Lib.hid (OwnB.free (by rw [List.length_set]; exact HPN.out) HO1.out tt)
        generalize w8.drew = wd at *
        refine wpAnyH_take (i := 0) (v := ?_) (oper_at (r := _) rfl) (by kernel_rfl) (by kernel_rfl) (by kernel_rfl) (fun _ _ _ h => h) (Or.inl ⟨by rfl, ?_⟩) (by assumption) ?_
        rotate_left
        · intro w hSw; try dsimp only at hSw
          go_simp
          try with_reducible rfl
        try simp only [Act.put, List.setIfInBounds_toArray, List.set_cons_zero, List.set_cons_succ]
        refine wpAnyH_take (i := 1) (v := ?_) (oper_at (r := _) rfl) (by kernel_rfl) (by kernel_rfl) (by kernel_rfl) (fun _ _ _ h => h) (Or.inl ⟨by rfl, ?_⟩) (by assumption) ?_
        rotate_left
        · intro w hSw; try dsimp only at hSw
          go_simp
          try with_reducible rfl
        try simp only [Act.put, List.setIfInBounds_toArray, List.set_cons_zero, List.set_cons_succ]
        refine wpAnyH_take (i := 2) (v := ?_) (oper_at (r := _) rfl) (by kernel_rfl) (by kernel_rfl) (by kernel_rfl) (fun _ _ _ h => h) (Or.inl ⟨by rfl, ?_⟩) (by assumption) ?_
        rotate_left
        · intro w hSw; try dsimp only at hSw
          go_simp
          try with_reducible rfl
        try simp only [Act.put, List.setIfInBounds_toArray, List.set_cons_zero, List.set_cons_succ]
        refine wpAnyH_take (i := 3) (v := ?_) (oper_at (r := _) rfl) (by kernel_rfl) (by kernel_rfl) (by kernel_rfl) (fun _ _ _ h => h) (Or.inl ⟨by rfl, ?_⟩) (by assumption) ?_
        rotate_left
        · intro w hSw; try dsimp only at hSw
          go_simp
          try with_reducible rfl
        try simp only [Act.put, List.setIfInBounds_toArray, List.set_cons_zero, List.set_cons_succ]
        refine wpAnyH_take (i := 4) (v := ?_) (oper_at (r := _) rfl) (by kernel_rfl) (by kernel_rfl) (by kernel_rfl) (fun _ _ _ h => h) (Or.inl ⟨by rfl, ?_⟩) (by assumption) ?_
        rotate_left
        · intro w hSw; try dsimp only at hSw
          go_simp
          try with_reducible rfl
        try simp only [Act.put, List.setIfInBounds_toArray, List.set_cons_zero, List.set_cons_succ]
        refine wpAnyH_take (i := 5) (v := ?_) (oper_at (r := _) rfl) (by kernel_rfl) (by kernel_rfl) (by kernel_rfl) (fun _ _ _ h => h) (Or.inl ⟨by rfl, ?_⟩) (by assumption) ?_
        rotate_left
        · intro w hSw; try dsimp only at hSw
          go_simp
          try with_reducible rfl
        try simp only [Act.put, List.setIfInBounds_toArray, List.set_cons_zero, List.set_cons_succ]
        refine wpAnyH_take (i := 6) (v := ?_) (oper_at (r := _) rfl) (by kernel_rfl) (by kernel_rfl) (by kernel_rfl) (fun _ _ _ h => h) (Or.inl ⟨by rfl, ?_⟩) (by assumption) ?_
        rotate_left
        · intro w hSw; try dsimp only at hSw
          go_simp
          try with_reducible rfl
        try simp only [Act.put, List.setIfInBounds_toArray, List.set_cons_zero, List.set_cons_succ]
        refine wpAnyH_take (i := 7) (v := ?_) (oper_at (r := _) rfl) (by kernel_rfl) (by kernel_rfl) (by kernel_rfl) (fun _ _ _ h => h) (Or.inl ⟨by rfl, ?_⟩) (by assumption) ?_
        rotate_left
        · intro w hSw; try dsimp only at hSw
          go_simp
          try with_reducible rfl
        try simp only [Act.put, List.setIfInBounds_toArray, List.set_cons_zero, List.set_cons_succ]
        refine wpAnyH_take (i := 8) (v := ?_) (oper_at (r := _) rfl) (by kernel_rfl) (by kernel_rfl) (by kernel_rfl) (fun _ _ _ h => h) (Or.inl ⟨by rfl, ?_⟩) (by assumption) ?_
        rotate_left
        · intro w hSw; try dsimp only at hSw
          go_simp
          try with_reducible rfl
        try simp only [Act.put, List.setIfInBounds_toArray, List.set_cons_zero, List.set_cons_succ]
        refine wpAnyH_take (i := 9) (v := ?_) (oper_at (r := _) rfl) (by kernel_rfl) (by kernel_rfl) (by kernel_rfl) (fun _ _ _ h => h) (Or.inl ⟨by rfl, ?_⟩) (by assumption) ?_
        rotate_left
        · intro w hSw; try dsimp only at hSw
          go_simp
          try with_reducible rfl
        try simp only [Act.put, List.setIfInBounds_toArray, List.set_cons_zero, List.set_cons_succ]
        refine wpAnyH_take (i := 10) (v := ?_) (oper_at (r := _) rfl) (by kernel_rfl) (by kernel_rfl) (by kernel_rfl) (fun _ _ _ h => h) (Or.inl ⟨by rfl, ?_⟩) (by assumption) ?_
        rotate_left
        · intro w hSw; try dsimp only at hSw
          go_simp
          try with_reducible rfl
        try simp only [Act.put, List.setIfInBounds_toArray, List.set_cons_zero, List.set_cons_succ]
        refine wpAnyH_take (i := 11) (v := ?_) (oper_at (r := _) rfl) (by kernel_rfl) (by kernel_rfl) (by kernel_rfl) (fun _ _ _ h => h) (Or.inl ⟨by rfl, ?_⟩) (by assumption) ?_
        rotate_left
        · intro w hSw; try dsimp only at hSw
          go_simp
          try with_reducible rfl
        try simp only [Act.put, List.setIfInBounds_toArray, List.set_cons_zero, List.set_cons_succ]
        refine wpAnyH_take (i := 12) (v := ?_) (oper_at (r := _) rfl) (by kernel_rfl) (by kernel_rfl) (by kernel_rfl) (fun _ _ _ h => h) (Or.inl ⟨by rfl, ?_⟩) (by assumption) ?_
        rotate_left
        · intro w hSw; try dsimp only at hSw
          go_simp
          try with_reducible rfl
        try simp only [Act.put, List.setIfInBounds_toArray, List.set_cons_zero, List.set_cons_succ]
        refine wpAnyH_take (i := 13) (v := ?_) (oper_at (r := _) rfl) (by kernel_rfl) (by kernel_rfl) (by kernel_rfl) (fun _ _ _ h => h) (Or.inl ⟨by rfl, ?_⟩) (by assumption) ?_
        rotate_left
        · intro w hSw; try dsimp only at hSw
          go_simp
          try with_reducible rfl
        try simp only [Act.put, List.setIfInBounds_toArray, List.set_cons_zero, List.set_cons_succ]
        refine wpAnyH_take (i := 14) (v := ?_) (oper_at (r := _) rfl) (by kernel_rfl) (by kernel_rfl) (by kernel_rfl) (fun _ _ _ h => h) (Or.inl ⟨by rfl, ?_⟩) (by assumption) ?_
        rotate_left
        · intro w hSw; try dsimp only at hSw
          go_simp
          try with_reducible rfl
        try simp only [Act.put, List.setIfInBounds_toArray, List.set_cons_zero, List.set_cons_succ]
        refine wpAnyH_ready (rs := [15]) (by kernel_rfl) (by simp) ?_
        refine AllReadyH.cons (oper_at (r := _) rfl) (fun K hK => ?_) AllReadyH.nil
        go_simp
        refine hK.out _ _ (HSS.out _ _ _ HSW.out) (fun _ => ?_)
        clear hK K
        try simp only [Act.put, List.setIfInBounds_toArray, List.set_cons_zero, List.set_cons_succ]
        clear r1 r2
        have r3 := HR3.out
        have r4 := HR4.out
        refine wpAnyH_take (i := 16) (v := ?_) (oper_at (r := _) rfl) (by kernel_rfl) (by kernel_rfl) (by kernel_rfl) (fun _ _ _ h => h) (Or.inl ⟨by rfl, ?_⟩) (by assumption) ?_
        rotate_left
        · intro w hSw; try dsimp only at hSw
          go_simp
          try with_reducible rfl
        try simp only [Act.put, List.setIfInBounds_toArray, List.set_cons_zero, List.set_cons_succ]
        refine wpAnyH_ready (rs := [17]) (by kernel_rfl) (by simp) ?_
        refine AllReadyH.cons (oper_at (r := _) rfl) (fun K hK => ?_) AllReadyH.nil
        go_simp
        refine hK.out _ _ (HSS.out _ _ _ (HSS.out _ _ _ HSW.out)) (fun _ => ?_)
        clear hK K
        try simp only [Act.put, List.setIfInBounds_toArray, List.set_cons_zero, List.set_cons_succ]
        refine wpAnyH_done (by kernel_rfl) ?_ _
        refine NoPanic.normal ?_
        go_wp2_with fail
        go_roundw
        case rel => exact ⟨k + 1, HLT.out, by go_num, by rw [HY2.out]; exact HO2.out, HSR2.out⟩
        case measure => exact HM.out
    · have e : k = g.es.length := by omega
      subst e
      obtain ⟨A4, c4, e4, hr4⟩ := OwnE.reads HO.out
      injection e4 with e4 e45 e5
      subst e4
      have HM1 := Lib.hid (fun (u : World) (hu : Below wr.heap.size wr u) => show Calls Tryz.prog 33 #[.slice (some ⟨gb, 0, none⟩) g.ns.length g.ns.length] u _ from by have h := marked_any (P g.es.length) (some ⟨gb, 0, none⟩) g.ns.length u (by rw [← HPN.out]; omega) (Reads.up hr4 hu); rw [← HPN.out] at h; exact h)
      have HSL := Lib.hid (sel_le (fun i => (P g.es.length).getD i false) g.ns.length)
      have HBW := Lib.hid HS.out.1
      have HMX := Lib.hid (fun (l : List Int) (hl : l.length ≤ 1000) (A : Option Addr) (a : Nat) (u : World) (hu : Below wr.heap.size wr u) (r : Ints u u.heap.size A l) => HMG.out l hl (by omega) A a u (HBW.out.trans (hu.mono HBW.out.size)) r)
      have HLR : Hid ((sel (fun i => mrg true (inB p.ns i) (inB (sel (fun i => (P g.es.length).getD i false) g.ns.length) i)) g.ns.length).length ≤ g.ns.length) := Lib.hid (sel_le _ _)
      have HBS2 := Lib.hid HBS.out
      generalize sel (fun i => (P g.es.length).getD i false) g.ns.length = L1 at *
      clear hr4 e45 e5 hk hke
      go_upto_region 10 with fail
      have HM : Hid (∀ u, Below wr.drew.heap.size wr.drew u → (fun u : World => u.cell? ⟨w.heap.size, 0, none⟩ = some (.slice An g.ns.length cn) ∧ u.cell? ⟨w.heap.size + 1, 0, none⟩ = some (.slice Pn p.ns.length pn)) u) := Lib.hid fun u hu => ⟨cell_up hu c0, cell_up hu c2⟩
      have HVD := Lib.hid (below_d wr)
      have WD0 := Lib.hid (Below.refl wr.drew.heap.size wr.drew)
      clear c0 c1 c2 c3
      refine wp_region_noPanic ?_
      refine wp_region_held_drew (S := (fun u : World => u.cell? ⟨w.heap.size, 0, none⟩ = some (.slice An g.ns.length cn) ∧ u.cell? ⟨w.heap.size + 1, 0, none⟩ = some (.slice Pn p.ns.length pn))) (by kernel_rfl) (HM.out _ WD0.out) (fun hHeld => ?_)
      generalize wr.drew = wd at *
      refine wpAnyH_take (i := 0) (v := ?_) (oper_at (r := _) rfl) (by kernel_rfl) (by kernel_rfl) (by kernel_rfl) (fun _ _ _ h => h) (Or.inl ⟨by rfl, ?_⟩) (by assumption) ?_
      rotate_left
      · intro w hSw; try dsimp only at hSw
        go_simp
        try with_reducible rfl
      try simp only [Act.put, List.setIfInBounds_toArray, List.set_cons_zero, List.set_cons_succ]
      refine wpAnyH_take (i := 1) (v := ?_) (oper_at (r := _) rfl) (by kernel_rfl) (by kernel_rfl) (by kernel_rfl) (fun _ _ _ h => h) (Or.inl ⟨by rfl, ?_⟩) (by assumption) ?_
      rotate_left
      · intro w hSw; try dsimp only at hSw
        go_simp
        try with_reducible rfl
      try simp only [Act.put, List.setIfInBounds_toArray, List.set_cons_zero, List.set_cons_succ]
      refine wpAnyH_take (i := 2) (v := ?_) (oper_at (r := _) rfl) (by kernel_rfl) (by kernel_rfl) (by kernel_rfl) (fun _ _ _ h => h) (Or.inl ⟨by rfl, ?_⟩) (by assumption) ?_
      rotate_left
      · intro w hSw; try dsimp only at hSw
        go_simp
        try with_reducible rfl
      try simp only [Act.put, List.setIfInBounds_toArray, List.set_cons_zero, List.set_cons_succ]
      refine wpAnyH_take (i := 3) (v := ?_) (oper_at (r := _) rfl) (by kernel_rfl) (by kernel_rfl) (by kernel_rfl) (fun _ _ _ h => h) (Or.inl ⟨by rfl, ?_⟩) (by assumption) ?_
      rotate_left
      · intro w hSw; try dsimp only at hSw
        go_simp
        try with_reducible rfl
      try simp only [Act.put, List.setIfInBounds_toArray, List.set_cons_zero, List.set_cons_succ]
      refine wpAnyH_take (i := 4) (v := ?_) (oper_at (r := _) rfl) (by kernel_rfl) (by kernel_rfl) (by kernel_rfl) (fun _ _ _ h => h) (Or.inl ⟨by rfl, ?_⟩) (by assumption) ?_
      rotate_left
      · intro w hSw; try dsimp only at hSw
        go_simp
        try with_reducible rfl
      try simp only [Act.put, List.setIfInBounds_toArray, List.set_cons_zero, List.set_cons_succ]
      refine wpAnyH_take (i := 5) (v := ?_) (oper_at (r := _) rfl) (by kernel_rfl) (by kernel_rfl) (by kernel_rfl) (fun _ _ _ h => h) (Or.inl ⟨by rfl, ?_⟩) (by assumption) ?_
      rotate_left
      · intro w hSw; try dsimp only at hSw
        go_simp
        try with_reducible rfl
      try simp only [Act.put, List.setIfInBounds_toArray, List.set_cons_zero, List.set_cons_succ]
      refine wpAnyH_ready (rs := [6]) (by kernel_rfl) (by simp) ?_
      refine AllReadyH.cons (oper_at (r := _) rfl) (fun K hK => ?_) AllReadyH.nil
      go_simp
      refine (HM1.out _ HVD.out).mono ?_
      rintro e x2 ⟨v2, rfl, ho2, hb2⟩
      have HB2 := Lib.hid hb2
      obtain ⟨A2, d2, he2, hr2⟩ := OwnE.reads ho2
      subst he2
      have HR2 := Lib.hid hr2
      clear ho2 hb2 hr2
      go_wp2_with fail
      refine hK.out _ _ (HM.out _ HB2.out) (fun _ => ?_)
      clear hK K
      try simp only [Act.put, List.setIfInBounds_toArray, List.set_cons_zero, List.set_cons_succ]
      refine wpAnyH_ready (rs := [7]) (by kernel_rfl) (by simp) ?_
      refine AllReadyH.cons (oper_at (r := _) rfl) (fun K hK => ?_) AllReadyH.nil
      go_simp
      refine (HMX.out L1 (by have := HSL.out; omega) A2 d2 _ (HVD.out.trans (HB2.out.mono HVD.out.size)) HR2.out).mono ?_
      rintro e x3 ⟨v3, rfl, ho3, hb3⟩
      have HB3 := Lib.hid (HB2.out.trans (hb3.mono HB2.out.size))
      obtain ⟨A3, d3, he3, hr3⟩ := OwnE.reads ho3
      subst he3
      have HR3 := Lib.hid hr3
      clear ho3 hb3 hr3
      go_wp2_with fail
      refine hK.out _ _ (HM.out _ HB3.out) (fun _ => ?_)
      clear hK K
      try simp only [Act.put, List.setIfInBounds_toArray, List.set_cons_zero, List.set_cons_succ]
      refine wpAnyH_take (i := 8) (v := ?_) (oper_at (r := _) rfl) (by kernel_rfl) (by kernel_rfl) (by kernel_rfl) (fun _ _ _ h => h) (Or.inl ⟨by rfl, ?_⟩) (by assumption) ?_
      rotate_left
      · intro w hSw; try dsimp only at hSw
        go_simp
        try with_reducible rfl
      try simp only [Act.put, List.setIfInBounds_toArray, List.set_cons_zero, List.set_cons_succ]
      refine wpAnyH_take (i := 9) (v := ?_) (oper_at (r := _) rfl) (by kernel_rfl) (by kernel_rfl) (by kernel_rfl) (fun _ _ _ h => h) (Or.inl ⟨by rfl, ?_⟩) (by assumption) ?_
      rotate_left
      · intro w hSw; try dsimp only at hSw
        go_simp
        try with_reducible rfl
      try simp only [Act.put, List.setIfInBounds_toArray, List.set_cons_zero, List.set_cons_succ]
      refine wpAnyH_done (by kernel_rfl) ?_ _
      refine NoPanic.normal ?_
      go_wp2_with fail
      go_ret2
      refine ⟨⟨A3, d3, by rw [HR.out, ← HBS2.out, HE0.out]; rfl, by rw [HR.out, ← HBS2.out]; exact HR3.out, by rw [HR.out, ← HBS2.out]; have := HLR.out; unfold maxLen; omega⟩, HBW.out.trans ((HVD.out.trans (HB3.out.mono HVD.out.size)).mono HBW.out.size)⟩

end Go.Proofs.YthnhacncnhknnaaGreatDoor

/-
  Parts of graphs, the reference: Close. Printed by mkr9.py.
-/
namespace Go.Proofs.YthnhacncnhknnaaGreatDoor
open Go.RowKit Go.Shelf

/-! marks of a list's numbers -/
def mrkTo (n : Nat) (l : List Int) : Nat → List Bool
  | 0 => List.replicate n false
  | k + 1 => (mrkTo n l k).set (l.getD k 0).toNat true
theorem mrkTo_len (n : Nat) (l : List Int) (k : Nat) : (mrkTo n l k).length = n := by
  induction k with
  | zero => simp [mrkTo]
  | succ k ih => simp [mrkTo, ih]
theorem mrkTo_at {n : Nat} {l : List Int} (h : ∀ x ∈ l, 0 ≤ x ∧ x < n) {k i : Nat} (hk : k ≤ l.length) (hi : i < n) : (mrkTo n l k).getD i false = true ↔ (i : Int) ∈ l.take k := by
  induction k with
  | zero => simp [mrkTo, List.getD_eq_getElem?_getD, hi]
  | succ k ih =>
    have hr := h _ (getD_mem (d := (0 : Int)) (show k < l.length by omega))
    simp only [mrkTo]
    rw [set_getD (by rw [mrkTo_len]; exact hi), Bool.or_eq_true, ih (by omega), decide_eq_true_iff, ← take_next (show k < l.length by omega), List.mem_append, List.mem_singleton]
    constructor
    · rintro (h | h)
      · exact .inl h
      · exact .inr (by omega)
    · rintro (h | h)
      · exact .inl h
      · exact .inr (by omega)
theorem mrk_all {n : Nat} {l : List Int} (h : ∀ x ∈ l, 0 ≤ x ∧ x < n) {i : Nat} (hi : i < n) : (mrkTo n l l.length).getD i false = inB l i := by
  rw [Bool.eq_iff_iff, mrkTo_at h (Nat.le_refl _) hi, List.take_length, inB_iff]
theorem rng_hit {l : List Int} {n k : Nat} (h : idxB (l.getD k 0) n = false) : rngAt l n k = 6 := by unfold rngAt; rw [h]; rfl
theorem rng_pass {l : List Int} {n k : Nat} (h : idxB (l.getD k 0) n = true) : rngAt l n k = 0 := if_pos h

end Go.Proofs.YthnhacncnhknnaaGreatDoor

/-
  Parts of graphs, the program: checkElements, Close. Printed by mkg5.py.
-/
namespace Go.Proofs.YthnhacncnhknnaaGreatDoor
open Go.RowKit Go.Shelf

theorem ends_succ (g : Gr) (xs : List Int) (k : Nat) : endsOf g xs (k + 1) = endsOf g xs k ++ [(g.es.getD (xs.getD k 0).toNat default).fr, (g.es.getD (xs.getD k 0).toNat default).tq] := rfl
theorem SR.low {w u u' : World} {L : List Bx} {B : Nat} (h : SR w L u) (hB : w.heap.size + L.length ≤ B) (hb : Below B u u') : SR w L u' := by
  refine ⟨h.1.trans (hb.mono (by omega)), fun i x hx => ?_⟩
  have hi : i < L.length := (List.getElem?_eq_some_iff.1 hx).1
  exact (hb.block (w.heap.size + i) (by omega)).trans (h.2 i x hx)
theorem two_cells {w : World} {a b : Int} : Ints (w.alloc (.cells #[.int .i64 a, .int .i64 b] 3)) (w.alloc (.cells #[.int .i64 a, .int .i64 b] 3)).heap.size (some ⟨w.heap.size, 0, none⟩) [a, b] := by
  have ho : OwnI (w.alloc (.cells #[.int .i64 a, .int .i64 b] 3)) 0 (.slice (some ⟨w.heap.size, 0, none⟩) 2 2) [a, b] := ⟨rfl, .inr ⟨w.heap.size, 2, _, rfl, Nat.zero_le _, heap_alloc_new _ _, Nat.le_refl _, by decide, rfl, rfl⟩⟩
  obtain ⟨X, x, e, h⟩ := OwnE.reads ho
  injection e with e e1 e2
  rw [e]; exact h

set_option maxRecDepth 100000 in
set_option maxHeartbeats 4000000 in
theorem checkElG_any (g : Gr) (vs xs : List Int) (An : Option Addr) (cn : Nat) (Ae : Option Addr) (ce : Nat) (A : Option Addr) (a : Nat) (B : Option Addr) (b : Nat) (w : World) (hg : GrAt w An cn Ae ce g) (hA : Ints w w.heap.size A vs) (hB : Ints w w.heap.size B xs) (la : vs.length ≤ 1000) (lb : xs.length ≤ 1000) :
    Calls Tryz.prog 41 #[gval An g.ns.length cn Ae g.es.length ce, .slice A vs.length a, .slice B xs.length b] w fun e w' => e = .returned (.int .i64 (closeE g vs xs : Nat)) ∧ Below w.heap.size w w' := by
  have hS0 : SR w [(.slice An g.ns.length cn, .slice Ae g.es.length ce, 25)] (w.alloc (.cells #[.slice An g.ns.length cn, .slice Ae g.es.length ce] 25)) := SR.push (SR.nil w) rfl _ _ _
  have HV := Lib.hid (fun (u : World) (hu : Below w.heap.size w u) => validP_any g An cn Ae ce u (hg.up hu))
  have HVX := Lib.hid (fun (u : World) (hu : Below w.heap.size w u) => Reads.below hA hu)
  have HXX := Lib.hid (fun (u : World) (hu : Below w.heap.size w u) => Reads.below hB hu)
  have HE1 : Hid (rngE vs g.ns.length = fstN (rngAt vs g.ns.length) 0 (vs.length - 0)) := Lib.hid rfl
  have HE2 : Hid (rngE xs g.es.length = fstN (rngAt xs g.es.length) 0 (xs.length - 0)) := Lib.hid rfl
  have HCE : Hid (closeE g vs xs = if validE g ≠ 0 then validE g else if rngE vs g.ns.length ≠ 0 then rngE vs g.ns.length else rngE xs g.es.length) := Lib.hid rfl
  have HS := Lib.hid hS0
  clear hS0 hg hA hB
  generalize closeE g vs xs = E at *
  generalize rngE vs g.ns.length = e1 at *
  generalize rngE xs g.es.length = e2 at *
  go_enter Tryz.func41, Tryz.ntmps41
  obtain ⟨c0, c1⟩ := HS.out.cell (i := 0) rfl
  simp only [Nat.add_zero] at c0 c1
  go_wp2_with fail
  refine (HV.out _ HS.out.1).mono ?_
  rintro e w1 ⟨rfl, hb1⟩
  have HS1 := Lib.hid (HS.out.up hb1)
  clear hb1 HS HV c0 c1
  by_cases h1 : validE g = 0
  case neg =>
    have HEE := Lib.hid (show E = validE g by rw [HCE.out, if_pos h1])
    have t1 : ((validE g : Int) != 0) = true := by simp; omega
    clear h1
    generalize validE g = z at *
    go_wp2_with fail
    go_ret
    exact ⟨ret_int (by rw [HEE.out]), HS1.out.1⟩
  have HCE2 := Lib.hid (show E = if e1 ≠ 0 then e1 else e2 by rw [HCE.out, if_neg (by omega)])
  have HEC19 : Hid (e1 = 6 → E = 6) := Lib.hid fun h => by rw [HCE2.out, h]; rfl
  have HEC2 : Hid (e1 = 0 → e2 = 6 → E = 6) := Lib.hid fun h0 h => by rw [HCE2.out, h0, h]; rfl
  have HC0 : Hid (e1 = 0 → e2 = 0 → E = 0) := Lib.hid fun h0 h => by rw [HCE2.out, h0, h]; rfl
  have t1 : ((validE g : Int) != 0) = false := by simp; omega
  clear h1 HCE HCE2
  generalize validE g = z at *
  go_wp2_with fail
  clear t1
  have HS := Lib.hid HS1.out
  clear HS1
  go_loopw [19] (fun x wr => ∃ k : Nat, k ≤ vs.length ∧ x = .int .i64 (k : Int) ∧ SR w [(.slice An g.ns.length cn, .slice Ae g.es.length ce, 25)] wr ∧ e1 = fstN (rngAt vs g.ns.length) k (vs.length - k)) (fun x _ => vs.length - (intOf x).toNat)
  case atStart => exact ⟨0, Nat.zero_le _, rfl, HS.out, HE1.out⟩
  case round =>
    clear HS HE1
    obtain ⟨k, hk, rfl, hsr, hrr⟩ := hrel
    have HS := Lib.hid hsr
    have HRR := Lib.hid hrr
    clear hsr hrr
    obtain ⟨c0, c1⟩ := HS.out.cell (i := 0) rfl
    simp only [Nat.add_zero] at c0 c1
    by_cases hlt : k < vs.length
    · obtain ⟨b1, off1, hAe, hb1, hc⟩ := Ints.cells (HVX.out _ HS.out.1) hlt
      have ck := hc k hlt
      subst hAe
      have i0 : (0 : Int) ≤ (k : Int) := by omega
      have i1 : (k : Int) < (vs.length : Int) := by omega
      have i2 : ((k : Int)).toNat = k := by omega
      have HLT := Lib.hid hlt
      have HM : Hid (vs.length - ((k : Int) + 1).toNat < vs.length - ((k : Int)).toNat) := Lib.hid (by omega)
      have HHK := Lib.hid (fun hf => fstN_hit (f := rngAt vs g.ns.length) hlt hf)
      have HPK := Lib.hid (fun hf => fstN_pass (f := rngAt vs g.ns.length) hlt hf)
      have HR6 := Lib.hid (fun h => rng_hit (l := vs) (n := g.ns.length) (k := k) h)
      have HR0 := Lib.hid (fun h => rng_pass (l := vs) (n := g.ns.length) (k := k) h)
      have HI := Lib.hid (isIndex_any (vs.getD k 0) g.ns.length wr)
      clear hc hlt
      generalize vs.getD k 0 = y at *
      generalize idxB y g.ns.length = z at *
      cases z
      case false =>
        have h6 := HR6.out rfl
        have HE := Lib.hid (show e1 = 6 by rw [HRR.out, HHK.out (by rw [h6]; omega), h6])
        have HEC := Lib.hid (HEC19.out HE.out)
        clear h6 HR6 HR0 HHK HPK
        go_wp2_with fail
        refine HI.out.mono ?_
        rintro e w9 ⟨rfl, rfl⟩
        go_wp2_with fail
        go_ret
        exact ⟨ret_int (by rw [HEC.out]; rfl), HS.out.1⟩
      case true =>
        have h0 := HR0.out rfl
        have HE := Lib.hid (show e1 = fstN (rngAt vs g.ns.length) (k + 1) (vs.length - (k + 1)) by rw [HRR.out, HPK.out h0])
        clear h0 HR6 HR0 HHK HPK
        go_wp2_with fail
        refine HI.out.mono ?_
        rintro e w9 ⟨rfl, rfl⟩
        go_wp2_with fail
        go_roundw
        case rel => exact ⟨k + 1, HLT.out, by go_num, HS.out, HE.out⟩
        case measure => exact HM.out
    · have e : k = vs.length := by omega
      subst e
      have HZE := Lib.hid (show e1 = 0 by rw [HRR.out, fstN_end (Nat.le_refl _)])
      clear HRR
      have HZV := Lib.hid HZE.out
      clear HZE
      have HEC32 := Lib.hid (fun h => HEC2.out HZV.out h)
      go_wp2_with fail
      clear c0 c1
      go_loopw [32] (fun x wr => ∃ k : Nat, k ≤ xs.length ∧ x = .int .i64 (k : Int) ∧ SR w [(.slice An g.ns.length cn, .slice Ae g.es.length ce, 25)] wr ∧ e2 = fstN (rngAt xs g.es.length) k (xs.length - k)) (fun x _ => xs.length - (intOf x).toNat)
      case atStart => exact ⟨0, Nat.zero_le _, rfl, HS.out, HE2.out⟩
      case round =>
        clear HS HE2
        obtain ⟨k, hk, rfl, hsr, hrr⟩ := hrel
        have HS := Lib.hid hsr
        have HRR := Lib.hid hrr
        clear hsr hrr
        obtain ⟨c0, c1⟩ := HS.out.cell (i := 0) rfl
        simp only [Nat.add_zero] at c0 c1
        by_cases hlt : k < xs.length
        · obtain ⟨b1, off1, hAe, hb1, hc⟩ := Ints.cells (HXX.out _ HS.out.1) hlt
          have ck := hc k hlt
          subst hAe
          have i0 : (0 : Int) ≤ (k : Int) := by omega
          have i1 : (k : Int) < (xs.length : Int) := by omega
          have i2 : ((k : Int)).toNat = k := by omega
          have HLT := Lib.hid hlt
          have HM : Hid (xs.length - ((k : Int) + 1).toNat < xs.length - ((k : Int)).toNat) := Lib.hid (by omega)
          have HHK := Lib.hid (fun hf => fstN_hit (f := rngAt xs g.es.length) hlt hf)
          have HPK := Lib.hid (fun hf => fstN_pass (f := rngAt xs g.es.length) hlt hf)
          have HR6 := Lib.hid (fun h => rng_hit (l := xs) (n := g.es.length) (k := k) h)
          have HR0 := Lib.hid (fun h => rng_pass (l := xs) (n := g.es.length) (k := k) h)
          have HI := Lib.hid (isIndex_any (xs.getD k 0) g.es.length wr)
          clear hc hlt
          generalize xs.getD k 0 = y at *
          generalize idxB y g.es.length = z at *
          cases z
          case false =>
            have h6 := HR6.out rfl
            have HE := Lib.hid (show e2 = 6 by rw [HRR.out, HHK.out (by rw [h6]; omega), h6])
            have HEC := Lib.hid (HEC32.out HE.out)
            clear h6 HR6 HR0 HHK HPK
            go_wp2_with fail
            refine HI.out.mono ?_
            rintro e w9 ⟨rfl, rfl⟩
            go_wp2_with fail
            go_ret
            exact ⟨ret_int (by rw [HEC.out]; rfl), HS.out.1⟩
          case true =>
            have h0 := HR0.out rfl
            have HE := Lib.hid (show e2 = fstN (rngAt xs g.es.length) (k + 1) (xs.length - (k + 1)) by rw [HRR.out, HPK.out h0])
            clear h0 HR6 HR0 HHK HPK
            go_wp2_with fail
            refine HI.out.mono ?_
            rintro e w9 ⟨rfl, rfl⟩
            go_wp2_with fail
            go_roundw
            case rel => exact ⟨k + 1, HLT.out, by go_num, HS.out, HE.out⟩
            case measure => exact HM.out
        · have e : k = xs.length := by omega
          subst e
          have HZE := Lib.hid (show e2 = 0 by rw [HRR.out, fstN_end (Nat.le_refl _)])
          clear HRR
          have HCE := Lib.hid (HC0.out HZV.out HZE.out)
          go_wp2_with fail
          go_ret
          exact ⟨ret_int (by rw [HCE.out]; rfl), HS.out.1⟩

set_option maxRecDepth 100000 in
set_option maxHeartbeats 4000000 in
theorem closeG_any : CloseC 17 := by
  intro g vs xs An cn Ae ce A a B b w hg hA hB la lb
  have hS0 : SR w [(.slice An g.ns.length cn, .slice Ae g.es.length ce, 25), (.slice none 0 0, .slice none 0 0, 27)] ((w.alloc (.cells #[.slice An g.ns.length cn, .slice Ae g.es.length ce] 25)).alloc (.cells #[.slice none 0 0, .slice none 0 0] 27)) := SR.push (SR.push (SR.nil w) rfl _ _ _) (by simp) _ _ _
  have HK := Lib.hid (fun (u : World) (hu : Below w.heap.size w u) => checkElG_any g vs xs An cn Ae ce A a B b u (hg.up hu) (Reads.up hA hu) (Reads.up hB hu) (by omega) (by omega))
  have HCL := Lib.hid (fun (u : World) (hu : Below w.heap.size w u) => cloneI_any vs A u.heap.size a u (by omega) (Reads.up hA hu))
  have HXX := Lib.hid (fun (u : World) (hu : Below w.heap.size w u) => Reads.below hB hu)
  have HXR := Lib.hid (fun (u : World) (hu : Below w.heap.size w u) => Reads.up hB hu)
  have HGE := Lib.hid (fun (u : World) (hu : Below w.heap.size w u) => Reads.below hg.es hu)
  have HZ : Hid (closeE g vs xs = 0 → ∀ x ∈ xs, 0 ≤ x ∧ x < g.es.length) := Lib.hid fun h => (close_zero.1 h).2.2
  have HI : Hid (closeP g vs xs = if closeE g vs xs = 0 then leastP g (inB vs) (inB xs) else noM) := Lib.hid rfl
  have HRX : Hid (closeE g vs xs = 0 → leastP g (inB vs) (inB xs) = ⟨dis (vs ++ endsOf g xs xs.length), dis xs⟩) := Lib.hid fun h => by
    obtain ⟨h1, h2, h3⟩ := close_zero.1 h
    exact (close_is h1 h2 h3).symm
  have HD2 := Lib.hid (fun (u : World) (hu : Below w.heap.size w u) => distinctG_any xs B b u (by omega) (Reads.up hB hu))
  have HEL := Lib.hid (fun k => ends_len g xs k)
  have HES := Lib.hid (fun k => ends_succ g xs k)
  have HE0 : Hid (vs = vs ++ endsOf g xs 0) := Lib.hid (List.append_nil vs).symm
  have HS0 := Lib.hid hS0
  have HLV := Lib.hid la
  have HLX := Lib.hid lb
  clear hS0 hg hA hB
  generalize closeP g vs xs = R at *
  generalize closeE g vs xs = E at *
  refine givesM ?_
  go_enter Tryz.func17, Tryz.ntmps17
  obtain ⟨c0, c1⟩ := HS0.out.cell (i := 0) rfl
  simp only [Nat.add_zero] at c0 c1
  go_wp2_with fail
  refine (HK.out _ HS0.out.1).mono ?_
  rintro e w1 ⟨rfl, hb1⟩
  have HS1 := Lib.hid (HS0.out.up hb1)
  clear hb1 HS0 HK c0 c1
  by_cases h1 : E = 0
  case neg =>
    have HR := Lib.hid (show R = noM by rw [HI.out, if_neg h1])
    have t1 : ((E : Int) != 0) = true := by simp; omega
    obtain ⟨c2, c3⟩ := HS1.out.cell (i := 1) rfl
    have fr0 := HS1.out.free (i := 1) rfl 0
    have fr1 := HS1.out.free (i := 1) rfl 1
    clear h1
    go_wp2_with fail
    have hS2 := HS1.out.set (i := 1) rfl (.slice none 0 0) (.slice none 0 0)
    obtain ⟨r0, r1⟩ := hS2.cell (i := 1) rfl
    refine bodyPost_ret (v := .tuple #[gval none 0 0 none 0 0, .int .i64 ((E : Nat))]) (by simp [results, Tryz.results17, go_sem, r0, r1]) rfl ?_
    exact ⟨⟨_, rfl, by rw [HR.out]; exact isM_nil _⟩, hS2.1⟩
  have HEE := Lib.hid h1
  have HR := Lib.hid (show R = ⟨dis (vs ++ endsOf g xs xs.length), dis xs⟩ by rw [HI.out, if_pos h1, HRX.out h1])
  have HZ2 := Lib.hid (HZ.out h1)
  have t1 : ((E : Int) != 0) = false := by simp; omega
  clear h1 HI HRX HZ
  go_wp2_with fail
  refine (HCL.out _ HS1.out.1).mono ?_
  rintro e w2 ⟨v2, rfl, ho2, hb2⟩
  have HS2 := Lib.hid (HS1.out.up hb2)
  have HB0 : Hid (w.heap.size + 2 ≤ w1.heap.size) := Lib.hid (heap_lt (HS1.out.2 1 _ rfl))
  have HO2 := Lib.hid (OwnE.cast HE0.out ho2)
  have HSZ2 := Lib.hid hb2.size
  generalize w1.heap.size = B0 at *
  obtain ⟨ao, cap, rfl⟩ := OwnE.slice ho2
  clear ho2 hb2 HS1 HCL t1 HE0
  go_wp2_with fail
  go_loopw [9, 24] (fun v x wr => ∃ k : Nat, k ≤ xs.length ∧ x = .int .i64 (k : Int) ∧ OwnI wr B0 v (vs ++ endsOf g xs k) ∧ SR w [(.slice An g.ns.length cn, .slice Ae g.es.length ce, 25), (.slice none 0 0, .slice none 0 0, 27)] wr ∧ B0 ≤ wr.heap.size) (fun _ x _ => xs.length - (intOf x).toNat)
  case atStart => exact ⟨0, Nat.zero_le _, rfl, HO2.out, HS2.out, HSZ2.out⟩
  case round =>
    clear HO2 HS2 HSZ2
    obtain ⟨k, hk, rfl, hown, hsr, hsz⟩ := hrel
    have HW := Lib.hid hown
    have HS := Lib.hid hsr
    have HSZ := Lib.hid hsz
    have hl9 : (vs ++ endsOf g xs k).length ≤ 1000 := by
      rw [List.length_append, HEL.out]
      have := HLV.out
      have := HLX.out
      omega
    have HL9 := Lib.hid hl9
    by_cases hlt : k < xs.length
    · obtain ⟨ao, cap, rfl⟩ := OwnE.slice hown
      clear hown hsr hsz hl9
      obtain ⟨b, off, hBe, hb, hc⟩ := Ints.cells (HXX.out _ HS.out.1) hlt
      have ck := hc k hlt
      have hx := HZ2.out _ (getD_mem (d := (0 : Int)) hlt)
      obtain ⟨q, hq⟩ : ∃ q : Nat, xs.getD k 0 = (q : Int) := ⟨(xs.getD k 0).toNat, by omega⟩
      have HESK := Lib.hid (HES.out k)
      rw [hq] at ck hx HESK
      rw [Int.toNat_natCast] at HESK
      have hqk : q < g.es.length := by omega
      obtain ⟨b2, off2, hAe, hb2, hd⟩ := Eds.cells (HGE.out _ HS.out.1) hqk
      obtain ⟨d0, d1, d2⟩ := hd q hqk
      obtain ⟨c0, c1⟩ := HS.out.cell (i := 0) rfl
      simp only [Nat.add_zero] at c0 c1
      subst hBe hAe
      have i0 : (0 : Int) ≤ (k : Int) := by omega
      have i1 : (k : Int) < (xs.length : Int) := by omega
      have i2 : ((k : Int)).toNat = k := by omega
      have j0 : (0 : Int) ≤ (q : Int) := by omega
      have j1 : (q : Int) < (g.es.length : Int) := by omega
      have j2 : ((q : Int)).toNat = q := by omega
      have HLT := Lib.hid hlt
      have HM : Hid (xs.length - ((k : Int) + 1).toNat < xs.length - ((k : Int)).toNat) := Lib.hid (by omega)
      generalize g.es.getD q default = y at *
      obtain ⟨ty, fr, tt⟩ := y
      dsimp only at d0 d1 d2 HESK
      have HAP : Hid ((vs ++ endsOf g xs k) ++ [fr, tt] = vs ++ endsOf g xs (k + 1)) := Lib.hid (by rw [HESK.out, List.append_assoc])
      generalize vs ++ endsOf g xs k = rows at *
      clear hc hd hx hq hlt hqk d0 HESK
      go_wp2_with fail
      have HMM : Hid (∀ u, Below w.heap.size wr.drew u → u.cell? ⟨w.heap.size, 1, none⟩ = some (.slice (some ⟨b2, off2, none⟩) g.es.length ce) → (fun u : World => u.cell? ⟨w.heap.size, 1, none⟩ = some (.slice (some ⟨b2, off2, none⟩) g.es.length ce) ∧ u.cell? ⟨b2, off2 + q * 3 + 1, none⟩ = some (.int .i64 fr) ∧ u.cell? ⟨b2, off2 + q * 3 + 2, none⟩ = some (.int .i64 tt)) u) := Lib.hid fun u hu hcell => ⟨hcell, (hu.cell (p := ⟨b2, off2 + q * 3 + 1, none⟩) hb2).trans d1, (hu.cell (p := ⟨b2, off2 + q * 3 + 2, none⟩) hb2).trans d2⟩
      have HSD := Lib.hid (HS.out.up (below_d wr))
      have HWD : Hid (OwnI wr.drew B0 (.slice ao rows.length cap) rows) := Lib.hid HW.out
      have HSZD : Hid (B0 ≤ wr.drew.heap.size) := Lib.hid HSZ.out
      clear c0 c1 ck d1 d2 HS HW HSZ
      refine wp_region_noPanic ?_
      refine wp_region_held_drew (S := (fun u : World => u.cell? ⟨w.heap.size, 1, none⟩ = some (.slice (some ⟨b2, off2, none⟩) g.es.length ce) ∧ u.cell? ⟨b2, off2 + q * 3 + 1, none⟩ = some (.int .i64 fr) ∧ u.cell? ⟨b2, off2 + q * 3 + 2, none⟩ = some (.int .i64 tt))) (by kernel_rfl) (HMM.out _ (Below.refl _ _) (HSD.out.cell (i := 0) rfl).2) (fun hHeld => ?_)
      generalize wr.drew = wd at *
      refine wpAnyH_take (i := 0) (v := ?_) (oper_at (r := _) rfl) (by kernel_rfl) (by kernel_rfl) (by kernel_rfl) (fun _ _ _ h => h) (Or.inl ⟨by rfl, ?_⟩) (by assumption) ?_
      rotate_left
      · intro w hSw; try dsimp only at hSw
        go_simp
        try with_reducible rfl
      try simp only [Act.put, List.setIfInBounds_toArray, List.set_cons_zero, List.set_cons_succ]
      refine wpAnyH_take (i := 1) (v := ?_) (oper_at (r := _) rfl) (by kernel_rfl) (by kernel_rfl) (by kernel_rfl) (fun _ _ _ h => h) (Or.inl ⟨by rfl, ?_⟩) (by assumption) ?_
      rotate_left
      · intro w hSw; try dsimp only at hSw
        go_simp
        try with_reducible rfl
      try simp only [Act.put, List.setIfInBounds_toArray, List.set_cons_zero, List.set_cons_succ]
      refine wpAnyH_take (i := 2) (v := ?_) (oper_at (r := _) rfl) (by kernel_rfl) (by kernel_rfl) (by kernel_rfl) (fun _ _ _ h => h) (Or.inl ⟨by rfl, ?_⟩) (by assumption) ?_
      rotate_left
      · intro w hSw; try dsimp only at hSw
        go_simp
        try with_reducible rfl
      try simp only [Act.put, List.setIfInBounds_toArray, List.set_cons_zero, List.set_cons_succ]
      refine wpAnyH_take (i := 3) (v := ?_) (oper_at (r := _) rfl) (by kernel_rfl) (by kernel_rfl) (by kernel_rfl) (fun _ _ _ h => h) (Or.inl ⟨by rfl, ?_⟩) (by assumption) ?_
      rotate_left
      · intro w hSw; try dsimp only at hSw
        go_simp
        try with_reducible rfl
      try simp only [Act.put, List.setIfInBounds_toArray, List.set_cons_zero, List.set_cons_succ]
      refine wpAnyH_take (i := 4) (v := ?_) (oper_at (r := _) rfl) (by kernel_rfl) (by kernel_rfl) (by kernel_rfl) (fun _ _ _ h => h) (Or.inl ⟨by rfl, ?_⟩) (by assumption) ?_
      rotate_left
      · intro w hSw; try dsimp only at hSw
        go_simp
        try with_reducible rfl
      try simp only [Act.put, List.setIfInBounds_toArray, List.set_cons_zero, List.set_cons_succ]
      refine wpAnyH_take (i := 5) (v := ?_) (oper_at (r := _) rfl) (by kernel_rfl) (by kernel_rfl) (by kernel_rfl) (fun _ _ _ h => h) (Or.inl ⟨by rfl, ?_⟩) (by assumption) ?_
      rotate_left
      · intro w hSw; try dsimp only at hSw
        go_simp
        try with_reducible rfl
      try simp only [Act.put, List.setIfInBounds_toArray, List.set_cons_zero, List.set_cons_succ]
      refine wpAnyH_take (i := 6) (v := ?_) (oper_at (r := _) rfl) (by kernel_rfl) (by kernel_rfl) (by kernel_rfl) (fun _ _ _ h => h) (Or.inl ⟨by rfl, ?_⟩) (by assumption) ?_
      rotate_left
      · intro w hSw; try dsimp only at hSw
        go_simp
        try with_reducible rfl
      try simp only [Act.put, List.setIfInBounds_toArray, List.set_cons_zero, List.set_cons_succ]
      refine wpAnyH_take (i := 7) (v := ?_) (oper_at (r := _) rfl) (by kernel_rfl) (by kernel_rfl) (by kernel_rfl) (fun _ _ _ h => h) (Or.inl ⟨by rfl, ?_⟩) (by assumption) ?_
      rotate_left
      · intro w hSw; try dsimp only at hSw
        go_simp
        try with_reducible rfl
      try simp only [Act.put, List.setIfInBounds_toArray, List.set_cons_zero, List.set_cons_succ]
      refine wpAnyH_take (i := 8) (v := ?_) (oper_at (r := _) rfl) (by kernel_rfl) (by kernel_rfl) (by kernel_rfl) (fun _ _ _ h => h) (Or.inl ⟨by rfl, ?_⟩) (by assumption) ?_
      rotate_left
      · intro w hSw; try dsimp only at hSw
        go_simp
        try with_reducible rfl
      try simp only [Act.put, List.setIfInBounds_toArray, List.set_cons_zero, List.set_cons_succ]
      refine wpAnyH_take (i := 9) (v := ?_) (oper_at (r := _) rfl) (by kernel_rfl) (by kernel_rfl) (by kernel_rfl) (fun _ _ _ h => h) (Or.inl ⟨by rfl, ?_⟩) (by assumption) ?_
      rotate_left
      · intro w hSw; try dsimp only at hSw
        go_simp
        try with_reducible rfl
      try simp only [Act.put, List.setIfInBounds_toArray, List.set_cons_zero, List.set_cons_succ]
      refine wpAnyH_take (i := 10) (v := ?_) (oper_at (r := _) rfl) (by kernel_rfl) (by kernel_rfl) (by kernel_rfl) (fun _ _ _ h => h) (Or.inl ⟨by rfl, ?_⟩) (by assumption) ?_
      rotate_left
      · intro w hSw; try dsimp only at hSw
        go_simp
        try with_reducible rfl
      try simp only [Act.put, List.setIfInBounds_toArray, List.set_cons_zero, List.set_cons_succ]
      refine wpAnyH_take (i := 11) (v := ?_) (oper_at (r := _) rfl) (by kernel_rfl) (by kernel_rfl) (by kernel_rfl) (fun _ _ _ h => h) (Or.inl ⟨by rfl, ?_⟩) (by assumption) ?_
      rotate_left
      · intro w hSw; try dsimp only at hSw
        go_simp
        try with_reducible rfl
      try simp only [Act.put, List.setIfInBounds_toArray, List.set_cons_zero, List.set_cons_succ]
      refine wpAnyH_take (i := 12) (v := ?_) (oper_at (r := _) rfl) (by kernel_rfl) (by kernel_rfl) (by kernel_rfl) (fun _ _ _ h => h) (Or.inl ⟨by rfl, ?_⟩) (by assumption) ?_
      rotate_left
      · intro w hSw; try dsimp only at hSw
        go_simp
        try with_reducible rfl
      try simp only [Act.put, List.setIfInBounds_toArray, List.set_cons_zero, List.set_cons_succ]
      refine wpAnyH_ready (rs := [13]) (by kernel_rfl) (by simp) ?_
      refine AllReadyH.cons (oper_at (r := _) rfl) (fun K hK => ?_) AllReadyH.nil
      have hba : Below wd.heap.size wd (wd.alloc (.cells #[.int .i64 fr, .int .i64 tt] 3)) := (Below.refl _ _).alloc (Nat.le_refl _) _
      have HBA := Lib.hid hba
      have HSA := Lib.hid (HSD.out.up hba)
      have HWA := Lib.hid (HWD.out.alloc (.cells #[.int .i64 fr, .int .i64 tt] 3))
      have HRA := Lib.hid (two_cells (w := wd) (a := fr) (b := tt))
      have HSZA : Hid (B0 ≤ (wd.alloc (.cells #[.int .i64 fr, .int .i64 tt] 3)).heap.size) := Lib.hid (Nat.le_trans HSZD.out hba.size)
      clear hba
      go_simp
      refine hK.out _ _ (HMM.out _ (HBA.out.mono (Nat.le_trans (by have := HB0.out; omega) HSZD.out)) (HSA.out.cell (i := 0) rfl).2) (fun _ => ?_)
      clear hK K
      try simp only [Act.put, List.setIfInBounds_toArray, List.set_cons_zero, List.set_cons_succ]
      generalize wd.alloc (.cells #[.int .i64 fr, .int .i64 tt] 3) = wa at *
      generalize wd.heap.size = gz at *
      refine wpAnyH_ready (rs := [14]) (by kernel_rfl) (by simp) ?_
      refine AllReadyH.cons (oper_at (r := _) rfl) (fun K hK => ?_) AllReadyH.nil
      refine step_append_many (E := EInt) (by rfl) _ _ 22 3 (by rfl) Tryz.underlying22 infoInt rfl (by decide) (by decide) B0 (.slice ao rows.length cap) rows (by rfl) HWA.out (some ⟨gz, 0, none⟩) 2 2 wa.heap.size [fr, tt] (by rfl) rfl HRA.out (by have := HL9.out; omega) (by omega) HSZA.out ?_
      intro v5 w5 ho hgr hb5 _
      have HS5 := Lib.hid (SR.low HSA.out HB0.out hb5)
      have HW5 := Lib.hid (OwnE.cast HAP.out ho)
      have HSZ5 := Lib.hid (Nat.le_trans HSZA.out hb5.size)
      have HBW5 := Lib.hid ((HBA.out.mono (Nat.le_trans (by have := HB0.out; omega) HSZD.out)).trans (hb5.mono (by have := HB0.out; omega)) : Below w.heap.size wd w5)
      clear ho hgr hb5
      refine hK.out _ _ (HMM.out _ HBW5.out (HS5.out.cell (i := 0) rfl).2) (fun _ => ?_)
      clear hK K
      try simp only [Act.put, List.setIfInBounds_toArray, List.set_cons_zero, List.set_cons_succ]
      refine wpAnyH_take (i := 15) (v := ?_) (oper_at (r := _) rfl) (by kernel_rfl) (by kernel_rfl) (by kernel_rfl) (fun _ _ _ h => h) (Or.inl ⟨by rfl, ?_⟩) (by assumption) ?_
      rotate_left
      · intro w hSw; try dsimp only at hSw
        go_simp
        try with_reducible rfl
      try simp only [Act.put, List.setIfInBounds_toArray, List.set_cons_zero, List.set_cons_succ]
      refine wpAnyH_done (by kernel_rfl) ?_ _
      refine NoPanic.normal ?_
      go_wp2_with fail
      go_roundw
      case rel => exact ⟨k + 1, HLT.out, by go_num, HW5.out, HS5.out, HSZ5.out⟩
      case measure => exact HM.out
    · have e : k = xs.length := by omega
      subst e
      clear hown hsr hsz hl9
      generalize hrw : vs ++ endsOf g xs xs.length = rows at *
      clear hrw
      obtain ⟨X, x, rfl, hrd⟩ := OwnE.reads HW.out
      have HD1 := Lib.hid (distinctG_any rows X x wr HL9.out hrd)
      clear hrd
      go_wp2_with fail
      refine HD1.out.mono ?_
      rintro e w3 ⟨v3, rfl, ho3, hb3⟩
      have HO3 := Lib.hid ho3
      have HS3 := Lib.hid (HS.out.up hb3)
      obtain ⟨A3, c3, rfl⟩ := OwnE.slice ho3
      have HW3 : Hid (w.heap.size + 1 < wr.heap.size) := Lib.hid (by have := HB0.out; have := HSZ.out; omega)
      have HWL : Hid (wr.heap.size ≤ w3.heap.size) := Lib.hid hb3.size
      clear ho3 hb3 HD1
      go_wp2_with fail
      refine (HD2.out _ HS3.out.1).mono ?_
      rintro e w4 ⟨v4, rfl, ho4, hb4⟩
      have HO4 := Lib.hid ho4
      have HO34 := Lib.hid (OwnE.below HO3.out hb4 (Nat.le_refl _))
      have HS4 := Lib.hid (HS3.out.up hb4)
      obtain ⟨A4, c4, rfl⟩ := OwnE.slice ho4
      clear ho4 hb4 HO3
      obtain ⟨c2, c3'⟩ := HS4.out.cell (i := 1) rfl
      have fr0 := HS4.out.free (i := 1) rfl 0
      have fr1 := HS4.out.free (i := 1) rfl 1
      have HR9 : Hid (R = ⟨Lib.compact (srt rows), Lib.compact (srt xs)⟩) := Lib.hid HR.out
      generalize Lib.compact (srt rows) = M1 at *
      generalize Lib.compact (srt xs) = M2 at *
      go_wp2_with fail
      have HSX := Lib.hid (HS4.out.set (i := 1) rfl (.slice A3 M1.length c3) (.slice A4 M2.length c4))
      obtain ⟨r0, r1⟩ := HSX.out.cell (i := 1) rfl
      refine bodyPost_ret (v := .tuple #[.agg #[.slice A3 M1.length c3, .slice A4 M2.length c4], .int .i64 0]) (by simp [results, Tryz.results17, go_sem, r0, r1]) rfl ?_
      have s1 : OwnI ((w4.setCell ⟨w.heap.size + 1, 0, none⟩ (.slice A3 M1.length c3)).setCell ⟨w.heap.size + 1, 1, none⟩ (.slice A4 M2.length c4)) _ _ _ := ownsRow_setCell_below (ownsRow_setCell_below HO34.out (by show w.heap.size + 1 < wr.heap.size; exact HW3.out) _) (by show w.heap.size + 1 < wr.heap.size; exact HW3.out) _
      have s2 : OwnI ((w4.setCell ⟨w.heap.size + 1, 0, none⟩ (.slice A3 M1.length c3)).setCell ⟨w.heap.size + 1, 1, none⟩ (.slice A4 M2.length c4)) _ _ _ := ownsRow_setCell_below (ownsRow_setCell_below HO4.out (by show w.heap.size + 1 < w3.heap.size; exact Nat.lt_of_lt_of_le HW3.out HWL.out) _) (by show w.heap.size + 1 < w3.heap.size; exact Nat.lt_of_lt_of_le HW3.out HWL.out) _
      exact ⟨⟨.agg #[.slice A3 M1.length c3, .slice A4 M2.length c4], by rw [HEE.out]; rfl, by rw [HR9.out]; exact isM_of (g := ⟨M1, M2⟩) (isI_own s1) (isI_own s2)⟩, HSX.out.1⟩

end Go.Proofs.YthnhacncnhknnaaGreatDoor

/-
  Graphs, the program: checkRemove.
-/
namespace Go.Proofs.YthnhacncnhknnaaGreatDoor
open Go.RowKit

theorem dang_and (g : Gr) (vs xs : List Int) (i : Nat) : dangAt g vs xs i = if (!decide ((i : Int) ∈ xs)) && (decide ((g.es.getD i default).fr ∈ vs) || decide ((g.es.getD i default).tq ∈ vs)) then 14 else 0 := rfl

set_option maxRecDepth 100000 in
set_option maxHeartbeats 4000000 in
theorem checkRemove_any (g : Gr) (vs xs : List Int) (An : Option Addr) (cn : Nat) (Ae : Option Addr) (ce : Nat) (Av Ax : Option Addr) (cv cx : Nat) (w : World) (hT : GrAt w An cn Ae ce g) (hl1 : vs.length ≤ 1000) (hl2 : xs.length ≤ 1000) (hV : Ints w w.heap.size Av vs) (hX : Ints w w.heap.size Ax xs) :
    Calls Tryz.prog 46 #[gval An g.ns.length cn Ae g.es.length ce, .slice Av vs.length cv, .slice Ax xs.length cx] w fun e w' => e = .returned (.int .i64 (remE g vs xs)) ∧ Below w.heap.size w w' := by
  have he1 := hT.ce
  unfold maxLen at he1
  have HV := Lib.hid (validP_any g An cn Ae ce _ (hT.up (below_a w (.cells #[.slice An g.ns.length cn, .slice Ae g.es.length ce] 25 (0, 0)))))
  have HA1 := Lib.hid (fun u (hu : Below w.heap.size w u) => ascP_any vs g.ns.length Av w.heap.size cv u (by unfold maxLen; omega) (Reads.below hV hu))
  have HA2 := Lib.hid (fun u (hu : Below w.heap.size w u) => ascP_any xs g.es.length Ax w.heap.size cx u (by unfold maxLen; omega) (Reads.below hX hu))
  have HC1 := Lib.hid (fun y u (hu : Below w.heap.size w u) => contains_any vs y Av w.heap.size cv u (by unfold maxLen; omega) (Reads.below hV hu))
  have HC2 := Lib.hid (fun y u (hu : Below w.heap.size w u) => contains_any xs y Ax w.heap.size cx u (by unfold maxLen; omega) (Reads.below hX hu))
  have HE := Lib.hid hT.es
  have HR0 : Hid (remE g vs xs = if validE g ≠ 0 then validE g else if ascE vs g.ns.length ≠ 0 then ascE vs g.ns.length else if ascE xs g.es.length ≠ 0 then ascE xs g.es.length else fstN (dangAt g vs xs) 0 (g.es.length - 0)) := Lib.hid rfl
  have HD := Lib.hid (dang_and g vs xs)
  have HHIT := Lib.hid (fun k (h : k < g.es.length) hf => fstN_hit (f := dangAt g vs xs) h hf)
  have HPASS := Lib.hid (fun k (h : k < g.es.length) hf => fstN_pass (f := dangAt g vs xs) h hf)
  have HEND := Lib.hid (fun k (h : g.es.length ≤ k) => fstN_end (f := dangAt g vs xs) h)
  clear hT hV hX
  generalize remE g vs xs = R at HR0 ⊢
  generalize validE g = v at HV HR0
  generalize ascE vs g.ns.length = a1 at HA1 HR0
  generalize ascE xs g.es.length = a2 at HA2 HR0
  generalize dangAt g vs xs = f at HR0 HD HHIT HPASS HEND
  generalize vs.length = nv at *
  generalize xs.length = nx at *
  generalize hes : g.es = es at *
  clear hes
  generalize hns : g.ns.length = n at *
  clear hns
  go_enter Tryz.func46, Tryz.ntmps46
  go_wp2_with fail
  refine HV.out.mono ?_
  rintro e w1 ⟨rfl, hb1⟩
  have hb1' := below_one' hb1
  obtain ⟨c0, c1⟩ := box_cell hb1'
  have HB := Lib.hid hb1'
  have HBw := Lib.hid (box_below hb1')
  clear hb1 hb1'
  by_cases hv : v = 0
  case neg =>
    have HR := Lib.hid (show R = v by rw [HR0.out, if_pos hv])
    have t1 : ((v : Int) != 0) = true := by simp; omega
    clear hv
    go_wp2_with fail
    go_ret
    exact ⟨ret_int (by rw [HR.out]), HBw.out⟩
  subst hv
  have HR1 := Lib.hid (show R = if a1 ≠ 0 then a1 else if a2 ≠ 0 then a2 else fstN f 0 (es.length - 0) by rw [HR0.out, if_neg (fun h => h rfl)])
  clear HR0 HV
  go_wp2_with fail
  refine (HA1.out _ HBw.out).mono ?_
  rintro e w' ⟨rfl, rfl⟩
  by_cases hv : a1 = 0
  case neg =>
    have HR := Lib.hid (show R = a1 by rw [HR1.out, if_pos hv])
    have t1 : ((a1 : Int) != 0) = true := by simp; omega
    clear hv
    go_wp2_with fail
    go_ret
    exact ⟨ret_int (by rw [HR.out]), HBw.out⟩
  subst hv
  have HR2 := Lib.hid (show R = if a2 ≠ 0 then a2 else fstN f 0 (es.length - 0) by rw [HR1.out, if_neg (fun h => h rfl)])
  clear HR1 HA1
  go_wp2_with fail
  refine (HA2.out _ HBw.out).mono ?_
  rintro e w' ⟨rfl, rfl⟩
  by_cases hv : a2 = 0
  case neg =>
    have HR := Lib.hid (show R = a2 by rw [HR2.out, if_pos hv])
    have t1 : ((a2 : Int) != 0) = true := by simp; omega
    clear hv
    go_wp2_with fail
    go_ret
    exact ⟨ret_int (by rw [HR.out]), HBw.out⟩
  subst hv
  have HR3 := Lib.hid (show R = fstN f 0 (es.length - 0) by rw [HR2.out, if_neg (fun h => h rfl)])
  clear HR2 HA2
  go_wp2_with fail
  go_loopw [37] (fun vi wr => ∃ k : Nat, k ≤ es.length ∧ vi = .int .i64 k ∧ R = fstN f k (es.length - k) ∧ Below (w.heap.size + 1) (w.alloc (.cells #[.slice An n cn, .slice Ae es.length ce] 25 (0, 0))) wr) (fun vi _ => es.length - (intOf vi).toNat)
  case atStart => exact ⟨0, Nat.zero_le _, rfl, HR3.out, HB.out⟩
  case round =>
    clear HB HR3 HBw c0 c1
    obtain ⟨k, hk, rfl, hr, hbel⟩ := hrel
    have HR := Lib.hid hr
    obtain ⟨c0, c1⟩ := box_cell hbel
    have hs0 : w.heap.size < wr.heap.size := by have := hbel.size; simp at this; omega
    have HB := Lib.hid hbel
    have HBw := Lib.hid (box_below hbel)
    clear hr hbel
    by_cases hlt : k < es.length
    case neg =>
      have HZ := Lib.hid (show R = 0 by rw [HR.out, HEND.out k (by omega)])
      go_wp2_with fail
      go_ret
      exact ⟨ret_int (by rw [HZ.out]; rfl), HBw.out⟩
    obtain ⟨b, off, rfl, hb, hc⟩ := Eds.cells (HE.out.below HBw.out) hlt
    obtain ⟨k0, k1, k2⟩ := hc k hlt
    have HDk := Lib.hid (HD.out k)
    have HBa := Lib.hid (HBw.out.trans ((below_a wr (.cells #[.int .i64 (es.getD k default).ty, .int .i64 (es.getD k default).fr, .int .i64 (es.getD k default).tq] 58 (0, 0))).mono HBw.out.size))
    have HB1 := Lib.hid (HB.out.alloc hs0 (.cells #[.int .i64 (es.getD k default).ty, .int .i64 (es.getD k default).fr, .int .i64 (es.getD k default).tq] 58 (0, 0)))
    have hb9 : b < wr.heap.size := by omega
    have H1 := Lib.hid (HC1.out (es.getD k default).fr _ HBa.out)
    have H2 := Lib.hid (HC1.out (es.getD k default).tq _ HBa.out)
    have H3 := Lib.hid (HC2.out (k : Int) _ HBa.out)
    have HHk := Lib.hid (HHIT.out k hlt)
    have HPk := Lib.hid (HPASS.out k hlt)
    clear hc HD HHIT HPASS HBa
    generalize es.getD k default = x at *
    generalize decide (x.fr ∈ vs) = z1 at H1 HDk
    generalize decide (x.tq ∈ vs) = z2 at H2 HDk
    generalize decide ((k : Int) ∈ xs) = z3 at H3 HDk
    cases z1
    case false =>
      go_wp2_with fail
      refine H1.out.mono ?_
      rintro e w' ⟨rfl, rfl⟩
      go_wp2_with fail
      refine H2.out.mono ?_
      rintro e w' ⟨rfl, rfl⟩
      cases z2
      case false =>
        have HN := Lib.hid (show R = fstN f (k + 1) (es.length - (k + 1)) by rw [HR.out, HPk.out (by rw [HDk.out]; cases z3 <;> rfl)])
        go_wp2_with fail
        go_roundw
        case rel => exact ⟨k + 1, by omega, by go_num, HN.out, HB1.out⟩
        case measure => simp [intOf]; omega
      case true =>
        go_wp2_with fail
        refine H3.out.mono ?_
        rintro e w' ⟨rfl, rfl⟩
        cases z3
        case false =>
          have hf : f k = 14 := by rw [HDk.out]; rfl
          have HN := Lib.hid (show R = 14 by rw [HR.out, HHk.out (by omega), hf])
          clear hf
          go_wp2_with fail
          go_ret
          exact ⟨ret_int (by rw [HN.out]; rfl), box_below HB1.out⟩
        case true =>
          have HN := Lib.hid (show R = fstN f (k + 1) (es.length - (k + 1)) by rw [HR.out, HPk.out (by rw [HDk.out]; rfl)])
          go_wp2_with fail
          go_roundw
          case rel => exact ⟨k + 1, by omega, by go_num, HN.out, HB1.out⟩
          case measure => simp [intOf]; omega
    case true =>
      go_wp2_with fail
      refine H1.out.mono ?_
      rintro e w' ⟨rfl, rfl⟩
      go_wp2_with fail
      refine H3.out.mono ?_
      rintro e w' ⟨rfl, rfl⟩
      cases z3
      case false =>
        have hf : f k = 14 := by rw [HDk.out]; rfl
        have HN := Lib.hid (show R = 14 by rw [HR.out, HHk.out (by omega), hf])
        clear hf
        go_wp2_with fail
        go_ret
        exact ⟨ret_int (by rw [HN.out]; rfl), box_below HB1.out⟩
      case true =>
        have HN := Lib.hid (show R = fstN f (k + 1) (es.length - (k + 1)) by rw [HR.out, HPk.out (by rw [HDk.out]; rfl)])
        go_wp2_with fail
        go_roundw
        case rel => exact ⟨k + 1, by omega, by go_num, HN.out, HB1.out⟩
        case measure => simp [intOf]; omega

end Go.Proofs.YthnhacncnhknnaaGreatDoor

/-
  Graphs, the program: Remove.
-/
namespace Go.Proofs.YthnhacncnhknnaaGreatDoor
open Go.RowKit

def RemC (f : FuncId) : Prop := ∀ (g : Gr) (vs xs : List Int) (An : Option Addr) (cn : Nat) (Ae : Option Addr) (ce : Nat) (Av Ax : Option Addr) (cv cx : Nat) (w : World), vs.length ≤ 1000 → xs.length ≤ 1000 → GrAt w An cn Ae ce g → Ints w w.heap.size Av vs → Ints w w.heap.size Ax xs →
  Calls Tryz.prog f #[gval An g.ns.length cn Ae g.es.length ce, .slice Av vs.length cv, .slice Ax xs.length cx] w fun e w' => (∃ v u, e = .returned (.tuple #[v, u, .int .i64 (remE g vs xs : Nat)]) ∧ IsG w' v (remG g vs xs) ∧ IsM w' u (remM g vs xs)) ∧ Below w.heap.size w w'

set_option maxRecDepth 100000 in
set_option maxHeartbeats 8000000 in
theorem remP : RemC 25 := by
  intro g vs xs An cn Ae ce Av Ax cv cx w lv lx hT hV hX
  have hs1 := S2.start w (.slice An g.ns.length cn) (.slice Ae g.es.length ce) (.slice none 0 0) (.slice none 0 0) (.slice none 0 0) (.slice none 0 0) 25 25 30
  have HC := Lib.hid (checkRemove_any g vs xs An cn Ae ce Av Ax cv cx _ (hT.up hs1.be) lv lx (Reads.up hV hs1.be) (Reads.up hX hs1.be))
  have HU := Lib.hid (fun W W' h hb => S2.up (w := w) (u := .slice An g.ns.length cn) (v := .slice Ae g.es.length ce) (t' := 25) (t := 25) (t2 := 30) (W := W) (W' := W') h hb)
  have HUA := Lib.hid (fun W o h => HU.out W (W.alloc o) h (below_a _ _))
  have HUAD := Lib.hid (fun W o h => HU.out W (W.alloc o).drew h (below_ad _ _))
  have HST := Lib.hid (fun W (h : S2 w (.slice An g.ns.length cn) (.slice Ae g.es.length ce) 25 25 30 W) b (hb : w.heap.size + 3 ≤ b) x y => S2.set (p := ⟨b, 1, none⟩) (S2.set (p := ⟨b, 0, none⟩) h hb x) hb y)
  have HZ := Lib.hid (fun h => rem_zero (g := g) (vs := vs) (xs := xs) h)
  have HG : Hid (remG g vs xs = if remE g vs xs = 0 then ⟨remNs g vs g.ns.length, remEs g vs xs g.es.length⟩ else noG) := Lib.hid rfl
  have HM : Hid (remM g vs xs = if remE g vs xs = 0 then ⟨plcs vs g.ns.length, plcs xs g.es.length⟩ else noM) := Lib.hid rfl
  have HT := Lib.hid hT
  have HV := Lib.hid hV
  have HX := Lib.hid hX
  have HS1 := Lib.hid hs1
  clear hT hs1 hV hX
  generalize remG g vs xs = rg at HG ⊢
  generalize remM g vs xs = rm at HM ⊢
  generalize remE g vs xs = R at HC HZ HG HM ⊢
  go_enter Tryz.func25, Tryz.ntmps25
  go_wp2_with fail
  refine HC.out.mono ?_
  rintro e w1 ⟨rfl, hb1⟩
  have HQ1 := Lib.hid (HU.out _ _ HS1.out hb1)
  clear hb1
  obtain ⟨⟨c0, c1⟩, ⟨⟨⟨c2, c3⟩, f2, f3⟩, ⟨c4, c5⟩, f4, f5⟩, _⟩ := HQ1.out
  obtain ⟨z0, z1, z2⟩ := S2.lt HQ1.out
  by_cases hR : R = 0
  case neg =>
    have HG2 := Lib.hid (show rg = noG by rw [HG.out, if_neg hR])
    have HM2 := Lib.hid (show rm = noM by rw [HM.out, if_neg hR])
    have t1 : ((R : Int) != 0) = true := by simp; omega
    clear hR
    go_wp2_with fail
    obtain ⟨hbb, h1, h2⟩ := S2.store HQ1.out (.slice none 0 0) (.slice none 0 0) (.slice none 0 0) (.slice none 0 0)
    obtain ⟨r0, r1⟩ := cell2 h1
    obtain ⟨r2, r3⟩ := cell2 h2
    refine bodyPost_ret (v := .tuple #[gval none 0 0 none 0 0, gval none 0 0 none 0 0, .int .i64 (R : Nat)]) (by simp [results, Tryz.results25, go_sem, r0, r1, r2, r3]) rfl ?_
    exact ⟨⟨_, _, rfl, by rw [HG2.out]; exact isG_nil _, by rw [HM2.out]; exact isM_nil _⟩, hbb⟩
  subst hR
  obtain ⟨hz1, hz2, hz3, _⟩ := HZ.out rfl
  obtain ⟨l1, l2, _⟩ := valid_zero hz1
  obtain ⟨v0, va⟩ := asc_zero hz2
  obtain ⟨x0, xa⟩ := asc_zero hz3
  have HG2 := Lib.hid (show rg = ⟨remNs g vs g.ns.length, remEs g vs xs g.es.length⟩ by rw [HG.out, if_pos rfl])
  have HM2 := Lib.hid (show rm = ⟨plcs vs g.ns.length, plcs xs g.es.length⟩ by rw [HM.out, if_pos rfl])
  have HP1 := Lib.hid (fun W (h : S2 w (.slice An g.ns.length cn) (.slice Ae g.es.length ce) 25 25 30 W) => placesP_any vs g.ns.length Av cv W lv (by omega) va (fun x hx => (v0 x hx).1) (Reads.up HV.out h.be))
  have HP2 := Lib.hid (fun W (h : S2 w (.slice An g.ns.length cn) (.slice Ae g.es.length ce) 25 25 30 W) => placesP_any xs g.es.length Ax cx W lx (by omega) xa (fun x hx => (x0 x hx).1) (Reads.up HX.out h.be))
  have HVA := Lib.hid hz1
  have HV0 := Lib.hid v0
  have HX0 := Lib.hid x0
  have HVV := Lib.hid va
  have HXA := Lib.hid xa
  have HLP1 : Hid ((plcs vs g.ns.length).length = g.ns.length) := Lib.hid (coll_len _ _)
  have HLP2 : Hid ((plcs xs g.es.length).length = g.es.length) := Lib.hid (coll_len _ _)
  have HQ1d := Lib.hid (HU.out _ _ HQ1.out (below_d _))
  clear HC HG HM hz1 hz2 hz3 v0 va x0 xa
  go_upto_region 4 with (fail)
  go_cut [10] (fun u wx => ∃ bm a2 k2 a3 k3, u = .pointer (some ⟨bm, 0, none⟩) ∧ S2 w (.slice An g.ns.length cn) (.slice Ae g.es.length ce) 25 25 30 wx ∧ BoxIs bm (.slice a2 g.ns.length k2) (.slice a3 g.es.length k3) 30 wx ∧ OwnI wx (w.heap.size + 3) (.slice a2 g.ns.length k2) (plcs vs g.ns.length) ∧ OwnI wx (w.heap.size + 3) (.slice a3 g.es.length k3) (plcs xs g.es.length) ∧ w.heap.size + 3 ≤ bm)
  case first =>
    go_wp2_with fail
    go_region_held3 (S2 w (.slice An g.ns.length cn) (.slice Ae g.es.length ce) 25 25 30)
      (first | assumption | exact HQ1d.out | exact HUA.out _ _ (by first | assumption | exact HQ1d.out) | exact HUAD.out _ _ (by first | assumption | exact HQ1.out) | exact HST.out _ (by assumption) _ (by omega) _ _)
      ((first
        | (with_reducible refine (HP1.out _ (by first | assumption | exact HQ1d.out)).mono ?_; rintro e w2 ⟨v2, rfl, ho2, hb2⟩; have hq2 := HU.out _ _ (by first | assumption | exact HQ1d.out) hb2; obtain ⟨hc2, hf2⟩ := bcell hb2; obtain ⟨_, _, hz2⟩ := S2.lt hq2; (try (have hy2 : w1.heap.size < w2.heap.size := by have := hb2.size; simp at this; omega)); obtain ⟨ao2, cap2, e2⟩ := OwnE.slice ho2; rw [HLP1.out] at e2; subst e2)
        | (with_reducible refine (HP2.out _ (by first | assumption | exact HQ1d.out)).mono ?_; rintro e w3 ⟨v3, rfl, ho3, hb3⟩; have hq3 := HU.out _ _ (by first | assumption | exact HQ1d.out) hb3; obtain ⟨hc3, hf3⟩ := bcell hb3; obtain ⟨_, _, hz3⟩ := S2.lt hq3; obtain ⟨ao3, cap3, e3⟩ := OwnE.slice ho3; rw [HLP2.out] at e3; subst e3)))
    · have hbase2 : w.heap.size + 3 ≤ w3.heap.size := by omega
      have HF1 := Lib.hid (ho2.mono (base' := w.heap.size + 3) (by simp; omega))
      have HF2 := Lib.hid (ho3.mono (base' := w.heap.size + 3) (by omega))
      have HF3 := Lib.hid ((HF1.out.below hb3 (Nat.le_refl _)).alloc (.cells #[.slice ao2 g.ns.length cap2, .slice ao3 g.es.length cap3] 30 (0, 0)))
      have HSS := Lib.hid (HUA.out _ (.cells #[.slice ao2 g.ns.length cap2, .slice ao3 g.es.length cap3] 30 (0, 0)) hq3)
      clear hc2 hf2 hc3 hf3 ho2 ho3 hb2 hb3 hq2 hq3
      go_wp2_with fail
      go_meet
      exact ⟨_, _, _, _, _, rfl, HSS.out, heap_alloc_new _ _, HF3.out, HF2.out.alloc _, hbase2⟩
    · have hbase2 : w.heap.size + 3 ≤ w2.heap.size := by omega
      have hB : Blk w2.heap.size 30 w3 := Blk.up ⟨_, _, heap_alloc_new _ _⟩ hb3
      have HF1 := Lib.hid (OwnE.store2 ((ho2.mono (base' := w.heap.size + 3) (by simp; omega)).below ((below_a _ _).trans (hb3.mono (by simp))) (Nat.le_refl _)) hB (by decide) (.slice ao2 g.ns.length cap2) (.slice ao3 g.es.length cap3))
      have HF2 := Lib.hid (OwnE.store2 (ho3.mono (base' := w.heap.size + 3) (by simp; omega)) hB (by decide) (.slice ao2 g.ns.length cap2) (.slice ao3 g.es.length cap3))
      have HF3 := Lib.hid (store2 hB (.slice ao2 g.ns.length cap2) (.slice ao3 g.es.length cap3))
      have HSS := Lib.hid (HST.out _ hq3 w2.heap.size hbase2 (.slice ao2 g.ns.length cap2) (.slice ao3 g.es.length cap3))
      clear hc2 hf2 hc3 hf3 ho2 ho3 hb2 hb3 hq2 hq3 hB
      go_wp2_with fail
      go_meet
      exact ⟨_, _, _, _, _, rfl, HSS.out, HF3.out, HF1.out, HF2.out, hbase2⟩
    · have hbase2 : w.heap.size + 3 ≤ w1.heap.size := by omega
      have hB : Blk w1.heap.size 30 w3 := (Blk.up (Blk.up ⟨_, _, heap_alloc_new w1 _⟩ (below_d _)) hb2).up hb3
      have HF1 := Lib.hid (OwnE.store2 ((ho2.mono (base' := w.heap.size + 3) (by simp; omega)).below hb3 (Nat.le_refl _)) hB (by decide) (.slice ao2 g.ns.length cap2) (.slice ao3 g.es.length cap3))
      have HF2 := Lib.hid (OwnE.store2 (ho3.mono (base' := w.heap.size + 3) (by omega)) hB (by decide) (.slice ao2 g.ns.length cap2) (.slice ao3 g.es.length cap3))
      have HF3 := Lib.hid (store2 hB (.slice ao2 g.ns.length cap2) (.slice ao3 g.es.length cap3))
      have HSS := Lib.hid (HST.out _ hq3 w1.heap.size hbase2 (.slice ao2 g.ns.length cap2) (.slice ao3 g.es.length cap3))
      clear hc2 hf2 hc3 hf3 ho2 ho3 hb2 hb3 hq2 hq3 hB
      go_wp2_with fail
      go_meet
      exact ⟨_, _, _, _, _, rfl, HSS.out, HF3.out, HF1.out, HF2.out, hbase2⟩
  case rest =>
    clear HQ1d HP1 HP2 HQ1 c0 c1 c2 c3 c4 c5 f2 f3 f4 f5 z0 z1 z2
    obtain ⟨bm, a2, k2, a3, k3, rfl, hq, hbm, hm1, hm2, hbb⟩ := hcut
    have hzc := (S2.lt hq).2.2
    have hbmlt := heap_lt hbm
    have HWS := Lib.hid (fun W (h : Below wc.heap.size wc W) => HU.out wc W hq h)
    have HWM := Lib.hid (fun W (h : Below wc.heap.size wc W) => BoxIs.up hbm h)
    have HWN := Lib.hid (fun W (h : Below wc.heap.size wc W) => Reads.below HT.out.ns (HU.out wc W hq h).be)
    have HWE := Lib.hid (fun W (h : Below wc.heap.size wc W) => Reads.below HT.out.es (HU.out wc W hq h).be)
    have HW1 := Lib.hid (fun W (h : Below wc.heap.size wc W) => OwnE.below hm1 h (Nat.le_refl _))
    have HW2 := Lib.hid (fun W (h : Below wc.heap.size wc W) => OwnE.below hm2 h (Nat.le_refl _))
    have HQC := Lib.hid hq
    have HR1 : Hid (∀ W, Below wc.heap.size wc W → ∀ k, k < g.ns.length → ∃ b off, a2 = some ⟨b, off, none⟩ ∧ b < W.heap.size ∧ W.cell? ⟨b, off + k, none⟩ = some (.int .i64 (plc vs k))) := Lib.hid fun W h k hk => by
      obtain ⟨A, c, e, hR⟩ := OwnE.reads (HW1.out W h)
      simp only [Value.slice.injEq] at e
      obtain ⟨rfl, _, _⟩ := e
      obtain ⟨b, off, e1, e2, e3⟩ := Ints.cells hR (k := k) (by rw [HLP1.out]; exact hk)
      refine ⟨b, off, e1, e2, ?_⟩
      rw [e3 k (by rw [HLP1.out]; exact hk)]
      unfold plcs
      rw [coll_getD _ hk]
    have HR2 : Hid (∀ W, Below wc.heap.size wc W → ∀ k, k < g.es.length → ∃ b off, a3 = some ⟨b, off, none⟩ ∧ b < W.heap.size ∧ W.cell? ⟨b, off + k, none⟩ = some (.int .i64 (plc xs k))) := Lib.hid fun W h k hk => by
      obtain ⟨A, c, e, hR⟩ := OwnE.reads (HW2.out W h)
      simp only [Value.slice.injEq] at e
      obtain ⟨rfl, _, _⟩ := e
      obtain ⟨b, off, e1, e2, e3⟩ := Ints.cells hR (k := k) (by rw [HLP2.out]; exact hk)
      refine ⟨b, off, e1, e2, ?_⟩
      rw [e3 k (by rw [HLP2.out]; exact hk)]
      unfold plcs
      rw [coll_getD _ hk]
    have HL0 : Hid (BoxIs wc.heap.size (.slice none 0 0) (.slice none 0 0) 25 (wc.alloc (.cells #[.slice none 0 0, .slice none 0 0] 25 (0, 0)))) := Lib.hid (heap_alloc_new _ _)
    have HLB := Lib.hid (below_a wc (.cells #[.slice none 0 0, .slice none 0 0] 25 (0, 0)))
    have HKI := Lib.hid (fun (k : Nat) (h : (k : Int) ∈ vs) => show plc vs k = -1 ∧ remNs g vs (k + 1) = remNs g vs k from ⟨plc_in h, by simp only [remNs, coll]; rw [if_pos h, List.append_nil]⟩)
    have HKO := Lib.hid (fun (k : Nat) (h : ¬ (k : Int) ∈ vs) => show 0 ≤ plc vs k ∧ remNs g vs k ++ [g.ns.getD k 0] = remNs g vs (k + 1) from ⟨(plc_nonneg HVV.out (fun x hx => (HV0.out x hx).1)).2 h, by simp only [remNs, coll]; rw [if_neg h]⟩)
    have HKL : Hid (∀ k, (remNs g vs k).length ≤ k) := Lib.hid (coll_le fun i => by split <;> simp)
    have HK0 : Hid (remNs g vs 0 = []) := Lib.hid rfl
    obtain ⟨⟨c0, c1⟩, _⟩ := HWS.out _ HLB.out
    clear hq hbm hm1 hm2 HZ
    go_wp2_with fail
    clear c0 c1
    generalize plc vs = f at *
    go_loopw [39] (fun vi wr => ∃ (k : Nat) (vN : Value), k ≤ g.ns.length ∧ vi = .int .i64 k ∧ BoxIs wc.heap.size vN (.slice none 0 0) 25 wr ∧ OwnI wr (wc.heap.size + 1) vN (remNs g vs k) ∧ Below wc.heap.size wc wr) (fun vi _ => g.ns.length - (intOf vi).toNat)
    case atStart => exact ⟨0, _, Nat.zero_le _, rfl, HL0.out, by rw [HK0.out]; exact OwnE.nil _ _ _, HLB.out⟩
    case round =>
      obtain ⟨k, vN, hk, rfl, hbl, hown, hbel⟩ := hrel
      have HBL := Lib.hid hbl
      have HG := Lib.hid hbel
      have hsz := heap_lt hbl
      obtain ⟨ao, cap, rfl⟩ := OwnE.slice hown
      have HO := Lib.hid hown
      clear hbl hown hbel
      obtain ⟨⟨c0, c1⟩, _⟩ := HWS.out _ HG.out
      obtain ⟨m0, m1⟩ := BoxIs.cells (HWM.out _ HG.out)
      obtain ⟨b0, b1⟩ := BoxIs.cells HBL.out
      have bf := BoxIs.free HBL.out 0
      have z0 : w.heap.size < wr.heap.size := by omega
      have z1 : bm < wr.heap.size := by omega
      by_cases hlt : k < g.ns.length
      · obtain ⟨bb, off, rfl, hb, hc⟩ := Ints.cells (HWN.out _ HG.out) hlt
        obtain ⟨b2, off2, rfl, hb2, d0⟩ := HR1.out _ HG.out k hlt
        have k0 := hc k hlt
        have hbb9 : bb < wr.heap.size := by omega
        clear hc
        by_cases hin : (k : Int) ∈ vs
        · obtain ⟨e1, e2⟩ := HKI.out k hin
          have HE2 := Lib.hid e2
          rw [e1] at d0
          clear e1 e2 hin
          go_wp2_with fail
          go_roundw
          case rel => exact ⟨k + 1, _, by omega, by go_num, HBL.out, OwnE.cast HE2.out.symm HO.out, HG.out⟩
          case measure => simp [intOf]; omega
        · obtain ⟨e1, e2⟩ := HKO.out k hin
          have HE2 := Lib.hid e2
          have hle := HKL.out k
          clear e2 hin
          generalize g.ns.getD k 0 = y at k0 HE2
          generalize f k = z at d0 e1
          go_wp2_with (at_builtin; refine wpList_append_int (w := wr.alloc _) rfl _ _ rfl (wc.heap.size + 1) _ (remNs g vs k) rfl ?y1 wr.heap.size 1 y rfl ?y2 ?y3 ?y4 ?_)
          case y1 => exact HO.out.alloc _
          case y2 => exact cell_new _ _ _
          case y3 => omega
          case y4 => simp; omega
          intro v3 w3 ho3 hg3 hb3
          have hgr := Grow.own (HO.out.alloc _) hg3 hb3
          have HB3 := Lib.hid ((BoxIs.up HBL.out (below_a _ _)).grow (by decide) hgr)
          have HG3 := Lib.hid ((HG.out.trans ((below_a _ _).mono (by omega))).trans (hb3.mono (Nat.le_succ _)))
          have ho3' := OwnE.cast HE2.out ho3
          obtain ⟨ao3, cap3, rfl⟩ := OwnE.slice ho3'
          have HO3 := Lib.hid ho3'
          clear ho3 ho3' hg3 hb3 hgr b0 b1 bf
          obtain ⟨b0, b1⟩ := BoxIs.cells HB3.out
          have bf := BoxIs.free HB3.out 0
          go_wp2_with fail
          go_roundw
          case rel => exact ⟨k + 1, _, by omega, by go_num, BoxIs.set0 HB3.out _, OwnE.setBox HO3.out HB3.out (by decide) 0, HG3.out.setCell (p := ⟨wc.heap.size, 0, none⟩) (Nat.le_refl _) _⟩
          case measure => simp [intOf]; omega
      · have e : k = g.ns.length := by omega
        subst e
        obtain ⟨wo, hwo⟩ : ∃ wo, wo = wr := ⟨_, rfl⟩
        subst hwo
        clear HKI HKO HK0 hlt hk
        have HKI := Lib.hid (fun (k : Nat) (h : (k : Int) ∈ xs) => show plc xs k = -1 ∧ remEs g vs xs (k + 1) = remEs g vs xs k from ⟨plc_in h, by simp only [remEs, coll]; rw [if_pos h, List.append_nil]⟩)
        have HKO := Lib.hid (fun (k : Nat) (h : ¬ (k : Int) ∈ xs) => show 0 ≤ plc xs k ∧ remEs g vs xs k ++ [mvd g vs k] = remEs g vs xs (k + 1) from ⟨(plc_nonneg HXA.out (fun x hx => (HX0.out x hx).1)).2 h, by simp only [remEs, coll]; rw [if_neg h]⟩)
        have HKE : Hid (∀ k, (remEs g vs xs k).length ≤ k) := Lib.hid (coll_le fun i => by split <;> simp)
        have HK0 : Hid (remEs g vs xs 0 = []) := Lib.hid rfl
        have HMV := Lib.hid (fun (k : Nat) (hk : k < g.es.length) W (h : Below wc.heap.size wc W) => show Calls Tryz.prog 48 #[edv (g.es.getD k default), .slice a2 g.ns.length k2] W fun e w' => e = .returned (edv (mvd g vs k)) ∧ Below W.heap.size W w' by
          obtain ⟨A, c, e, hR⟩ := OwnE.reads (HW1.out W h)
          rw [HLP1.out] at e
          simp only [Value.slice.injEq] at e
          obtain ⟨rfl, _, rfl⟩ := e
          obtain ⟨⟨f1, f2⟩, f3, f4⟩ := valid_at HVA.out hk
          have := moveEnds_any (g.es.getD k default) (plcs vs g.ns.length) a2 k2 W (by rw [HLP1.out]; exact ⟨f1, f2⟩) (by rw [HLP1.out]; exact ⟨f3, f4⟩) hR
          rw [HLP1.out] at this
          have e1 : (plcs vs g.ns.length).getD (g.es.getD k default).fr.toNat 0 = plc vs (frN g k) := coll_getD _ (by omega) 0
          have e2 : (plcs vs g.ns.length).getD (g.es.getD k default).tq.toNat 0 = plc vs (toN g k) := coll_getD _ (by omega) 0
          rw [e1, e2] at this
          exact this)
        go_wp2_with fail
        clear c0 c1 m0 m1 b0 b1 bf
        generalize plc xs = f2 at *
        go_loopw [60] (fun vi wr => ∃ (k : Nat) (vE : Value), k ≤ g.es.length ∧ vi = .int .i64 k ∧ BoxIs wc.heap.size (.slice ao (remNs g vs g.ns.length).length cap) vE 25 wr ∧ OwnI wr (wc.heap.size + 1) (.slice ao (remNs g vs g.ns.length).length cap) (remNs g vs g.ns.length) ∧ OwnEd wr (wc.heap.size + 1) vE (remEs g vs xs k) ∧ Below wc.heap.size wc wr) (fun vi _ => g.es.length - (intOf vi).toNat)
        case atStart => exact ⟨0, _, Nat.zero_le _, rfl, HBL.out, HO.out, by rw [HK0.out]; exact OwnE.nil _ _ _, HG.out⟩
        case round =>
          clear HBL HO HG z0 z1
          obtain ⟨k, vE, hk, rfl, hbl, hownN, hown, hbel⟩ := hrel
          have HBL := Lib.hid hbl
          have HG := Lib.hid hbel
          have hsz2 := heap_lt hbl
          obtain ⟨aE, capE, rfl⟩ := OwnE.slice hown
          have HO := Lib.hid hown
          have HON := Lib.hid hownN
          clear hbl hown hbel hownN
          obtain ⟨⟨c0, c1⟩, _⟩ := HWS.out _ HG.out
          obtain ⟨m0, m1⟩ := BoxIs.cells (HWM.out _ HG.out)
          obtain ⟨b0, b1⟩ := BoxIs.cells HBL.out
          have bf := BoxIs.free HBL.out 1
          have z0 : w.heap.size < wr.heap.size := by omega
          have z1 : bm < wr.heap.size := by omega
          by_cases hlt : k < g.es.length
          · obtain ⟨bb, off, rfl, hb, hc⟩ := Eds.cells (HWE.out _ HG.out) hlt
            have HGX := Lib.hid (HG.out.trans ((below_a wr (.cells #[.int .i64 (g.es.getD k default).ty, .int .i64 (g.es.getD k default).fr, .int .i64 (g.es.getD k default).tq] 58 (0, 0))).mono (by omega)))
            have HXB : Hid (EdIs wr.heap.size (g.es.getD k default) (wr.alloc (.cells #[.int .i64 (g.es.getD k default).ty, .int .i64 (g.es.getD k default).fr, .int .i64 (g.es.getD k default).tq] 58 (0, 0)))) := Lib.hid (heap_alloc_new _ _)
            have HBX := Lib.hid (BoxIs.up HBL.out (below_a wr (.cells #[.int .i64 (g.es.getD k default).ty, .int .i64 (g.es.getD k default).fr, .int .i64 (g.es.getD k default).tq] 58 (0, 0))))
            have HOX := Lib.hid (HO.out.alloc (.cells #[.int .i64 (g.es.getD k default).ty, .int .i64 (g.es.getD k default).fr, .int .i64 (g.es.getD k default).tq] 58 (0, 0)))
            have HONX := Lib.hid (HON.out.alloc (.cells #[.int .i64 (g.es.getD k default).ty, .int .i64 (g.es.getD k default).fr, .int .i64 (g.es.getD k default).tq] 58 (0, 0)))
            obtain ⟨b2, off2, rfl, hb2, d0⟩ := HR2.out _ HG.out k hlt
            obtain ⟨k0, k1, k2⟩ := hc k hlt
            have hbb9 : bb < wr.heap.size := by omega
            have HMVk := Lib.hid (HMV.out k hlt)
            have hle := HKE.out k
            clear hc
            by_cases hin : (k : Int) ∈ xs
            · obtain ⟨e1, e2⟩ := HKI.out k hin
              have HE2 := Lib.hid e2
              rw [e1] at d0
              clear e1 e2 hin
              generalize g.es.getD k default = x at *
              go_wp2_with fail
              go_roundw
              case rel => exact ⟨k + 1, _, by omega, by go_num, HBX.out, HONX.out, OwnE.cast HE2.out.symm HOX.out, HGX.out⟩
              case measure => simp [intOf]; omega
            · obtain ⟨e1, e2⟩ := HKO.out k hin
              have HE2 := Lib.hid e2
              clear e2 hin
              generalize mvd g vs k = y at HMVk HE2
              generalize f2 k = z at d0 e1
              generalize g.es.getD k default = x at *
              go_wp2_with fail
              have hxs : wr.heap.size < (wr.alloc (.cells #[.int .i64 x.ty, .int .i64 x.fr, .int .i64 x.tq] 58 (0, 0))).heap.size := by simp
              generalize wr.alloc (.cells #[.int .i64 x.ty, .int .i64 x.fr, .int .i64 x.tq] 58 (0, 0)) = wx at *
              generalize wr.heap.size = bx at *
              clear c0 c1 m0 m1 b0 b1 bf d0 k0 k1 k2
              have HFX := Lib.hid (fun W (h : Below wx.heap.size wx W) => And.intro (BoxIs.cells (BoxIs.up HBX.out h)) (And.intro (BoxIs.free (BoxIs.up HBX.out h) 1) (And.intro (BoxIs.cells (HWM.out W (HGX.out.trans (h.mono HGX.out.size)))) (And.intro (cell3 (heap_up h HXB.out)) (show wc.heap.size < W.heap.size ∧ bm < W.heap.size ∧ bx < W.heap.size by have := h.size; omega)))))
              obtain ⟨⟨b0, b1⟩, bf, ⟨m0, m1⟩, ⟨k0, k1, k2⟩, s0, s1, s2⟩ := HFX.out _ (Below.refl _ wx)
              have HGXd := Lib.hid (HGX.out.trans ((below_d wx).mono HGX.out.size))
              go_region_law ((first
                | (refine step_append_G (E := EEd) (by rfl) _ _ 23 58 (by rfl) Tryz.underlying23 infoEd rfl (by decide) (by decide) (wc.heap.size + 1) (.slice aE (remEs g vs xs k).length capE) (remEs g vs xs k) (by rfl) (HOX.out.below (B := wx.heap.size) (by repeat (first | (with_reducible assumption) | (with_reducible refine Below.drew ?_) | (with_reducible refine below_al ?_ _))) (Nat.le_refl _)) ⟨_, 0, none⟩ 1 y (by rfl) (new_ed (heap_alloc_new _ _)) (by omega) (by simp; omega) ?_; intro v4 w4 ho4 hg4; have ho5 := OwnE.cast HE2.out ho4; obtain ⟨a4, c4, rfl⟩ := OwnE.slice ho5; have hb4 := (BoxIs.up HBX.out (by repeat (first | (with_reducible assumption) | (with_reducible refine Below.drew ?_) | (with_reducible refine below_al ?_ _)))).grow (by decide) hg4; have HB4 := Lib.hid hb4; clear hb4; obtain ⟨t6, t7⟩ := BoxIs.cells HB4.out; have tg := BoxIs.free HB4.out 1)
                | (go_simp; (with_reducible refine (HMVk.out _ (HGXd.out)).mono ?_); rintro e w3 ⟨rfl, hb3⟩; have hb3 : Below wx.heap.size wx w3 := (below_d wx).trans hb3; obtain ⟨⟨t0, t1⟩, tf, _, _, s3, s4, s5⟩ := HFX.out _ hb3)))
              all_goals
                have HG4 := Lib.hid (((HGX.out.trans (hb3.mono HGX.out.size)).trans ((below_a _ _).mono (by omega))).trans (hg4.1.mono (Nat.le_succ _)))
                have HN4 := Lib.hid (OwnE.setBox (x := .slice a4 (remEs g vs xs (k + 1)).length c4) (hg4.row (by decide) ((HONX.out.below hb3 (Nat.le_refl _)).alloc _)) HB4.out (by decide) 1)
                have HE4 := Lib.hid (OwnE.setBox (x := .slice a4 (remEs g vs xs (k + 1)).length c4) ho5 HB4.out (by decide) 1)
                have HB5 := Lib.hid (BoxIs.set1 HB4.out (.slice a4 (remEs g vs xs (k + 1)).length c4))
                clear ho4 ho5 hg4 t0 t1 tf t6 t7 tg b0 b1 bf m0 m1 k0 k1 k2 hb3
                go_wp2_with fail
                go_roundw
                case rel => exact ⟨k + 1, _, by omega, by go_num, HB5.out, HN4.out, HE4.out, HG4.out.setCell (p := ⟨wc.heap.size, 1, none⟩) (Nat.le_refl _) _⟩
                case measure => simp [intOf]; omega
          · have e : k = g.es.length := by omega
            subst e
            have HSF := Lib.hid (HWS.out _ HG.out)
            have HMF := Lib.hid (HWM.out _ HG.out)
            obtain ⟨_, ⟨⟨⟨q2, q3⟩, p2, p3⟩, ⟨q4, q5⟩, p4, p5⟩, _⟩ := HSF.out
            obtain ⟨y0, y1, y2⟩ := S2.lt HSF.out
            have HF1 := Lib.hid (HW1.out _ HG.out)
            have HF2 := Lib.hid (HW2.out _ HG.out)
            go_wp2_with fail
            go_region
            all_goals
              go_wp2_with fail
              first
                | (obtain ⟨hbb, h1, h2⟩ := S2.store HSF.out (.slice ao (remNs g vs g.ns.length).length cap) (.slice aE (remEs g vs xs g.es.length).length capE) (.slice a2 g.ns.length k2) (.slice a3 g.es.length k3)
                   obtain ⟨r0, r1⟩ := cell2 h1
                   obtain ⟨r2, r3⟩ := cell2 h2
                   have hi1 := IsI.up (isI_own (OwnE.set4 HON.out (g := w.heap.size + 1) (h := w.heap.size + 2) (by omega) (by omega) (.slice ao (remNs g vs g.ns.length).length cap) (.slice aE (remEs g vs xs g.es.length).length capE) (.slice a2 g.ns.length k2) (.slice a3 g.es.length k3))) (below_d _)
                   have hi2 := IsE.up (isE_own (OwnE.set4 HO.out (g := w.heap.size + 1) (h := w.heap.size + 2) (by omega) (by omega) (.slice ao (remNs g vs g.ns.length).length cap) (.slice aE (remEs g vs xs g.es.length).length capE) (.slice a2 g.ns.length k2) (.slice a3 g.es.length k3))) (below_d _)
                   have hi3 := IsI.up (isI_own (OwnE.set4 HF1.out (g := w.heap.size + 1) (h := w.heap.size + 2) (by omega) (by omega) (.slice ao (remNs g vs g.ns.length).length cap) (.slice aE (remEs g vs xs g.es.length).length capE) (.slice a2 g.ns.length k2) (.slice a3 g.es.length k3))) (below_d _)
                   have hi4 := IsI.up (isI_own (OwnE.set4 HF2.out (g := w.heap.size + 1) (h := w.heap.size + 2) (by omega) (by omega) (.slice ao (remNs g vs g.ns.length).length cap) (.slice aE (remEs g vs xs g.es.length).length capE) (.slice a2 g.ns.length k2) (.slice a3 g.es.length k3))) (below_d _)
                   refine bodyPost_ret (v := .tuple #[gval ao (remNs g vs g.ns.length).length cap aE (remEs g vs xs g.es.length).length capE, gval a2 g.ns.length k2 a3 g.es.length k3, .int .i64 0]) (by simp [results, Tryz.results25, go_sem, r0, r1, r2, r3]) rfl ?_
                   exact ⟨⟨_, _, rfl, by rw [HG2.out]; exact isG_of (g := ⟨remNs g vs g.ns.length, remEs g vs xs g.es.length⟩) hi1 hi2, by rw [HM2.out]; exact isM_of (g := ⟨plcs vs g.ns.length, plcs xs g.es.length⟩) hi3 hi4⟩, Below.drew hbb⟩)

end Go.Proofs.YthnhacncnhknnaaGreatDoor
