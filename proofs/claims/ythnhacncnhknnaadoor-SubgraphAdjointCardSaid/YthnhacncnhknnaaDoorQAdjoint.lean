import Derived.Test.YthnhacncnhknnaaDoorSSbL5
import Derived.Test.YthnhacncnhknnaaDoorZ09
import Derived.Test.YthnhacncnhknnaaDoorZ10
import Derived.Test.YthnhacncnhknnaaDoorZ11
import Derived.Test.YthnhacncnhknnaaDoorSSbP9
import Derived.Test.YthnhacncnhknnaaDoorChecked
import Derived.Test.YthnhacncnhknnaaDoorRows
import Derived.Test.YthnhacncnhknnaaDoorTie
import Derived.Test.YthnhacncnhknnaaDoorCards
import Derived.SizedLaws
/-
  SubgraphAdjoint. Printed by mkl9.py.
-/
namespace Go.Proofs.YthnhacncnhknnaaDoor
open Go.RowKit Go.Shelf

theorem ptAt_set {w : World} {An Ae : Option Addr} {p : Mo} (h : PtAt w An Ae p) {g : Nat} {a a' : Option Addr} {n c n' c' : Nat} {t : TypeId} (hb : BX g (.slice a n c) (.slice a' n' c') t w) (y z : Value) : PtAt ((w.setCell ⟨g, 0, none⟩ y).setCell ⟨g, 1, none⟩ z) An Ae p := ⟨ints_set' h.ns hb y z, ints_set' h.es hb y z, h.ln, h.le⟩
theorem made7P (g : Gr) (set : Nat) (An : Option Addr) (cn : Nat) (Ae : Option Addr) (ce : Nat) (u : World) (h : validE g = 0) (hs : set < 18446744073709551616) (hg : GrAt u An cn Ae ce g) :
    Calls Tryd.prog 17 #[gval An g.ns.length cn Ae g.es.length ce, .int .u64 (set : Int)] u fun e w' => (∃ X x Y y, e = .returned (gval X (madeP g set).ns.length x Y (madeP g set).es.length y) ∧ PtAt w' X Y (madeP g set)) ∧ Below u.heap.size u w' := by
  refine (made7_any g set An cn Ae ce u h hs hg).mono ?_
  rintro e w' ⟨⟨v, rfl, X, x, Y, y, rfl, hm⟩, hb⟩
  have hl := part_len h (made_ok h set)
  exact ⟨⟨X, x, Y, y, rfl, hm.ns, hm.es, hl.1, hl.2⟩, hb⟩
set_option maxRecDepth 100000 in
set_option maxHeartbeats 4000000 in
theorem lawAdjoint7 (hC : CloseC 12) (hB : BndC 35) (hA : AllC 37) (hE : ExtC 31) (hI : ImgC 26) (hP : PreC 28) (x : Aw) (s t : Nat) (w : World) (hT : TabV w) (hx : AwAt w x) (hs : s < 18446744073709551616) (ht : t < 18446744073709551616) :
    Calls Tryd.prog 6 #[x.val, .int .u64 (s : Int), .int .u64 (t : Int)] w fun e w' => e = .returned (.bool true) ∧ Below w.heap.size w w' := by
  obtain ⟨a, b, m, An, cn, Ae, ce, Bn, dn, Be, de, Mn, mn, Me, me⟩ := x
  obtain ⟨ga, gb, m1, m2, l3, l4⟩ := hx
  dsimp only [Aw.val] at *
  have HAW := Lib.hid (fun (u : World) (hu : Below w.heap.size w u) => awake7 hC hB hA u (hT.up hu))
  have HSM := Lib.hid (fun (u : World) (hu : Below w.heap.size w u) => smallA_any ⟨a, b, m, An, cn, Ae, ce, Bn, dn, Be, de, Mn, mn, Me, me⟩ u ⟨ga.up hu, gb.up hu, Reads.up m1 hu, Reads.up m2 hu, l3, l4⟩)
  have HL1 : Hid (smallA ⟨a, b, m, An, cn, Ae, ce, Bn, dn, Be, de, Mn, mn, Me, me⟩ = true → m.ns.length ≤ 1000 ∧ m.es.length ≤ 1000) := Lib.hid fun h => by
    unfold smallA fewM at h
    simp only [Bool.and_eq_true, decide_eq_true_eq] at h
    omega
  have HVL := Lib.hid (fun (h : m.ns.length ≤ 1000 ∧ m.es.length ≤ 1000) (u : World) (hu : Below w.heap.size w u) => validR6_any a b m An cn Ae ce Bn dn Be de Mn mn Me me u (ga.up hu) (gb.up hu) (Reads.up m1 hu) (Reads.up m2 hu) h.1 h.2)
  have HMA := Lib.hid (fun (h : morE a b m = 0) (u : World) (hu : Below w.heap.size w u) => made7P a s An cn Ae ce u (mor_zero.1 h).va hs (ga.up hu))
  have HMB := Lib.hid (fun (h : morE a b m = 0) (u : World) (hu : Below w.heap.size w u) => made7P b t Bn dn Be de u (mor_zero.1 h).vb ht (gb.up hu))
  have HEX : Hid (morE a b m = 0 → ∀ (Tn : Option Addr) (tn : Nat) (Te : Option Addr) (te : Nat) (u : World), Below w.heap.size w u → PtAt u Tn Te (madeP a s) → GivesGM 31 #[gval An a.ns.length cn Ae a.es.length ce, gval Tn (madeP a s).ns.length tn Te (madeP a s).es.length te] 0 (subG a (madeP a s)) (madeP a s) u) := Lib.hid fun hv Tn tn Te te u hu ht => by
    have hva := (mor_zero.1 hv).va
    have h := hE a (madeP a s) An cn Ae ce Tn tn Te te u (ga.up hu) ht
    have e := part_zero.2 ⟨hva, made_ok hva s⟩
    rw [show extG a (madeP a s) = subG a (madeP a s) from if_pos e, show extM a (madeP a s) = madeP a s from if_pos e, e] at h
    exact h
  have HCO : Hid (morE a b m = 0 → (m.ns.length ≤ 1000 ∧ m.es.length ≤ 1000) → ∀ (Sn : Option Addr) (sn : Nat) (Se : Option Addr) (se : Nat) (Tn : Option Addr) (tn : Nat) (Te : Option Addr) (te : Nat) (u : World), Below w.heap.size w u → GrAt u Sn sn Se se (subG a (madeP a s)) → PtAt u Tn Te (madeP a s) → GivesM 32 #[gval Sn (subG a (madeP a s)).ns.length sn Se (subG a (madeP a s)).es.length se, gval An a.ns.length cn Ae a.es.length ce, gval Bn b.ns.length dn Be b.es.length de, gval Tn (madeP a s).ns.length tn Te (madeP a s).es.length te, gval Mn m.ns.length mn Me m.es.length me] 0 (compM (madeP a s) m) u) := Lib.hid fun hv hl Sn sn Se se Tn tn Te te u hu hs9 ht9 => by
    have hk := mor_zero.1 hv
    have hi := incl_ok hk.va (made_ok hk.va s)
    have h := composeR_any (subG a (madeP a s)) a b (madeP a s) m Sn sn Se se An cn Ae ce Bn dn Be de Tn tn Te te Mn mn Me me u hs9 (ga.up hu) (gb.up hu) ht9.ns ht9.es ht9.ln ht9.le (Reads.up m1 hu) (Reads.up m2 hu) hl.1 hl.2
    have e : cmpE (subG a (madeP a s)) a b (madeP a s) m = 0 := by
      unfold cmpE
      rw [if_neg (fun hn => hn (mor_zero.2 hi))]
      exact hv
    rw [show cmpR (subG a (madeP a s)) a b (madeP a s) m = compM (madeP a s) m from if_pos e, e] at h
    exact givesM h
  have HIM : Hid (morE a b m = 0 → ∀ (Sn : Option Addr) (sn : Nat) (Se : Option Addr) (se : Nat) (Tn : Option Addr) (tn : Nat) (Te : Option Addr) (te : Nat) (u : World), Below w.heap.size w u → GrAt u Sn sn Se se (subG a (madeP a s)) → PtAt u Tn Te (compM (madeP a s) m) → GivesM 26 #[gval Sn (subG a (madeP a s)).ns.length sn Se (subG a (madeP a s)).es.length se, gval Bn b.ns.length dn Be b.es.length de, gval Tn (compM (madeP a s) m).ns.length tn Te (compM (madeP a s) m).es.length te] 0 (imgP b (compM (madeP a s) m)) u) := Lib.hid fun hv Sn sn Se se Tn tn Te te u hu hs9 ht9 => by
    have hk := mor_zero.1 hv
    have hc := comp_ok (incl_ok hk.va (made_ok hk.va s)) hk
    have h := hI (subG a (madeP a s)) b (compM (madeP a s) m) Sn sn Se se Bn dn Be de Tn tn Te te u hs9 (gb.up hu) ht9
    have e := mor_zero.2 hc
    rw [show imR (subG a (madeP a s)) b (compM (madeP a s) m) = imgP b (compM (madeP a s) m) from if_pos e, e] at h
    exact h
  have HPR : Hid (morE a b m = 0 → (m.ns.length ≤ 1000 ∧ m.es.length ≤ 1000) → ∀ (Tn : Option Addr) (tn : Nat) (Te : Option Addr) (te : Nat) (u : World), Below w.heap.size w u → PtAt u Tn Te (madeP b t) → GivesM 28 #[gval An a.ns.length cn Ae a.es.length ce, gval Bn b.ns.length dn Be b.es.length de, gval Mn m.ns.length mn Me m.es.length me, gval Tn (madeP b t).ns.length tn Te (madeP b t).es.length te] 0 (preP m (madeP b t)) u) := Lib.hid fun hv hl Tn tn Te te u hu ht9 => by
    have hk := mor_zero.1 hv
    have h := hP a b m (madeP b t) An cn Ae ce Bn dn Be de Mn mn Me me Tn tn Te te u (ga.up hu) (gb.up hu) ⟨Reads.up m1 hu, Reads.up m2 hu, hl.1, hl.2⟩ ht9
    have e : preE a b m (madeP b t) = 0 := by
      unfold preE
      rw [if_neg (fun hn => hn hv)]
      exact right_zero.2 (made_ok hk.vb t)
    rw [show preR a b m (madeP b t) = preP m (madeP b t) from if_pos e, e] at h
    exact h
  have HLE : Hid (morE a b m = 0 → ((compM (madeP a s) m).ns.length ≤ 1000 ∧ (compM (madeP a s) m).es.length ≤ 1000) ∧ ((imgP b (compM (madeP a s) m)).ns.length ≤ 1000 ∧ (imgP b (compM (madeP a s) m)).es.length ≤ 1000) ∧ ((preP m (madeP b t)).ns.length ≤ 1000 ∧ (preP m (madeP b t)).es.length ≤ 1000)) := Lib.hid fun hv => by
    have hk := mor_zero.1 hv
    obtain ⟨v1, v2, _⟩ := valid_zero hk.va
    obtain ⟨v3, v4, _⟩ := valid_zero hk.vb
    have hl := part_len hk.va (made_ok hk.va s)
    have e1 : (compM (madeP a s) m).ns.length = (madeP a s).ns.length := thr_len _ _
    have e2 : (compM (madeP a s) m).es.length = (madeP a s).es.length := thr_len _ _
    have i1 := sel_le (inB (compM (madeP a s) m).ns) b.ns.length
    have i2 := sel_le (inB (compM (madeP a s) m).es) b.es.length
    have j1 : (intoL m.ns (madeP b t).ns).length ≤ m.ns.length := sel_le _ _
    have j2 : (intoL m.es (madeP b t).es).length ≤ m.es.length := sel_le _ _
    have k1 := hk.ln
    have k2 := hk.le
    refine ⟨by omega, ⟨?_, ?_⟩, ⟨?_, ?_⟩⟩
    · exact Nat.le_trans i1 (by omega)
    · exact Nat.le_trans i2 (by omega)
    · exact Nat.le_trans j1 (by omega)
    · exact Nat.le_trans j2 (by omega)
  have HAD : Hid (morE a b m = 0 → inP (imgP b (compM (madeP a s) m)) (madeP b t) = inP (madeP a s) (preP m (madeP b t))) := Lib.hid fun hv => adjoint (mor_zero.1 hv) (made_ok (mor_zero.1 hv).va s)
  have HS0 : Hid (SV w [([.slice An a.ns.length cn, .slice Ae a.es.length ce, .slice Bn b.ns.length dn, .slice Be b.es.length de, .slice Mn m.ns.length mn, .slice Me m.es.length me], 44)] _) := Lib.hid (SV.push (SV.nil w) rfl [.slice An a.ns.length cn, .slice Ae a.es.length ce, .slice Bn b.ns.length dn, .slice Be b.es.length de, .slice Mn m.ns.length mn, .slice Me m.es.length me] 44)
  dsimp only [Aw.val] at HSM
  clear hT hC hB hA hE hI hP ga gb m1 m2 l3 l4 hs ht
  generalize smallA ⟨a, b, m, An, cn, Ae, ce, Bn, dn, Be, de, Mn, mn, Me, me⟩ = s1 at *
  generalize morE a b m = E1 at *
  generalize imgP b (compM (madeP a s) m) = IM at *
  generalize compM (madeP a s) m = CM at *
  generalize preP m (madeP b t) = PR at *
  generalize subG a (madeP a s) = Q at *
  generalize madeP a s = T1 at *
  generalize madeP b t = T2 at *
  go_enter Tryd.func6, Tryd.ntmps6
  go_wp2_with fail
  refine (HAW.out _ HS0.out.1).mono ?_
  rintro e w1 ⟨rfl, hb⟩
  have HS1 := Lib.hid (HS0.out.up hb)
  clear hb HS0
  have c0 := HS1.out.cell (i := 0) (j := 0) rfl rfl
  have c1 := HS1.out.cell (i := 0) (j := 1) rfl rfl
  have c2 := HS1.out.cell (i := 0) (j := 2) rfl rfl
  have c3 := HS1.out.cell (i := 0) (j := 3) rfl rfl
  have c4 := HS1.out.cell (i := 0) (j := 4) rfl rfl
  have c5 := HS1.out.cell (i := 0) (j := 5) rfl rfl
  simp only [Nat.add_zero] at c0 c1 c2 c3 c4 c5
  go_wp2_with fail
  refine (HSM.out _ HS1.out.1).mono ?_
  rintro e w2 ⟨rfl, hb⟩
  have HS2 := Lib.hid (HS1.out.up hb)
  clear hb HS1 HSM c0 c1 c2 c3 c4 c5
  cases s1
  case false =>
    go_wp2_with fail
    refine (HAW.out _ HS2.out.1).mono ?_
    rintro e w9 ⟨rfl, hb9⟩
    go_wp2_with fail
    go_ret
    exact ⟨rfl, HS2.out.1.trans (hb9.mono HS2.out.1.size)⟩
  have HLM := Lib.hid (HL1.out rfl)
  have HVL9 := Lib.hid (HVL.out HLM.out)
  have c0 := HS2.out.cell (i := 0) (j := 0) rfl rfl
  have c1 := HS2.out.cell (i := 0) (j := 1) rfl rfl
  have c2 := HS2.out.cell (i := 0) (j := 2) rfl rfl
  have c3 := HS2.out.cell (i := 0) (j := 3) rfl rfl
  have c4 := HS2.out.cell (i := 0) (j := 4) rfl rfl
  have c5 := HS2.out.cell (i := 0) (j := 5) rfl rfl
  simp only [Nat.add_zero] at c0 c1 c2 c3 c4 c5
  go_wp2_with fail
  refine (HVL9.out _ HS2.out.1).mono ?_
  rintro e w3 ⟨rfl, hb⟩
  have HS3 := Lib.hid (HS2.out.up hb)
  clear hb HS2 HVL HVL9 HL1 c0 c1 c2 c3 c4 c5
  by_cases hE : E1 = 0
  case neg =>
    have t1 : ((E1 : Int) != 0) = true := by simp; omega
    clear hE
    go_wp2_with fail
    refine (HAW.out _ HS3.out.1).mono ?_
    rintro e w9 ⟨rfl, hb9⟩
    go_wp2_with fail
    go_ret
    exact ⟨rfl, HS3.out.1.trans (hb9.mono HS3.out.1.size)⟩
  have HMA9 := Lib.hid (HMA.out hE)
  have HMB9 := Lib.hid (HMB.out hE)
  have HEX9 := Lib.hid (HEX.out hE)
  have HCO9 := Lib.hid (HCO.out hE HLM.out)
  have HIM9 := Lib.hid (HIM.out hE)
  have HPR9 := Lib.hid (HPR.out hE HLM.out)
  obtain ⟨z1, z2, z3⟩ := HLE.out hE
  have HZ1 := Lib.hid z1
  have HZ2 := Lib.hid z2
  have HZ3 := Lib.hid z3
  have HAD9 := Lib.hid (HAD.out hE)
  have t1 : ((E1 : Int) != 0) = false := by simp; omega
  clear hE HMA HMB HEX HCO HIM HPR HLE HAD HAW z1 z2 z3
  go_upto_region 3 with fail
  clear t1
  go_cut [7, 8] (fun u v wc => ∃ g1 g2 X1 x1 Y1 y1 X2 x2 Y2 y2, u = .pointer (some ⟨g1, 0, none⟩) ∧ v = .pointer (some ⟨g2, 0, none⟩) ∧ BX g1 (.slice X1 T1.ns.length x1) (.slice Y1 T1.es.length y1) 27 wc ∧ BX g2 (.slice X2 T2.ns.length x2) (.slice Y2 T2.es.length y2) 27 wc ∧ PtAt wc X1 Y1 T1 ∧ PtAt wc X2 Y2 T2 ∧ SV w [([.slice An a.ns.length cn, .slice Ae a.es.length ce, .slice Bn b.ns.length dn, .slice Be b.es.length de, .slice Mn m.ns.length mn, .slice Me m.es.length me], 44)] wc)
  case first =>
    go_wp2_with fail
    have S_wd := Lib.hid (HS3.out.up (below_d w3))
    clear HS3
    have q0 : w3.drew.cell? ⟨w.heap.size, 0, none⟩ = some (.slice An a.ns.length cn) := S_wd.out.cell (i := 0) (j := 0) rfl rfl
    have q1 : w3.drew.cell? ⟨w.heap.size, 1, none⟩ = some (.slice Ae a.es.length ce) := S_wd.out.cell (i := 0) (j := 1) rfl rfl
    have q2 : w3.drew.cell? ⟨w.heap.size, 2, none⟩ = some (.slice Bn b.ns.length dn) := S_wd.out.cell (i := 0) (j := 2) rfl rfl
    have q3 : w3.drew.cell? ⟨w.heap.size, 3, none⟩ = some (.slice Be b.es.length de) := S_wd.out.cell (i := 0) (j := 3) rfl rfl
    have HM_wd : Hid (∀ u, Below w3.drew.heap.size w3.drew u → (fun u : World => u.cell? ⟨w.heap.size, 0, none⟩ = some (.slice An a.ns.length cn) ∧ u.cell? ⟨w.heap.size, 1, none⟩ = some (.slice Ae a.es.length ce) ∧ u.cell? ⟨w.heap.size, 2, none⟩ = some (.slice Bn b.ns.length dn) ∧ u.cell? ⟨w.heap.size, 3, none⟩ = some (.slice Be b.es.length de)) u) := Lib.hid fun u hb => ⟨cell_up hb q0, cell_up hb q1, cell_up hb q2, cell_up hb q3⟩
    clear q0 q1 q2 q3
    have WD_wd := Lib.hid (Below.refl w3.drew.heap.size w3.drew)
    refine wp_region_noPanic ?_
    refine wp_region_held_drew (S := (fun u : World => u.cell? ⟨w.heap.size, 0, none⟩ = some (.slice An a.ns.length cn) ∧ u.cell? ⟨w.heap.size, 1, none⟩ = some (.slice Ae a.es.length ce) ∧ u.cell? ⟨w.heap.size, 2, none⟩ = some (.slice Bn b.ns.length dn) ∧ u.cell? ⟨w.heap.size, 3, none⟩ = some (.slice Be b.es.length de))) (by kernel_rfl) (HM_wd.out _ WD_wd.out) (fun hHeld => ?_)
    generalize w3.drew = wd at *
    have lsv : w.heap.size + 1 ≤ wd.heap.size := S_wd.out.2.1
    refine wpAnyH_take (i := 0) (v := ?_) (oper_at (r := _) rfl) (by kernel_rfl) (by kernel_rfl) (by kernel_rfl) (fun _ _ _ h => h) (Or.inl ⟨by rfl, ?_⟩) (by assumption) ?_
    rotate_left
    · intro w hSw; try dsimp only at hSw
      go_simp
      try with_reducible rfl
    try simp only [Act.put, List.setIfInBounds_toArray, List.set_cons_zero, List.set_cons_succ]
    refine wpAnyH_take (i := 1) (v := ?_) (oper_at (r := _) rfl) (by kernel_rfl) (by kernel_rfl) (by kernel_rfl) (fun _ _ _ h => h) (Or.inl ⟨by rfl, ?_⟩) (by assumption) ?_
    rotate_left
    · intro w hSw; try dsimp only at hSw
      go_simp
      try with_reducible rfl
    try simp only [Act.put, List.setIfInBounds_toArray, List.set_cons_zero, List.set_cons_succ]
    refine wpAnyH_take (i := 2) (v := ?_) (oper_at (r := _) rfl) (by kernel_rfl) (by kernel_rfl) (by kernel_rfl) (fun _ _ _ h => h) (Or.inl ⟨by rfl, ?_⟩) (by assumption) ?_
    rotate_left
    · intro w hSw; try dsimp only at hSw
      go_simp
      try with_reducible rfl
    try simp only [Act.put, List.setIfInBounds_toArray, List.set_cons_zero, List.set_cons_succ]
    refine wpAnyH_take (i := 4) (v := ?_) (oper_at (r := _) rfl) (by kernel_rfl) (by kernel_rfl) (by kernel_rfl) (fun _ _ _ h => h) (Or.inl ⟨by rfl, ?_⟩) (by assumption) ?_
    rotate_left
    · intro w hSw; try dsimp only at hSw
      go_simp
      try with_reducible rfl
    try simp only [Act.put, List.setIfInBounds_toArray, List.set_cons_zero, List.set_cons_succ]
    refine wpAnyH_take (i := 5) (v := ?_) (oper_at (r := _) rfl) (by kernel_rfl) (by kernel_rfl) (by kernel_rfl) (fun _ _ _ h => h) (Or.inl ⟨by rfl, ?_⟩) (by assumption) ?_
    rotate_left
    · intro w hSw; try dsimp only at hSw
      go_simp
      try with_reducible rfl
    try simp only [Act.put, List.setIfInBounds_toArray, List.set_cons_zero, List.set_cons_succ]
    refine wpAnyH_take (i := 6) (v := ?_) (oper_at (r := _) rfl) (by kernel_rfl) (by kernel_rfl) (by kernel_rfl) (fun _ _ _ h => h) (Or.inl ⟨by rfl, ?_⟩) (by assumption) ?_
    rotate_left
    · intro w hSw; try dsimp only at hSw
      go_simp
      try with_reducible rfl
    try simp only [Act.put, List.setIfInBounds_toArray, List.set_cons_zero, List.set_cons_succ]
    refine wpAnyH_ready (rs := [3, 8, 9]) (by kernel_rfl) (by simp) ?_
    refine (AllReadyH.cons (oper_at (r := _) rfl) (fun K hK => ?_) (AllReadyH.cons (oper_at (r := _) rfl) (fun K hK => ?_) (AllReadyH.cons (oper_at (r := _) rfl) (fun K hK => ?_) AllReadyH.nil)))
    · skip
      go_simp
      refine (HMA9.out _ S_wd.out.1).mono ?_
      rintro e W1 ⟨⟨X1, x1, Y1, y1, rfl, r1⟩, hb⟩
      have S_W1 := Lib.hid (S_wd.out.up hb)
      have WD_W1 := Lib.hid (WD_wd.out.trans (hb.mono WD_wd.out.size))
      clear S_wd WD_wd
      have PA_W1 := Lib.hid r1
      clear hb r1
      go_wp2_with fail
      refine hK.out _ _ (HM_wd.out _ WD_W1.out) (fun _ => ?_)
      clear hK K
      try simp only [Act.put, List.setIfInBounds_toArray, List.set_cons_zero, List.set_cons_succ]
      refine wpAnyH_ready (rs := [7, 8, 9]) (by kernel_rfl) (by simp) ?_
      refine (AllReadyH.cons (oper_at (r := _) rfl) (fun K hK => ?_) (AllReadyH.cons (oper_at (r := _) rfl) (fun K hK => ?_) (AllReadyH.cons (oper_at (r := _) rfl) (fun K hK => ?_) AllReadyH.nil)))
      · skip
        go_simp
        refine (HMB9.out _ S_W1.out.1).mono ?_
        rintro e W2 ⟨⟨X2, x2, Y2, y2, rfl, r1⟩, hb⟩
        have S_W2 := Lib.hid (S_W1.out.up hb)
        have WD_W2 := Lib.hid (WD_W1.out.trans (hb.mono WD_W1.out.size))
        have PA_W2 := Lib.hid (PA_W1.out.up hb)
        clear S_W1 WD_W1 PA_W1
        have PB_W2 := Lib.hid r1
        clear hb r1
        go_wp2_with fail
        refine hK.out _ _ (HM_wd.out _ WD_W2.out) (fun _ => ?_)
        clear hK K
        try simp only [Act.put, List.setIfInBounds_toArray, List.set_cons_zero, List.set_cons_succ]
        refine wpAnyH_ready (rs := [8, 9]) (by kernel_rfl) (by simp) ?_
        refine (AllReadyH.cons (oper_at (r := _) rfl) (fun K hK => ?_) (AllReadyH.cons (oper_at (r := _) rfl) (fun K hK => ?_) AllReadyH.nil))
        · skip
          obtain ⟨gx, hg⟩ : ∃ g, g = W2.heap.size := ⟨_, rfl⟩
          have lgx : wd.heap.size ≤ gx := by rw [hg]; exact WD_W2.out.size
          have hx : BX gx (.slice none 0 0) (.slice none 0 0) 27 (W2.alloc (.cells #[.slice none 0 0, .slice none 0 0] 27)) := by rw [hg]; exact heap_alloc_new _ _
          have hb : Below W2.heap.size W2 (W2.alloc (.cells #[.slice none 0 0, .slice none 0 0] 27)) := (Below.refl _ _).alloc (Nat.le_refl _) _
          have S_W3 := Lib.hid (S_W2.out.up hb)
          have WD_W3 := Lib.hid (WD_W2.out.trans (hb.mono WD_W2.out.size))
          have PA_W3 := Lib.hid (PA_W2.out.up hb)
          have PB_W3 := Lib.hid (PB_W2.out.up hb)
          clear S_W2 WD_W2 PA_W2 PB_W2
          have BA_W3 := Lib.hid hx
          clear hx hb
          go_simp
          refine hK.out _ _ (HM_wd.out _ WD_W3.out) (fun _ => ?_)
          clear hK K
          try simp only [Act.put, List.setIfInBounds_toArray, List.set_cons_zero, List.set_cons_succ]
          generalize W2.alloc (.cells #[.slice none 0 0, .slice none 0 0] 27) = W3 at *
          try rw [← hg]
          clear hg
          refine wpAnyH_ready (rs := [9]) (by kernel_rfl) (by simp) ?_
          refine AllReadyH.cons (oper_at (r := _) rfl) (fun K hK => ?_) AllReadyH.nil
          obtain ⟨gy, hg⟩ : ∃ g, g = W3.heap.size := ⟨_, rfl⟩
          have lgy : wd.heap.size ≤ gy := by rw [hg]; exact WD_W3.out.size
          have ngygx : gx ≠ gy := by have := BA_W3.out.lt; omega
          have ngxgy : gy ≠ gx := Ne.symm ngygx
          have hx : BX gy (.slice none 0 0) (.slice none 0 0) 27 (W3.alloc (.cells #[.slice none 0 0, .slice none 0 0] 27)) := by rw [hg]; exact heap_alloc_new _ _
          have hb : Below W3.heap.size W3 (W3.alloc (.cells #[.slice none 0 0, .slice none 0 0] 27)) := (Below.refl _ _).alloc (Nat.le_refl _) _
          have S_W4 := Lib.hid (S_W3.out.up hb)
          have WD_W4 := Lib.hid (WD_W3.out.trans (hb.mono WD_W3.out.size))
          have PA_W4 := Lib.hid (PA_W3.out.up hb)
          have PB_W4 := Lib.hid (PB_W3.out.up hb)
          have BA_W4 := Lib.hid (BA_W3.out.up hb)
          clear S_W3 WD_W3 PA_W3 PB_W3 BA_W3
          have BB_W4 := Lib.hid hx
          clear hx hb
          go_simp
          refine hK.out _ _ (HM_wd.out _ WD_W4.out) (fun _ => ?_)
          clear hK K
          try simp only [Act.put, List.setIfInBounds_toArray, List.set_cons_zero, List.set_cons_succ]
          generalize W3.alloc (.cells #[.slice none 0 0, .slice none 0 0] 27) = W4 at *
          try rw [← hg]
          clear hg
          refine wpAnyH_ready (rs := [10]) (by kernel_rfl) (by simp) ?_
          refine AllReadyH.cons (oper_at (r := _) rfl) (fun K hK => ?_) AllReadyH.nil
          have fr0 := BA_W4.out.free 0
          have fr1 := BA_W4.out.free 1
          obtain ⟨e0, e1⟩ := BA_W4.out.cells
          go_simp
          clear fr0 fr1 e0 e1
          have S_W5 := Lib.hid (S_W4.out.set (g := gx) (by simp; omega) (.slice X1 T1.ns.length x1) (.slice Y1 T1.es.length y1))
          have WD_W5 := Lib.hid ((WD_W4.out.setCell (p := ⟨gx, 0, none⟩) (by show wd.heap.size ≤ gx; omega) (.slice X1 T1.ns.length x1)).setCell (p := ⟨gx, 1, none⟩) (by show wd.heap.size ≤ gx; omega) (.slice Y1 T1.es.length y1))
          have PA_W5 := Lib.hid (ptAt_set PA_W4.out BA_W4.out (.slice X1 T1.ns.length x1) (.slice Y1 T1.es.length y1))
          have PB_W5 := Lib.hid (ptAt_set PB_W4.out BA_W4.out (.slice X1 T1.ns.length x1) (.slice Y1 T1.es.length y1))
          have BA_W5 := Lib.hid (BA_W4.out.put (.slice X1 T1.ns.length x1) (.slice Y1 T1.es.length y1))
          have BB_W5 := Lib.hid (BB_W4.out.far ngxgy (.slice X1 T1.ns.length x1) (.slice Y1 T1.es.length y1))
          clear S_W4 WD_W4 PA_W4 PB_W4 BA_W4 BB_W4
          refine hK.out _ _ (HM_wd.out _ WD_W5.out) (fun _ => ?_)
          clear hK K
          try simp only [Act.put, List.setIfInBounds_toArray, List.set_cons_zero, List.set_cons_succ]
          generalize (W4.setCell ⟨gx, 0, none⟩ (.slice X1 T1.ns.length x1)).setCell ⟨gx, 1, none⟩ (.slice Y1 T1.es.length y1) = W5 at *
          refine wpAnyH_ready (rs := [11]) (by kernel_rfl) (by simp) ?_
          refine AllReadyH.cons (oper_at (r := _) rfl) (fun K hK => ?_) AllReadyH.nil
          have fr0 := BB_W5.out.free 0
          have fr1 := BB_W5.out.free 1
          obtain ⟨e0, e1⟩ := BB_W5.out.cells
          go_simp
          clear fr0 fr1 e0 e1
          have S_W6 := Lib.hid (S_W5.out.set (g := gy) (by simp; omega) (.slice X2 T2.ns.length x2) (.slice Y2 T2.es.length y2))
          have WD_W6 := Lib.hid ((WD_W5.out.setCell (p := ⟨gy, 0, none⟩) (by show wd.heap.size ≤ gy; omega) (.slice X2 T2.ns.length x2)).setCell (p := ⟨gy, 1, none⟩) (by show wd.heap.size ≤ gy; omega) (.slice Y2 T2.es.length y2))
          have PA_W6 := Lib.hid (ptAt_set PA_W5.out BB_W5.out (.slice X2 T2.ns.length x2) (.slice Y2 T2.es.length y2))
          have PB_W6 := Lib.hid (ptAt_set PB_W5.out BB_W5.out (.slice X2 T2.ns.length x2) (.slice Y2 T2.es.length y2))
          have BA_W6 := Lib.hid (BA_W5.out.far ngygx (.slice X2 T2.ns.length x2) (.slice Y2 T2.es.length y2))
          have BB_W6 := Lib.hid (BB_W5.out.put (.slice X2 T2.ns.length x2) (.slice Y2 T2.es.length y2))
          clear S_W5 WD_W5 PA_W5 PB_W5 BA_W5 BB_W5
          refine hK.out _ _ (HM_wd.out _ WD_W6.out) (fun _ => ?_)
          clear hK K
          try simp only [Act.put, List.setIfInBounds_toArray, List.set_cons_zero, List.set_cons_succ]
          generalize (W5.setCell ⟨gy, 0, none⟩ (.slice X2 T2.ns.length x2)).setCell ⟨gy, 1, none⟩ (.slice Y2 T2.es.length y2) = W6 at *
          refine wpAnyH_done (by kernel_rfl) ?_ _
          refine NoPanic.normal ?_
          go_wp2_with fail
          go_meet
          exact ⟨gx, gy, X1, x1, Y1, y1, X2, x2, Y2, y2, rfl, rfl, BA_W6.out, BB_W6.out, PA_W6.out, PB_W6.out, S_W6.out⟩
        · skip
          obtain ⟨gy, hg⟩ : ∃ g, g = W2.heap.size := ⟨_, rfl⟩
          have lgy : wd.heap.size ≤ gy := by rw [hg]; exact WD_W2.out.size
          have hx : BX gy (.slice none 0 0) (.slice none 0 0) 27 (W2.alloc (.cells #[.slice none 0 0, .slice none 0 0] 27)) := by rw [hg]; exact heap_alloc_new _ _
          have hb : Below W2.heap.size W2 (W2.alloc (.cells #[.slice none 0 0, .slice none 0 0] 27)) := (Below.refl _ _).alloc (Nat.le_refl _) _
          have S_W7 := Lib.hid (S_W2.out.up hb)
          have WD_W7 := Lib.hid (WD_W2.out.trans (hb.mono WD_W2.out.size))
          have PA_W7 := Lib.hid (PA_W2.out.up hb)
          have PB_W7 := Lib.hid (PB_W2.out.up hb)
          clear S_W2 WD_W2 PA_W2 PB_W2
          have BB_W7 := Lib.hid hx
          clear hx hb
          go_simp
          refine hK.out _ _ (HM_wd.out _ WD_W7.out) (fun _ => ?_)
          clear hK K
          try simp only [Act.put, List.setIfInBounds_toArray, List.set_cons_zero, List.set_cons_succ]
          generalize W2.alloc (.cells #[.slice none 0 0, .slice none 0 0] 27) = W7 at *
          try rw [← hg]
          clear hg
          refine wpAnyH_ready (rs := [8]) (by kernel_rfl) (by simp) ?_
          refine AllReadyH.cons (oper_at (r := _) rfl) (fun K hK => ?_) AllReadyH.nil
          obtain ⟨gx, hg⟩ : ∃ g, g = W7.heap.size := ⟨_, rfl⟩
          have lgx : wd.heap.size ≤ gx := by rw [hg]; exact WD_W7.out.size
          have ngxgy : gy ≠ gx := by have := BB_W7.out.lt; omega
          have ngygx : gx ≠ gy := Ne.symm ngxgy
          have hx : BX gx (.slice none 0 0) (.slice none 0 0) 27 (W7.alloc (.cells #[.slice none 0 0, .slice none 0 0] 27)) := by rw [hg]; exact heap_alloc_new _ _
          have hb : Below W7.heap.size W7 (W7.alloc (.cells #[.slice none 0 0, .slice none 0 0] 27)) := (Below.refl _ _).alloc (Nat.le_refl _) _
          have S_W8 := Lib.hid (S_W7.out.up hb)
          have WD_W8 := Lib.hid (WD_W7.out.trans (hb.mono WD_W7.out.size))
          have PA_W8 := Lib.hid (PA_W7.out.up hb)
          have PB_W8 := Lib.hid (PB_W7.out.up hb)
          have BB_W8 := Lib.hid (BB_W7.out.up hb)
          clear S_W7 WD_W7 PA_W7 PB_W7 BB_W7
          have BA_W8 := Lib.hid hx
          clear hx hb
          go_simp
          refine hK.out _ _ (HM_wd.out _ WD_W8.out) (fun _ => ?_)
          clear hK K
          try simp only [Act.put, List.setIfInBounds_toArray, List.set_cons_zero, List.set_cons_succ]
          generalize W7.alloc (.cells #[.slice none 0 0, .slice none 0 0] 27) = W8 at *
          try rw [← hg]
          clear hg
          refine wpAnyH_ready (rs := [10]) (by kernel_rfl) (by simp) ?_
          refine AllReadyH.cons (oper_at (r := _) rfl) (fun K hK => ?_) AllReadyH.nil
          have fr0 := BA_W8.out.free 0
          have fr1 := BA_W8.out.free 1
          obtain ⟨e0, e1⟩ := BA_W8.out.cells
          go_simp
          clear fr0 fr1 e0 e1
          have S_W9 := Lib.hid (S_W8.out.set (g := gx) (by simp; omega) (.slice X1 T1.ns.length x1) (.slice Y1 T1.es.length y1))
          have WD_W9 := Lib.hid ((WD_W8.out.setCell (p := ⟨gx, 0, none⟩) (by show wd.heap.size ≤ gx; omega) (.slice X1 T1.ns.length x1)).setCell (p := ⟨gx, 1, none⟩) (by show wd.heap.size ≤ gx; omega) (.slice Y1 T1.es.length y1))
          have PA_W9 := Lib.hid (ptAt_set PA_W8.out BA_W8.out (.slice X1 T1.ns.length x1) (.slice Y1 T1.es.length y1))
          have PB_W9 := Lib.hid (ptAt_set PB_W8.out BA_W8.out (.slice X1 T1.ns.length x1) (.slice Y1 T1.es.length y1))
          have BB_W9 := Lib.hid (BB_W8.out.far ngxgy (.slice X1 T1.ns.length x1) (.slice Y1 T1.es.length y1))
          have BA_W9 := Lib.hid (BA_W8.out.put (.slice X1 T1.ns.length x1) (.slice Y1 T1.es.length y1))
          clear S_W8 WD_W8 PA_W8 PB_W8 BB_W8 BA_W8
          refine hK.out _ _ (HM_wd.out _ WD_W9.out) (fun _ => ?_)
          clear hK K
          try simp only [Act.put, List.setIfInBounds_toArray, List.set_cons_zero, List.set_cons_succ]
          generalize (W8.setCell ⟨gx, 0, none⟩ (.slice X1 T1.ns.length x1)).setCell ⟨gx, 1, none⟩ (.slice Y1 T1.es.length y1) = W9 at *
          refine wpAnyH_ready (rs := [11]) (by kernel_rfl) (by simp) ?_
          refine AllReadyH.cons (oper_at (r := _) rfl) (fun K hK => ?_) AllReadyH.nil
          have fr0 := BB_W9.out.free 0
          have fr1 := BB_W9.out.free 1
          obtain ⟨e0, e1⟩ := BB_W9.out.cells
          go_simp
          clear fr0 fr1 e0 e1
          have S_W10 := Lib.hid (S_W9.out.set (g := gy) (by simp; omega) (.slice X2 T2.ns.length x2) (.slice Y2 T2.es.length y2))
          have WD_W10 := Lib.hid ((WD_W9.out.setCell (p := ⟨gy, 0, none⟩) (by show wd.heap.size ≤ gy; omega) (.slice X2 T2.ns.length x2)).setCell (p := ⟨gy, 1, none⟩) (by show wd.heap.size ≤ gy; omega) (.slice Y2 T2.es.length y2))
          have PA_W10 := Lib.hid (ptAt_set PA_W9.out BB_W9.out (.slice X2 T2.ns.length x2) (.slice Y2 T2.es.length y2))
          have PB_W10 := Lib.hid (ptAt_set PB_W9.out BB_W9.out (.slice X2 T2.ns.length x2) (.slice Y2 T2.es.length y2))
          have BB_W10 := Lib.hid (BB_W9.out.put (.slice X2 T2.ns.length x2) (.slice Y2 T2.es.length y2))
          have BA_W10 := Lib.hid (BA_W9.out.far ngygx (.slice X2 T2.ns.length x2) (.slice Y2 T2.es.length y2))
          clear S_W9 WD_W9 PA_W9 PB_W9 BB_W9 BA_W9
          refine hK.out _ _ (HM_wd.out _ WD_W10.out) (fun _ => ?_)
          clear hK K
          try simp only [Act.put, List.setIfInBounds_toArray, List.set_cons_zero, List.set_cons_succ]
          generalize (W9.setCell ⟨gy, 0, none⟩ (.slice X2 T2.ns.length x2)).setCell ⟨gy, 1, none⟩ (.slice Y2 T2.es.length y2) = W10 at *
          refine wpAnyH_done (by kernel_rfl) ?_ _
          refine NoPanic.normal ?_
          go_wp2_with fail
          go_meet
          exact ⟨gx, gy, X1, x1, Y1, y1, X2, x2, Y2, y2, rfl, rfl, BA_W10.out, BB_W10.out, PA_W10.out, PB_W10.out, S_W10.out⟩
      · skip
        obtain ⟨gx, hg⟩ : ∃ g, g = W1.heap.size := ⟨_, rfl⟩
        have lgx : wd.heap.size ≤ gx := by rw [hg]; exact WD_W1.out.size
        have hx : BX gx (.slice none 0 0) (.slice none 0 0) 27 (W1.alloc (.cells #[.slice none 0 0, .slice none 0 0] 27)) := by rw [hg]; exact heap_alloc_new _ _
        have hb : Below W1.heap.size W1 (W1.alloc (.cells #[.slice none 0 0, .slice none 0 0] 27)) := (Below.refl _ _).alloc (Nat.le_refl _) _
        have S_W11 := Lib.hid (S_W1.out.up hb)
        have WD_W11 := Lib.hid (WD_W1.out.trans (hb.mono WD_W1.out.size))
        have PA_W11 := Lib.hid (PA_W1.out.up hb)
        clear S_W1 WD_W1 PA_W1
        have BA_W11 := Lib.hid hx
        clear hx hb
        go_simp
        refine hK.out _ _ (HM_wd.out _ WD_W11.out) (fun _ => ?_)
        clear hK K
        try simp only [Act.put, List.setIfInBounds_toArray, List.set_cons_zero, List.set_cons_succ]
        generalize W1.alloc (.cells #[.slice none 0 0, .slice none 0 0] 27) = W11 at *
        try rw [← hg]
        clear hg
        refine wpAnyH_ready (rs := [7, 9]) (by kernel_rfl) (by simp) ?_
        refine (AllReadyH.cons (oper_at (r := _) rfl) (fun K hK => ?_) (AllReadyH.cons (oper_at (r := _) rfl) (fun K hK => ?_) AllReadyH.nil))
        · skip
          go_simp
          refine (HMB9.out _ S_W11.out.1).mono ?_
          rintro e W12 ⟨⟨X2, x2, Y2, y2, rfl, r1⟩, hb⟩
          have S_W12 := Lib.hid (S_W11.out.up hb)
          have WD_W12 := Lib.hid (WD_W11.out.trans (hb.mono WD_W11.out.size))
          have PA_W12 := Lib.hid (PA_W11.out.up hb)
          have BA_W12 := Lib.hid (BA_W11.out.up hb)
          clear S_W11 WD_W11 PA_W11 BA_W11
          have PB_W12 := Lib.hid r1
          clear hb r1
          go_wp2_with fail
          refine hK.out _ _ (HM_wd.out _ WD_W12.out) (fun _ => ?_)
          clear hK K
          try simp only [Act.put, List.setIfInBounds_toArray, List.set_cons_zero, List.set_cons_succ]
          refine wpAnyH_ready (rs := [9]) (by kernel_rfl) (by simp) ?_
          refine AllReadyH.cons (oper_at (r := _) rfl) (fun K hK => ?_) AllReadyH.nil
          obtain ⟨gy, hg⟩ : ∃ g, g = W12.heap.size := ⟨_, rfl⟩
          have lgy : wd.heap.size ≤ gy := by rw [hg]; exact WD_W12.out.size
          have ngygx : gx ≠ gy := by have := BA_W12.out.lt; omega
          have ngxgy : gy ≠ gx := Ne.symm ngygx
          have hx : BX gy (.slice none 0 0) (.slice none 0 0) 27 (W12.alloc (.cells #[.slice none 0 0, .slice none 0 0] 27)) := by rw [hg]; exact heap_alloc_new _ _
          have hb : Below W12.heap.size W12 (W12.alloc (.cells #[.slice none 0 0, .slice none 0 0] 27)) := (Below.refl _ _).alloc (Nat.le_refl _) _
          have S_W13 := Lib.hid (S_W12.out.up hb)
          have WD_W13 := Lib.hid (WD_W12.out.trans (hb.mono WD_W12.out.size))
          have PA_W13 := Lib.hid (PA_W12.out.up hb)
          have BA_W13 := Lib.hid (BA_W12.out.up hb)
          have PB_W13 := Lib.hid (PB_W12.out.up hb)
          clear S_W12 WD_W12 PA_W12 BA_W12 PB_W12
          have BB_W13 := Lib.hid hx
          clear hx hb
          go_simp
          refine hK.out _ _ (HM_wd.out _ WD_W13.out) (fun _ => ?_)
          clear hK K
          try simp only [Act.put, List.setIfInBounds_toArray, List.set_cons_zero, List.set_cons_succ]
          generalize W12.alloc (.cells #[.slice none 0 0, .slice none 0 0] 27) = W13 at *
          try rw [← hg]
          clear hg
          refine wpAnyH_ready (rs := [10]) (by kernel_rfl) (by simp) ?_
          refine AllReadyH.cons (oper_at (r := _) rfl) (fun K hK => ?_) AllReadyH.nil
          have fr0 := BA_W13.out.free 0
          have fr1 := BA_W13.out.free 1
          obtain ⟨e0, e1⟩ := BA_W13.out.cells
          go_simp
          clear fr0 fr1 e0 e1
          have S_W14 := Lib.hid (S_W13.out.set (g := gx) (by simp; omega) (.slice X1 T1.ns.length x1) (.slice Y1 T1.es.length y1))
          have WD_W14 := Lib.hid ((WD_W13.out.setCell (p := ⟨gx, 0, none⟩) (by show wd.heap.size ≤ gx; omega) (.slice X1 T1.ns.length x1)).setCell (p := ⟨gx, 1, none⟩) (by show wd.heap.size ≤ gx; omega) (.slice Y1 T1.es.length y1))
          have PA_W14 := Lib.hid (ptAt_set PA_W13.out BA_W13.out (.slice X1 T1.ns.length x1) (.slice Y1 T1.es.length y1))
          have BA_W14 := Lib.hid (BA_W13.out.put (.slice X1 T1.ns.length x1) (.slice Y1 T1.es.length y1))
          have PB_W14 := Lib.hid (ptAt_set PB_W13.out BA_W13.out (.slice X1 T1.ns.length x1) (.slice Y1 T1.es.length y1))
          have BB_W14 := Lib.hid (BB_W13.out.far ngxgy (.slice X1 T1.ns.length x1) (.slice Y1 T1.es.length y1))
          clear S_W13 WD_W13 PA_W13 BA_W13 PB_W13 BB_W13
          refine hK.out _ _ (HM_wd.out _ WD_W14.out) (fun _ => ?_)
          clear hK K
          try simp only [Act.put, List.setIfInBounds_toArray, List.set_cons_zero, List.set_cons_succ]
          generalize (W13.setCell ⟨gx, 0, none⟩ (.slice X1 T1.ns.length x1)).setCell ⟨gx, 1, none⟩ (.slice Y1 T1.es.length y1) = W14 at *
          refine wpAnyH_ready (rs := [11]) (by kernel_rfl) (by simp) ?_
          refine AllReadyH.cons (oper_at (r := _) rfl) (fun K hK => ?_) AllReadyH.nil
          have fr0 := BB_W14.out.free 0
          have fr1 := BB_W14.out.free 1
          obtain ⟨e0, e1⟩ := BB_W14.out.cells
          go_simp
          clear fr0 fr1 e0 e1
          have S_W15 := Lib.hid (S_W14.out.set (g := gy) (by simp; omega) (.slice X2 T2.ns.length x2) (.slice Y2 T2.es.length y2))
          have WD_W15 := Lib.hid ((WD_W14.out.setCell (p := ⟨gy, 0, none⟩) (by show wd.heap.size ≤ gy; omega) (.slice X2 T2.ns.length x2)).setCell (p := ⟨gy, 1, none⟩) (by show wd.heap.size ≤ gy; omega) (.slice Y2 T2.es.length y2))
          have PA_W15 := Lib.hid (ptAt_set PA_W14.out BB_W14.out (.slice X2 T2.ns.length x2) (.slice Y2 T2.es.length y2))
          have BA_W15 := Lib.hid (BA_W14.out.far ngygx (.slice X2 T2.ns.length x2) (.slice Y2 T2.es.length y2))
          have PB_W15 := Lib.hid (ptAt_set PB_W14.out BB_W14.out (.slice X2 T2.ns.length x2) (.slice Y2 T2.es.length y2))
          have BB_W15 := Lib.hid (BB_W14.out.put (.slice X2 T2.ns.length x2) (.slice Y2 T2.es.length y2))
          clear S_W14 WD_W14 PA_W14 BA_W14 PB_W14 BB_W14
          refine hK.out _ _ (HM_wd.out _ WD_W15.out) (fun _ => ?_)
          clear hK K
          try simp only [Act.put, List.setIfInBounds_toArray, List.set_cons_zero, List.set_cons_succ]
          generalize (W14.setCell ⟨gy, 0, none⟩ (.slice X2 T2.ns.length x2)).setCell ⟨gy, 1, none⟩ (.slice Y2 T2.es.length y2) = W15 at *
          refine wpAnyH_done (by kernel_rfl) ?_ _
          refine NoPanic.normal ?_
          go_wp2_with fail
          go_meet
          exact ⟨gx, gy, X1, x1, Y1, y1, X2, x2, Y2, y2, rfl, rfl, BA_W15.out, BB_W15.out, PA_W15.out, PB_W15.out, S_W15.out⟩
        · skip
          obtain ⟨gy, hg⟩ : ∃ g, g = W11.heap.size := ⟨_, rfl⟩
          have lgy : wd.heap.size ≤ gy := by rw [hg]; exact WD_W11.out.size
          have ngygx : gx ≠ gy := by have := BA_W11.out.lt; omega
          have ngxgy : gy ≠ gx := Ne.symm ngygx
          have hx : BX gy (.slice none 0 0) (.slice none 0 0) 27 (W11.alloc (.cells #[.slice none 0 0, .slice none 0 0] 27)) := by rw [hg]; exact heap_alloc_new _ _
          have hb : Below W11.heap.size W11 (W11.alloc (.cells #[.slice none 0 0, .slice none 0 0] 27)) := (Below.refl _ _).alloc (Nat.le_refl _) _
          have S_W16 := Lib.hid (S_W11.out.up hb)
          have WD_W16 := Lib.hid (WD_W11.out.trans (hb.mono WD_W11.out.size))
          have PA_W16 := Lib.hid (PA_W11.out.up hb)
          have BA_W16 := Lib.hid (BA_W11.out.up hb)
          clear S_W11 WD_W11 PA_W11 BA_W11
          have BB_W16 := Lib.hid hx
          clear hx hb
          go_simp
          refine hK.out _ _ (HM_wd.out _ WD_W16.out) (fun _ => ?_)
          clear hK K
          try simp only [Act.put, List.setIfInBounds_toArray, List.set_cons_zero, List.set_cons_succ]
          generalize W11.alloc (.cells #[.slice none 0 0, .slice none 0 0] 27) = W16 at *
          try rw [← hg]
          clear hg
          refine wpAnyH_ready (rs := [7]) (by kernel_rfl) (by simp) ?_
          refine AllReadyH.cons (oper_at (r := _) rfl) (fun K hK => ?_) AllReadyH.nil
          go_simp
          refine (HMB9.out _ S_W16.out.1).mono ?_
          rintro e W17 ⟨⟨X2, x2, Y2, y2, rfl, r1⟩, hb⟩
          have S_W17 := Lib.hid (S_W16.out.up hb)
          have WD_W17 := Lib.hid (WD_W16.out.trans (hb.mono WD_W16.out.size))
          have PA_W17 := Lib.hid (PA_W16.out.up hb)
          have BA_W17 := Lib.hid (BA_W16.out.up hb)
          have BB_W17 := Lib.hid (BB_W16.out.up hb)
          clear S_W16 WD_W16 PA_W16 BA_W16 BB_W16
          have PB_W17 := Lib.hid r1
          clear hb r1
          go_wp2_with fail
          refine hK.out _ _ (HM_wd.out _ WD_W17.out) (fun _ => ?_)
          clear hK K
          try simp only [Act.put, List.setIfInBounds_toArray, List.set_cons_zero, List.set_cons_succ]
          refine wpAnyH_ready (rs := [10]) (by kernel_rfl) (by simp) ?_
          refine AllReadyH.cons (oper_at (r := _) rfl) (fun K hK => ?_) AllReadyH.nil
          have fr0 := BA_W17.out.free 0
          have fr1 := BA_W17.out.free 1
          obtain ⟨e0, e1⟩ := BA_W17.out.cells
          go_simp
          clear fr0 fr1 e0 e1
          have S_W18 := Lib.hid (S_W17.out.set (g := gx) (by simp; omega) (.slice X1 T1.ns.length x1) (.slice Y1 T1.es.length y1))
          have WD_W18 := Lib.hid ((WD_W17.out.setCell (p := ⟨gx, 0, none⟩) (by show wd.heap.size ≤ gx; omega) (.slice X1 T1.ns.length x1)).setCell (p := ⟨gx, 1, none⟩) (by show wd.heap.size ≤ gx; omega) (.slice Y1 T1.es.length y1))
          have PA_W18 := Lib.hid (ptAt_set PA_W17.out BA_W17.out (.slice X1 T1.ns.length x1) (.slice Y1 T1.es.length y1))
          have BA_W18 := Lib.hid (BA_W17.out.put (.slice X1 T1.ns.length x1) (.slice Y1 T1.es.length y1))
          have BB_W18 := Lib.hid (BB_W17.out.far ngxgy (.slice X1 T1.ns.length x1) (.slice Y1 T1.es.length y1))
          have PB_W18 := Lib.hid (ptAt_set PB_W17.out BA_W17.out (.slice X1 T1.ns.length x1) (.slice Y1 T1.es.length y1))
          clear S_W17 WD_W17 PA_W17 BA_W17 BB_W17 PB_W17
          refine hK.out _ _ (HM_wd.out _ WD_W18.out) (fun _ => ?_)
          clear hK K
          try simp only [Act.put, List.setIfInBounds_toArray, List.set_cons_zero, List.set_cons_succ]
          generalize (W17.setCell ⟨gx, 0, none⟩ (.slice X1 T1.ns.length x1)).setCell ⟨gx, 1, none⟩ (.slice Y1 T1.es.length y1) = W18 at *
          refine wpAnyH_ready (rs := [11]) (by kernel_rfl) (by simp) ?_
          refine AllReadyH.cons (oper_at (r := _) rfl) (fun K hK => ?_) AllReadyH.nil
          have fr0 := BB_W18.out.free 0
          have fr1 := BB_W18.out.free 1
          obtain ⟨e0, e1⟩ := BB_W18.out.cells
          go_simp
          clear fr0 fr1 e0 e1
          have S_W19 := Lib.hid (S_W18.out.set (g := gy) (by simp; omega) (.slice X2 T2.ns.length x2) (.slice Y2 T2.es.length y2))
          have WD_W19 := Lib.hid ((WD_W18.out.setCell (p := ⟨gy, 0, none⟩) (by show wd.heap.size ≤ gy; omega) (.slice X2 T2.ns.length x2)).setCell (p := ⟨gy, 1, none⟩) (by show wd.heap.size ≤ gy; omega) (.slice Y2 T2.es.length y2))
          have PA_W19 := Lib.hid (ptAt_set PA_W18.out BB_W18.out (.slice X2 T2.ns.length x2) (.slice Y2 T2.es.length y2))
          have BA_W19 := Lib.hid (BA_W18.out.far ngygx (.slice X2 T2.ns.length x2) (.slice Y2 T2.es.length y2))
          have BB_W19 := Lib.hid (BB_W18.out.put (.slice X2 T2.ns.length x2) (.slice Y2 T2.es.length y2))
          have PB_W19 := Lib.hid (ptAt_set PB_W18.out BB_W18.out (.slice X2 T2.ns.length x2) (.slice Y2 T2.es.length y2))
          clear S_W18 WD_W18 PA_W18 BA_W18 BB_W18 PB_W18
          refine hK.out _ _ (HM_wd.out _ WD_W19.out) (fun _ => ?_)
          clear hK K
          try simp only [Act.put, List.setIfInBounds_toArray, List.set_cons_zero, List.set_cons_succ]
          generalize (W18.setCell ⟨gy, 0, none⟩ (.slice X2 T2.ns.length x2)).setCell ⟨gy, 1, none⟩ (.slice Y2 T2.es.length y2) = W19 at *
          refine wpAnyH_done (by kernel_rfl) ?_ _
          refine NoPanic.normal ?_
          go_wp2_with fail
          go_meet
          exact ⟨gx, gy, X1, x1, Y1, y1, X2, x2, Y2, y2, rfl, rfl, BA_W19.out, BB_W19.out, PA_W19.out, PB_W19.out, S_W19.out⟩
      · skip
        obtain ⟨gy, hg⟩ : ∃ g, g = W1.heap.size := ⟨_, rfl⟩
        have lgy : wd.heap.size ≤ gy := by rw [hg]; exact WD_W1.out.size
        have hx : BX gy (.slice none 0 0) (.slice none 0 0) 27 (W1.alloc (.cells #[.slice none 0 0, .slice none 0 0] 27)) := by rw [hg]; exact heap_alloc_new _ _
        have hb : Below W1.heap.size W1 (W1.alloc (.cells #[.slice none 0 0, .slice none 0 0] 27)) := (Below.refl _ _).alloc (Nat.le_refl _) _
        have S_W20 := Lib.hid (S_W1.out.up hb)
        have WD_W20 := Lib.hid (WD_W1.out.trans (hb.mono WD_W1.out.size))
        have PA_W20 := Lib.hid (PA_W1.out.up hb)
        clear S_W1 WD_W1 PA_W1
        have BB_W20 := Lib.hid hx
        clear hx hb
        go_simp
        refine hK.out _ _ (HM_wd.out _ WD_W20.out) (fun _ => ?_)
        clear hK K
        try simp only [Act.put, List.setIfInBounds_toArray, List.set_cons_zero, List.set_cons_succ]
        generalize W1.alloc (.cells #[.slice none 0 0, .slice none 0 0] 27) = W20 at *
        try rw [← hg]
        clear hg
        refine wpAnyH_ready (rs := [7, 8]) (by kernel_rfl) (by simp) ?_
        refine (AllReadyH.cons (oper_at (r := _) rfl) (fun K hK => ?_) (AllReadyH.cons (oper_at (r := _) rfl) (fun K hK => ?_) AllReadyH.nil))
        · skip
          go_simp
          refine (HMB9.out _ S_W20.out.1).mono ?_
          rintro e W21 ⟨⟨X2, x2, Y2, y2, rfl, r1⟩, hb⟩
          have S_W21 := Lib.hid (S_W20.out.up hb)
          have WD_W21 := Lib.hid (WD_W20.out.trans (hb.mono WD_W20.out.size))
          have PA_W21 := Lib.hid (PA_W20.out.up hb)
          have BB_W21 := Lib.hid (BB_W20.out.up hb)
          clear S_W20 WD_W20 PA_W20 BB_W20
          have PB_W21 := Lib.hid r1
          clear hb r1
          go_wp2_with fail
          refine hK.out _ _ (HM_wd.out _ WD_W21.out) (fun _ => ?_)
          clear hK K
          try simp only [Act.put, List.setIfInBounds_toArray, List.set_cons_zero, List.set_cons_succ]
          refine wpAnyH_ready (rs := [8]) (by kernel_rfl) (by simp) ?_
          refine AllReadyH.cons (oper_at (r := _) rfl) (fun K hK => ?_) AllReadyH.nil
          obtain ⟨gx, hg⟩ : ∃ g, g = W21.heap.size := ⟨_, rfl⟩
          have lgx : wd.heap.size ≤ gx := by rw [hg]; exact WD_W21.out.size
          have ngxgy : gy ≠ gx := by have := BB_W21.out.lt; omega
          have ngygx : gx ≠ gy := Ne.symm ngxgy
          have hx : BX gx (.slice none 0 0) (.slice none 0 0) 27 (W21.alloc (.cells #[.slice none 0 0, .slice none 0 0] 27)) := by rw [hg]; exact heap_alloc_new _ _
          have hb : Below W21.heap.size W21 (W21.alloc (.cells #[.slice none 0 0, .slice none 0 0] 27)) := (Below.refl _ _).alloc (Nat.le_refl _) _
          have S_W22 := Lib.hid (S_W21.out.up hb)
          have WD_W22 := Lib.hid (WD_W21.out.trans (hb.mono WD_W21.out.size))
          have PA_W22 := Lib.hid (PA_W21.out.up hb)
          have BB_W22 := Lib.hid (BB_W21.out.up hb)
          have PB_W22 := Lib.hid (PB_W21.out.up hb)
          clear S_W21 WD_W21 PA_W21 BB_W21 PB_W21
          have BA_W22 := Lib.hid hx
          clear hx hb
          go_simp
          refine hK.out _ _ (HM_wd.out _ WD_W22.out) (fun _ => ?_)
          clear hK K
          try simp only [Act.put, List.setIfInBounds_toArray, List.set_cons_zero, List.set_cons_succ]
          generalize W21.alloc (.cells #[.slice none 0 0, .slice none 0 0] 27) = W22 at *
          try rw [← hg]
          clear hg
          refine wpAnyH_ready (rs := [10]) (by kernel_rfl) (by simp) ?_
          refine AllReadyH.cons (oper_at (r := _) rfl) (fun K hK => ?_) AllReadyH.nil
          have fr0 := BA_W22.out.free 0
          have fr1 := BA_W22.out.free 1
          obtain ⟨e0, e1⟩ := BA_W22.out.cells
          go_simp
          clear fr0 fr1 e0 e1
          have S_W23 := Lib.hid (S_W22.out.set (g := gx) (by simp; omega) (.slice X1 T1.ns.length x1) (.slice Y1 T1.es.length y1))
          have WD_W23 := Lib.hid ((WD_W22.out.setCell (p := ⟨gx, 0, none⟩) (by show wd.heap.size ≤ gx; omega) (.slice X1 T1.ns.length x1)).setCell (p := ⟨gx, 1, none⟩) (by show wd.heap.size ≤ gx; omega) (.slice Y1 T1.es.length y1))
          have PA_W23 := Lib.hid (ptAt_set PA_W22.out BA_W22.out (.slice X1 T1.ns.length x1) (.slice Y1 T1.es.length y1))
          have BB_W23 := Lib.hid (BB_W22.out.far ngxgy (.slice X1 T1.ns.length x1) (.slice Y1 T1.es.length y1))
          have PB_W23 := Lib.hid (ptAt_set PB_W22.out BA_W22.out (.slice X1 T1.ns.length x1) (.slice Y1 T1.es.length y1))
          have BA_W23 := Lib.hid (BA_W22.out.put (.slice X1 T1.ns.length x1) (.slice Y1 T1.es.length y1))
          clear S_W22 WD_W22 PA_W22 BB_W22 PB_W22 BA_W22
          refine hK.out _ _ (HM_wd.out _ WD_W23.out) (fun _ => ?_)
          clear hK K
          try simp only [Act.put, List.setIfInBounds_toArray, List.set_cons_zero, List.set_cons_succ]
          generalize (W22.setCell ⟨gx, 0, none⟩ (.slice X1 T1.ns.length x1)).setCell ⟨gx, 1, none⟩ (.slice Y1 T1.es.length y1) = W23 at *
          refine wpAnyH_ready (rs := [11]) (by kernel_rfl) (by simp) ?_
          refine AllReadyH.cons (oper_at (r := _) rfl) (fun K hK => ?_) AllReadyH.nil
          have fr0 := BB_W23.out.free 0
          have fr1 := BB_W23.out.free 1
          obtain ⟨e0, e1⟩ := BB_W23.out.cells
          go_simp
          clear fr0 fr1 e0 e1
          have S_W24 := Lib.hid (S_W23.out.set (g := gy) (by simp; omega) (.slice X2 T2.ns.length x2) (.slice Y2 T2.es.length y2))
          have WD_W24 := Lib.hid ((WD_W23.out.setCell (p := ⟨gy, 0, none⟩) (by show wd.heap.size ≤ gy; omega) (.slice X2 T2.ns.length x2)).setCell (p := ⟨gy, 1, none⟩) (by show wd.heap.size ≤ gy; omega) (.slice Y2 T2.es.length y2))
          have PA_W24 := Lib.hid (ptAt_set PA_W23.out BB_W23.out (.slice X2 T2.ns.length x2) (.slice Y2 T2.es.length y2))
          have BB_W24 := Lib.hid (BB_W23.out.put (.slice X2 T2.ns.length x2) (.slice Y2 T2.es.length y2))
          have PB_W24 := Lib.hid (ptAt_set PB_W23.out BB_W23.out (.slice X2 T2.ns.length x2) (.slice Y2 T2.es.length y2))
          have BA_W24 := Lib.hid (BA_W23.out.far ngygx (.slice X2 T2.ns.length x2) (.slice Y2 T2.es.length y2))
          clear S_W23 WD_W23 PA_W23 BB_W23 PB_W23 BA_W23
          refine hK.out _ _ (HM_wd.out _ WD_W24.out) (fun _ => ?_)
          clear hK K
          try simp only [Act.put, List.setIfInBounds_toArray, List.set_cons_zero, List.set_cons_succ]
          generalize (W23.setCell ⟨gy, 0, none⟩ (.slice X2 T2.ns.length x2)).setCell ⟨gy, 1, none⟩ (.slice Y2 T2.es.length y2) = W24 at *
          refine wpAnyH_done (by kernel_rfl) ?_ _
          refine NoPanic.normal ?_
          go_wp2_with fail
          go_meet
          exact ⟨gx, gy, X1, x1, Y1, y1, X2, x2, Y2, y2, rfl, rfl, BA_W24.out, BB_W24.out, PA_W24.out, PB_W24.out, S_W24.out⟩
        · skip
          obtain ⟨gx, hg⟩ : ∃ g, g = W20.heap.size := ⟨_, rfl⟩
          have lgx : wd.heap.size ≤ gx := by rw [hg]; exact WD_W20.out.size
          have ngxgy : gy ≠ gx := by have := BB_W20.out.lt; omega
          have ngygx : gx ≠ gy := Ne.symm ngxgy
          have hx : BX gx (.slice none 0 0) (.slice none 0 0) 27 (W20.alloc (.cells #[.slice none 0 0, .slice none 0 0] 27)) := by rw [hg]; exact heap_alloc_new _ _
          have hb : Below W20.heap.size W20 (W20.alloc (.cells #[.slice none 0 0, .slice none 0 0] 27)) := (Below.refl _ _).alloc (Nat.le_refl _) _
          have S_W25 := Lib.hid (S_W20.out.up hb)
          have WD_W25 := Lib.hid (WD_W20.out.trans (hb.mono WD_W20.out.size))
          have PA_W25 := Lib.hid (PA_W20.out.up hb)
          have BB_W25 := Lib.hid (BB_W20.out.up hb)
          clear S_W20 WD_W20 PA_W20 BB_W20
          have BA_W25 := Lib.hid hx
          clear hx hb
          go_simp
          refine hK.out _ _ (HM_wd.out _ WD_W25.out) (fun _ => ?_)
          clear hK K
          try simp only [Act.put, List.setIfInBounds_toArray, List.set_cons_zero, List.set_cons_succ]
          generalize W20.alloc (.cells #[.slice none 0 0, .slice none 0 0] 27) = W25 at *
          try rw [← hg]
          clear hg
          refine wpAnyH_ready (rs := [7]) (by kernel_rfl) (by simp) ?_
          refine AllReadyH.cons (oper_at (r := _) rfl) (fun K hK => ?_) AllReadyH.nil
          go_simp
          refine (HMB9.out _ S_W25.out.1).mono ?_
          rintro e W26 ⟨⟨X2, x2, Y2, y2, rfl, r1⟩, hb⟩
          have S_W26 := Lib.hid (S_W25.out.up hb)
          have WD_W26 := Lib.hid (WD_W25.out.trans (hb.mono WD_W25.out.size))
          have PA_W26 := Lib.hid (PA_W25.out.up hb)
          have BB_W26 := Lib.hid (BB_W25.out.up hb)
          have BA_W26 := Lib.hid (BA_W25.out.up hb)
          clear S_W25 WD_W25 PA_W25 BB_W25 BA_W25
          have PB_W26 := Lib.hid r1
          clear hb r1
          go_wp2_with fail
          refine hK.out _ _ (HM_wd.out _ WD_W26.out) (fun _ => ?_)
          clear hK K
          try simp only [Act.put, List.setIfInBounds_toArray, List.set_cons_zero, List.set_cons_succ]
          refine wpAnyH_ready (rs := [10]) (by kernel_rfl) (by simp) ?_
          refine AllReadyH.cons (oper_at (r := _) rfl) (fun K hK => ?_) AllReadyH.nil
          have fr0 := BA_W26.out.free 0
          have fr1 := BA_W26.out.free 1
          obtain ⟨e0, e1⟩ := BA_W26.out.cells
          go_simp
          clear fr0 fr1 e0 e1
          have S_W27 := Lib.hid (S_W26.out.set (g := gx) (by simp; omega) (.slice X1 T1.ns.length x1) (.slice Y1 T1.es.length y1))
          have WD_W27 := Lib.hid ((WD_W26.out.setCell (p := ⟨gx, 0, none⟩) (by show wd.heap.size ≤ gx; omega) (.slice X1 T1.ns.length x1)).setCell (p := ⟨gx, 1, none⟩) (by show wd.heap.size ≤ gx; omega) (.slice Y1 T1.es.length y1))
          have PA_W27 := Lib.hid (ptAt_set PA_W26.out BA_W26.out (.slice X1 T1.ns.length x1) (.slice Y1 T1.es.length y1))
          have BB_W27 := Lib.hid (BB_W26.out.far ngxgy (.slice X1 T1.ns.length x1) (.slice Y1 T1.es.length y1))
          have BA_W27 := Lib.hid (BA_W26.out.put (.slice X1 T1.ns.length x1) (.slice Y1 T1.es.length y1))
          have PB_W27 := Lib.hid (ptAt_set PB_W26.out BA_W26.out (.slice X1 T1.ns.length x1) (.slice Y1 T1.es.length y1))
          clear S_W26 WD_W26 PA_W26 BB_W26 BA_W26 PB_W26
          refine hK.out _ _ (HM_wd.out _ WD_W27.out) (fun _ => ?_)
          clear hK K
          try simp only [Act.put, List.setIfInBounds_toArray, List.set_cons_zero, List.set_cons_succ]
          generalize (W26.setCell ⟨gx, 0, none⟩ (.slice X1 T1.ns.length x1)).setCell ⟨gx, 1, none⟩ (.slice Y1 T1.es.length y1) = W27 at *
          refine wpAnyH_ready (rs := [11]) (by kernel_rfl) (by simp) ?_
          refine AllReadyH.cons (oper_at (r := _) rfl) (fun K hK => ?_) AllReadyH.nil
          have fr0 := BB_W27.out.free 0
          have fr1 := BB_W27.out.free 1
          obtain ⟨e0, e1⟩ := BB_W27.out.cells
          go_simp
          clear fr0 fr1 e0 e1
          have S_W28 := Lib.hid (S_W27.out.set (g := gy) (by simp; omega) (.slice X2 T2.ns.length x2) (.slice Y2 T2.es.length y2))
          have WD_W28 := Lib.hid ((WD_W27.out.setCell (p := ⟨gy, 0, none⟩) (by show wd.heap.size ≤ gy; omega) (.slice X2 T2.ns.length x2)).setCell (p := ⟨gy, 1, none⟩) (by show wd.heap.size ≤ gy; omega) (.slice Y2 T2.es.length y2))
          have PA_W28 := Lib.hid (ptAt_set PA_W27.out BB_W27.out (.slice X2 T2.ns.length x2) (.slice Y2 T2.es.length y2))
          have BB_W28 := Lib.hid (BB_W27.out.put (.slice X2 T2.ns.length x2) (.slice Y2 T2.es.length y2))
          have BA_W28 := Lib.hid (BA_W27.out.far ngygx (.slice X2 T2.ns.length x2) (.slice Y2 T2.es.length y2))
          have PB_W28 := Lib.hid (ptAt_set PB_W27.out BB_W27.out (.slice X2 T2.ns.length x2) (.slice Y2 T2.es.length y2))
          clear S_W27 WD_W27 PA_W27 BB_W27 BA_W27 PB_W27
          refine hK.out _ _ (HM_wd.out _ WD_W28.out) (fun _ => ?_)
          clear hK K
          try simp only [Act.put, List.setIfInBounds_toArray, List.set_cons_zero, List.set_cons_succ]
          generalize (W27.setCell ⟨gy, 0, none⟩ (.slice X2 T2.ns.length x2)).setCell ⟨gy, 1, none⟩ (.slice Y2 T2.es.length y2) = W28 at *
          refine wpAnyH_done (by kernel_rfl) ?_ _
          refine NoPanic.normal ?_
          go_wp2_with fail
          go_meet
          exact ⟨gx, gy, X1, x1, Y1, y1, X2, x2, Y2, y2, rfl, rfl, BA_W28.out, BB_W28.out, PA_W28.out, PB_W28.out, S_W28.out⟩
    · skip
      obtain ⟨gx, hg⟩ : ∃ g, g = wd.heap.size := ⟨_, rfl⟩
      have lgx : wd.heap.size ≤ gx := by rw [hg]; exact WD_wd.out.size
      have hx : BX gx (.slice none 0 0) (.slice none 0 0) 27 (wd.alloc (.cells #[.slice none 0 0, .slice none 0 0] 27)) := by rw [hg]; exact heap_alloc_new _ _
      have hb : Below wd.heap.size wd (wd.alloc (.cells #[.slice none 0 0, .slice none 0 0] 27)) := (Below.refl _ _).alloc (Nat.le_refl _) _
      have S_W29 := Lib.hid (S_wd.out.up hb)
      have WD_W29 := Lib.hid (WD_wd.out.trans (hb.mono WD_wd.out.size))
      clear S_wd WD_wd
      have BA_W29 := Lib.hid hx
      clear hx hb
      go_simp
      refine hK.out _ _ (HM_wd.out _ WD_W29.out) (fun _ => ?_)
      clear hK K
      try simp only [Act.put, List.setIfInBounds_toArray, List.set_cons_zero, List.set_cons_succ]
      generalize wd.alloc (.cells #[.slice none 0 0, .slice none 0 0] 27) = W29 at *
      try rw [← hg]
      clear hg
      refine wpAnyH_ready (rs := [3, 9]) (by kernel_rfl) (by simp) ?_
      refine (AllReadyH.cons (oper_at (r := _) rfl) (fun K hK => ?_) (AllReadyH.cons (oper_at (r := _) rfl) (fun K hK => ?_) AllReadyH.nil))
      · skip
        go_simp
        refine (HMA9.out _ S_W29.out.1).mono ?_
        rintro e W30 ⟨⟨X1, x1, Y1, y1, rfl, r1⟩, hb⟩
        have S_W30 := Lib.hid (S_W29.out.up hb)
        have WD_W30 := Lib.hid (WD_W29.out.trans (hb.mono WD_W29.out.size))
        have BA_W30 := Lib.hid (BA_W29.out.up hb)
        clear S_W29 WD_W29 BA_W29
        have PA_W30 := Lib.hid r1
        clear hb r1
        go_wp2_with fail
        refine hK.out _ _ (HM_wd.out _ WD_W30.out) (fun _ => ?_)
        clear hK K
        try simp only [Act.put, List.setIfInBounds_toArray, List.set_cons_zero, List.set_cons_succ]
        refine wpAnyH_ready (rs := [7, 9]) (by kernel_rfl) (by simp) ?_
        refine (AllReadyH.cons (oper_at (r := _) rfl) (fun K hK => ?_) (AllReadyH.cons (oper_at (r := _) rfl) (fun K hK => ?_) AllReadyH.nil))
        · skip
          go_simp
          refine (HMB9.out _ S_W30.out.1).mono ?_
          rintro e W31 ⟨⟨X2, x2, Y2, y2, rfl, r1⟩, hb⟩
          have S_W31 := Lib.hid (S_W30.out.up hb)
          have WD_W31 := Lib.hid (WD_W30.out.trans (hb.mono WD_W30.out.size))
          have BA_W31 := Lib.hid (BA_W30.out.up hb)
          have PA_W31 := Lib.hid (PA_W30.out.up hb)
          clear S_W30 WD_W30 BA_W30 PA_W30
          have PB_W31 := Lib.hid r1
          clear hb r1
          go_wp2_with fail
          refine hK.out _ _ (HM_wd.out _ WD_W31.out) (fun _ => ?_)
          clear hK K
          try simp only [Act.put, List.setIfInBounds_toArray, List.set_cons_zero, List.set_cons_succ]
          refine wpAnyH_ready (rs := [9]) (by kernel_rfl) (by simp) ?_
          refine AllReadyH.cons (oper_at (r := _) rfl) (fun K hK => ?_) AllReadyH.nil
          obtain ⟨gy, hg⟩ : ∃ g, g = W31.heap.size := ⟨_, rfl⟩
          have lgy : wd.heap.size ≤ gy := by rw [hg]; exact WD_W31.out.size
          have ngygx : gx ≠ gy := by have := BA_W31.out.lt; omega
          have ngxgy : gy ≠ gx := Ne.symm ngygx
          have hx : BX gy (.slice none 0 0) (.slice none 0 0) 27 (W31.alloc (.cells #[.slice none 0 0, .slice none 0 0] 27)) := by rw [hg]; exact heap_alloc_new _ _
          have hb : Below W31.heap.size W31 (W31.alloc (.cells #[.slice none 0 0, .slice none 0 0] 27)) := (Below.refl _ _).alloc (Nat.le_refl _) _
          have S_W32 := Lib.hid (S_W31.out.up hb)
          have WD_W32 := Lib.hid (WD_W31.out.trans (hb.mono WD_W31.out.size))
          have BA_W32 := Lib.hid (BA_W31.out.up hb)
          have PA_W32 := Lib.hid (PA_W31.out.up hb)
          have PB_W32 := Lib.hid (PB_W31.out.up hb)
          clear S_W31 WD_W31 BA_W31 PA_W31 PB_W31
          have BB_W32 := Lib.hid hx
          clear hx hb
          go_simp
          refine hK.out _ _ (HM_wd.out _ WD_W32.out) (fun _ => ?_)
          clear hK K
          try simp only [Act.put, List.setIfInBounds_toArray, List.set_cons_zero, List.set_cons_succ]
          generalize W31.alloc (.cells #[.slice none 0 0, .slice none 0 0] 27) = W32 at *
          try rw [← hg]
          clear hg
          refine wpAnyH_ready (rs := [10]) (by kernel_rfl) (by simp) ?_
          refine AllReadyH.cons (oper_at (r := _) rfl) (fun K hK => ?_) AllReadyH.nil
          have fr0 := BA_W32.out.free 0
          have fr1 := BA_W32.out.free 1
          obtain ⟨e0, e1⟩ := BA_W32.out.cells
          go_simp
          clear fr0 fr1 e0 e1
          have S_W33 := Lib.hid (S_W32.out.set (g := gx) (by simp; omega) (.slice X1 T1.ns.length x1) (.slice Y1 T1.es.length y1))
          have WD_W33 := Lib.hid ((WD_W32.out.setCell (p := ⟨gx, 0, none⟩) (by show wd.heap.size ≤ gx; omega) (.slice X1 T1.ns.length x1)).setCell (p := ⟨gx, 1, none⟩) (by show wd.heap.size ≤ gx; omega) (.slice Y1 T1.es.length y1))
          have BA_W33 := Lib.hid (BA_W32.out.put (.slice X1 T1.ns.length x1) (.slice Y1 T1.es.length y1))
          have PA_W33 := Lib.hid (ptAt_set PA_W32.out BA_W32.out (.slice X1 T1.ns.length x1) (.slice Y1 T1.es.length y1))
          have PB_W33 := Lib.hid (ptAt_set PB_W32.out BA_W32.out (.slice X1 T1.ns.length x1) (.slice Y1 T1.es.length y1))
          have BB_W33 := Lib.hid (BB_W32.out.far ngxgy (.slice X1 T1.ns.length x1) (.slice Y1 T1.es.length y1))
          clear S_W32 WD_W32 BA_W32 PA_W32 PB_W32 BB_W32
          refine hK.out _ _ (HM_wd.out _ WD_W33.out) (fun _ => ?_)
          clear hK K
          try simp only [Act.put, List.setIfInBounds_toArray, List.set_cons_zero, List.set_cons_succ]
          generalize (W32.setCell ⟨gx, 0, none⟩ (.slice X1 T1.ns.length x1)).setCell ⟨gx, 1, none⟩ (.slice Y1 T1.es.length y1) = W33 at *
          refine wpAnyH_ready (rs := [11]) (by kernel_rfl) (by simp) ?_
          refine AllReadyH.cons (oper_at (r := _) rfl) (fun K hK => ?_) AllReadyH.nil
          have fr0 := BB_W33.out.free 0
          have fr1 := BB_W33.out.free 1
          obtain ⟨e0, e1⟩ := BB_W33.out.cells
          go_simp
          clear fr0 fr1 e0 e1
          have S_W34 := Lib.hid (S_W33.out.set (g := gy) (by simp; omega) (.slice X2 T2.ns.length x2) (.slice Y2 T2.es.length y2))
          have WD_W34 := Lib.hid ((WD_W33.out.setCell (p := ⟨gy, 0, none⟩) (by show wd.heap.size ≤ gy; omega) (.slice X2 T2.ns.length x2)).setCell (p := ⟨gy, 1, none⟩) (by show wd.heap.size ≤ gy; omega) (.slice Y2 T2.es.length y2))
          have BA_W34 := Lib.hid (BA_W33.out.far ngygx (.slice X2 T2.ns.length x2) (.slice Y2 T2.es.length y2))
          have PA_W34 := Lib.hid (ptAt_set PA_W33.out BB_W33.out (.slice X2 T2.ns.length x2) (.slice Y2 T2.es.length y2))
          have PB_W34 := Lib.hid (ptAt_set PB_W33.out BB_W33.out (.slice X2 T2.ns.length x2) (.slice Y2 T2.es.length y2))
          have BB_W34 := Lib.hid (BB_W33.out.put (.slice X2 T2.ns.length x2) (.slice Y2 T2.es.length y2))
          clear S_W33 WD_W33 BA_W33 PA_W33 PB_W33 BB_W33
          refine hK.out _ _ (HM_wd.out _ WD_W34.out) (fun _ => ?_)
          clear hK K
          try simp only [Act.put, List.setIfInBounds_toArray, List.set_cons_zero, List.set_cons_succ]
          generalize (W33.setCell ⟨gy, 0, none⟩ (.slice X2 T2.ns.length x2)).setCell ⟨gy, 1, none⟩ (.slice Y2 T2.es.length y2) = W34 at *
          refine wpAnyH_done (by kernel_rfl) ?_ _
          refine NoPanic.normal ?_
          go_wp2_with fail
          go_meet
          exact ⟨gx, gy, X1, x1, Y1, y1, X2, x2, Y2, y2, rfl, rfl, BA_W34.out, BB_W34.out, PA_W34.out, PB_W34.out, S_W34.out⟩
        · skip
          obtain ⟨gy, hg⟩ : ∃ g, g = W30.heap.size := ⟨_, rfl⟩
          have lgy : wd.heap.size ≤ gy := by rw [hg]; exact WD_W30.out.size
          have ngygx : gx ≠ gy := by have := BA_W30.out.lt; omega
          have ngxgy : gy ≠ gx := Ne.symm ngygx
          have hx : BX gy (.slice none 0 0) (.slice none 0 0) 27 (W30.alloc (.cells #[.slice none 0 0, .slice none 0 0] 27)) := by rw [hg]; exact heap_alloc_new _ _
          have hb : Below W30.heap.size W30 (W30.alloc (.cells #[.slice none 0 0, .slice none 0 0] 27)) := (Below.refl _ _).alloc (Nat.le_refl _) _
          have S_W35 := Lib.hid (S_W30.out.up hb)
          have WD_W35 := Lib.hid (WD_W30.out.trans (hb.mono WD_W30.out.size))
          have BA_W35 := Lib.hid (BA_W30.out.up hb)
          have PA_W35 := Lib.hid (PA_W30.out.up hb)
          clear S_W30 WD_W30 BA_W30 PA_W30
          have BB_W35 := Lib.hid hx
          clear hx hb
          go_simp
          refine hK.out _ _ (HM_wd.out _ WD_W35.out) (fun _ => ?_)
          clear hK K
          try simp only [Act.put, List.setIfInBounds_toArray, List.set_cons_zero, List.set_cons_succ]
          generalize W30.alloc (.cells #[.slice none 0 0, .slice none 0 0] 27) = W35 at *
          try rw [← hg]
          clear hg
          refine wpAnyH_ready (rs := [7]) (by kernel_rfl) (by simp) ?_
          refine AllReadyH.cons (oper_at (r := _) rfl) (fun K hK => ?_) AllReadyH.nil
          go_simp
          refine (HMB9.out _ S_W35.out.1).mono ?_
          rintro e W36 ⟨⟨X2, x2, Y2, y2, rfl, r1⟩, hb⟩
          have S_W36 := Lib.hid (S_W35.out.up hb)
          have WD_W36 := Lib.hid (WD_W35.out.trans (hb.mono WD_W35.out.size))
          have BA_W36 := Lib.hid (BA_W35.out.up hb)
          have PA_W36 := Lib.hid (PA_W35.out.up hb)
          have BB_W36 := Lib.hid (BB_W35.out.up hb)
          clear S_W35 WD_W35 BA_W35 PA_W35 BB_W35
          have PB_W36 := Lib.hid r1
          clear hb r1
          go_wp2_with fail
          refine hK.out _ _ (HM_wd.out _ WD_W36.out) (fun _ => ?_)
          clear hK K
          try simp only [Act.put, List.setIfInBounds_toArray, List.set_cons_zero, List.set_cons_succ]
          refine wpAnyH_ready (rs := [10]) (by kernel_rfl) (by simp) ?_
          refine AllReadyH.cons (oper_at (r := _) rfl) (fun K hK => ?_) AllReadyH.nil
          have fr0 := BA_W36.out.free 0
          have fr1 := BA_W36.out.free 1
          obtain ⟨e0, e1⟩ := BA_W36.out.cells
          go_simp
          clear fr0 fr1 e0 e1
          have S_W37 := Lib.hid (S_W36.out.set (g := gx) (by simp; omega) (.slice X1 T1.ns.length x1) (.slice Y1 T1.es.length y1))
          have WD_W37 := Lib.hid ((WD_W36.out.setCell (p := ⟨gx, 0, none⟩) (by show wd.heap.size ≤ gx; omega) (.slice X1 T1.ns.length x1)).setCell (p := ⟨gx, 1, none⟩) (by show wd.heap.size ≤ gx; omega) (.slice Y1 T1.es.length y1))
          have BA_W37 := Lib.hid (BA_W36.out.put (.slice X1 T1.ns.length x1) (.slice Y1 T1.es.length y1))
          have PA_W37 := Lib.hid (ptAt_set PA_W36.out BA_W36.out (.slice X1 T1.ns.length x1) (.slice Y1 T1.es.length y1))
          have BB_W37 := Lib.hid (BB_W36.out.far ngxgy (.slice X1 T1.ns.length x1) (.slice Y1 T1.es.length y1))
          have PB_W37 := Lib.hid (ptAt_set PB_W36.out BA_W36.out (.slice X1 T1.ns.length x1) (.slice Y1 T1.es.length y1))
          clear S_W36 WD_W36 BA_W36 PA_W36 BB_W36 PB_W36
          refine hK.out _ _ (HM_wd.out _ WD_W37.out) (fun _ => ?_)
          clear hK K
          try simp only [Act.put, List.setIfInBounds_toArray, List.set_cons_zero, List.set_cons_succ]
          generalize (W36.setCell ⟨gx, 0, none⟩ (.slice X1 T1.ns.length x1)).setCell ⟨gx, 1, none⟩ (.slice Y1 T1.es.length y1) = W37 at *
          refine wpAnyH_ready (rs := [11]) (by kernel_rfl) (by simp) ?_
          refine AllReadyH.cons (oper_at (r := _) rfl) (fun K hK => ?_) AllReadyH.nil
          have fr0 := BB_W37.out.free 0
          have fr1 := BB_W37.out.free 1
          obtain ⟨e0, e1⟩ := BB_W37.out.cells
          go_simp
          clear fr0 fr1 e0 e1
          have S_W38 := Lib.hid (S_W37.out.set (g := gy) (by simp; omega) (.slice X2 T2.ns.length x2) (.slice Y2 T2.es.length y2))
          have WD_W38 := Lib.hid ((WD_W37.out.setCell (p := ⟨gy, 0, none⟩) (by show wd.heap.size ≤ gy; omega) (.slice X2 T2.ns.length x2)).setCell (p := ⟨gy, 1, none⟩) (by show wd.heap.size ≤ gy; omega) (.slice Y2 T2.es.length y2))
          have BA_W38 := Lib.hid (BA_W37.out.far ngygx (.slice X2 T2.ns.length x2) (.slice Y2 T2.es.length y2))
          have PA_W38 := Lib.hid (ptAt_set PA_W37.out BB_W37.out (.slice X2 T2.ns.length x2) (.slice Y2 T2.es.length y2))
          have BB_W38 := Lib.hid (BB_W37.out.put (.slice X2 T2.ns.length x2) (.slice Y2 T2.es.length y2))
          have PB_W38 := Lib.hid (ptAt_set PB_W37.out BB_W37.out (.slice X2 T2.ns.length x2) (.slice Y2 T2.es.length y2))
          clear S_W37 WD_W37 BA_W37 PA_W37 BB_W37 PB_W37
          refine hK.out _ _ (HM_wd.out _ WD_W38.out) (fun _ => ?_)
          clear hK K
          try simp only [Act.put, List.setIfInBounds_toArray, List.set_cons_zero, List.set_cons_succ]
          generalize (W37.setCell ⟨gy, 0, none⟩ (.slice X2 T2.ns.length x2)).setCell ⟨gy, 1, none⟩ (.slice Y2 T2.es.length y2) = W38 at *
          refine wpAnyH_done (by kernel_rfl) ?_ _
          refine NoPanic.normal ?_
          go_wp2_with fail
          go_meet
          exact ⟨gx, gy, X1, x1, Y1, y1, X2, x2, Y2, y2, rfl, rfl, BA_W38.out, BB_W38.out, PA_W38.out, PB_W38.out, S_W38.out⟩
      · skip
        obtain ⟨gy, hg⟩ : ∃ g, g = W29.heap.size := ⟨_, rfl⟩
        have lgy : wd.heap.size ≤ gy := by rw [hg]; exact WD_W29.out.size
        have ngygx : gx ≠ gy := by have := BA_W29.out.lt; omega
        have ngxgy : gy ≠ gx := Ne.symm ngygx
        have hx : BX gy (.slice none 0 0) (.slice none 0 0) 27 (W29.alloc (.cells #[.slice none 0 0, .slice none 0 0] 27)) := by rw [hg]; exact heap_alloc_new _ _
        have hb : Below W29.heap.size W29 (W29.alloc (.cells #[.slice none 0 0, .slice none 0 0] 27)) := (Below.refl _ _).alloc (Nat.le_refl _) _
        have S_W39 := Lib.hid (S_W29.out.up hb)
        have WD_W39 := Lib.hid (WD_W29.out.trans (hb.mono WD_W29.out.size))
        have BA_W39 := Lib.hid (BA_W29.out.up hb)
        clear S_W29 WD_W29 BA_W29
        have BB_W39 := Lib.hid hx
        clear hx hb
        go_simp
        refine hK.out _ _ (HM_wd.out _ WD_W39.out) (fun _ => ?_)
        clear hK K
        try simp only [Act.put, List.setIfInBounds_toArray, List.set_cons_zero, List.set_cons_succ]
        generalize W29.alloc (.cells #[.slice none 0 0, .slice none 0 0] 27) = W39 at *
        try rw [← hg]
        clear hg
        refine wpAnyH_ready (rs := [3]) (by kernel_rfl) (by simp) ?_
        refine AllReadyH.cons (oper_at (r := _) rfl) (fun K hK => ?_) AllReadyH.nil
        go_simp
        refine (HMA9.out _ S_W39.out.1).mono ?_
        rintro e W40 ⟨⟨X1, x1, Y1, y1, rfl, r1⟩, hb⟩
        have S_W40 := Lib.hid (S_W39.out.up hb)
        have WD_W40 := Lib.hid (WD_W39.out.trans (hb.mono WD_W39.out.size))
        have BA_W40 := Lib.hid (BA_W39.out.up hb)
        have BB_W40 := Lib.hid (BB_W39.out.up hb)
        clear S_W39 WD_W39 BA_W39 BB_W39
        have PA_W40 := Lib.hid r1
        clear hb r1
        go_wp2_with fail
        refine hK.out _ _ (HM_wd.out _ WD_W40.out) (fun _ => ?_)
        clear hK K
        try simp only [Act.put, List.setIfInBounds_toArray, List.set_cons_zero, List.set_cons_succ]
        refine wpAnyH_ready (rs := [7]) (by kernel_rfl) (by simp) ?_
        refine AllReadyH.cons (oper_at (r := _) rfl) (fun K hK => ?_) AllReadyH.nil
        go_simp
        refine (HMB9.out _ S_W40.out.1).mono ?_
        rintro e W41 ⟨⟨X2, x2, Y2, y2, rfl, r1⟩, hb⟩
        have S_W41 := Lib.hid (S_W40.out.up hb)
        have WD_W41 := Lib.hid (WD_W40.out.trans (hb.mono WD_W40.out.size))
        have BA_W41 := Lib.hid (BA_W40.out.up hb)
        have BB_W41 := Lib.hid (BB_W40.out.up hb)
        have PA_W41 := Lib.hid (PA_W40.out.up hb)
        clear S_W40 WD_W40 BA_W40 BB_W40 PA_W40
        have PB_W41 := Lib.hid r1
        clear hb r1
        go_wp2_with fail
        refine hK.out _ _ (HM_wd.out _ WD_W41.out) (fun _ => ?_)
        clear hK K
        try simp only [Act.put, List.setIfInBounds_toArray, List.set_cons_zero, List.set_cons_succ]
        refine wpAnyH_ready (rs := [10]) (by kernel_rfl) (by simp) ?_
        refine AllReadyH.cons (oper_at (r := _) rfl) (fun K hK => ?_) AllReadyH.nil
        have fr0 := BA_W41.out.free 0
        have fr1 := BA_W41.out.free 1
        obtain ⟨e0, e1⟩ := BA_W41.out.cells
        go_simp
        clear fr0 fr1 e0 e1
        have S_W42 := Lib.hid (S_W41.out.set (g := gx) (by simp; omega) (.slice X1 T1.ns.length x1) (.slice Y1 T1.es.length y1))
        have WD_W42 := Lib.hid ((WD_W41.out.setCell (p := ⟨gx, 0, none⟩) (by show wd.heap.size ≤ gx; omega) (.slice X1 T1.ns.length x1)).setCell (p := ⟨gx, 1, none⟩) (by show wd.heap.size ≤ gx; omega) (.slice Y1 T1.es.length y1))
        have BA_W42 := Lib.hid (BA_W41.out.put (.slice X1 T1.ns.length x1) (.slice Y1 T1.es.length y1))
        have BB_W42 := Lib.hid (BB_W41.out.far ngxgy (.slice X1 T1.ns.length x1) (.slice Y1 T1.es.length y1))
        have PA_W42 := Lib.hid (ptAt_set PA_W41.out BA_W41.out (.slice X1 T1.ns.length x1) (.slice Y1 T1.es.length y1))
        have PB_W42 := Lib.hid (ptAt_set PB_W41.out BA_W41.out (.slice X1 T1.ns.length x1) (.slice Y1 T1.es.length y1))
        clear S_W41 WD_W41 BA_W41 BB_W41 PA_W41 PB_W41
        refine hK.out _ _ (HM_wd.out _ WD_W42.out) (fun _ => ?_)
        clear hK K
        try simp only [Act.put, List.setIfInBounds_toArray, List.set_cons_zero, List.set_cons_succ]
        generalize (W41.setCell ⟨gx, 0, none⟩ (.slice X1 T1.ns.length x1)).setCell ⟨gx, 1, none⟩ (.slice Y1 T1.es.length y1) = W42 at *
        refine wpAnyH_ready (rs := [11]) (by kernel_rfl) (by simp) ?_
        refine AllReadyH.cons (oper_at (r := _) rfl) (fun K hK => ?_) AllReadyH.nil
        have fr0 := BB_W42.out.free 0
        have fr1 := BB_W42.out.free 1
        obtain ⟨e0, e1⟩ := BB_W42.out.cells
        go_simp
        clear fr0 fr1 e0 e1
        have S_W43 := Lib.hid (S_W42.out.set (g := gy) (by simp; omega) (.slice X2 T2.ns.length x2) (.slice Y2 T2.es.length y2))
        have WD_W43 := Lib.hid ((WD_W42.out.setCell (p := ⟨gy, 0, none⟩) (by show wd.heap.size ≤ gy; omega) (.slice X2 T2.ns.length x2)).setCell (p := ⟨gy, 1, none⟩) (by show wd.heap.size ≤ gy; omega) (.slice Y2 T2.es.length y2))
        have BA_W43 := Lib.hid (BA_W42.out.far ngygx (.slice X2 T2.ns.length x2) (.slice Y2 T2.es.length y2))
        have BB_W43 := Lib.hid (BB_W42.out.put (.slice X2 T2.ns.length x2) (.slice Y2 T2.es.length y2))
        have PA_W43 := Lib.hid (ptAt_set PA_W42.out BB_W42.out (.slice X2 T2.ns.length x2) (.slice Y2 T2.es.length y2))
        have PB_W43 := Lib.hid (ptAt_set PB_W42.out BB_W42.out (.slice X2 T2.ns.length x2) (.slice Y2 T2.es.length y2))
        clear S_W42 WD_W42 BA_W42 BB_W42 PA_W42 PB_W42
        refine hK.out _ _ (HM_wd.out _ WD_W43.out) (fun _ => ?_)
        clear hK K
        try simp only [Act.put, List.setIfInBounds_toArray, List.set_cons_zero, List.set_cons_succ]
        generalize (W42.setCell ⟨gy, 0, none⟩ (.slice X2 T2.ns.length x2)).setCell ⟨gy, 1, none⟩ (.slice Y2 T2.es.length y2) = W43 at *
        refine wpAnyH_done (by kernel_rfl) ?_ _
        refine NoPanic.normal ?_
        go_wp2_with fail
        go_meet
        exact ⟨gx, gy, X1, x1, Y1, y1, X2, x2, Y2, y2, rfl, rfl, BA_W43.out, BB_W43.out, PA_W43.out, PB_W43.out, S_W43.out⟩
    · skip
      obtain ⟨gy, hg⟩ : ∃ g, g = wd.heap.size := ⟨_, rfl⟩
      have lgy : wd.heap.size ≤ gy := by rw [hg]; exact WD_wd.out.size
      have hx : BX gy (.slice none 0 0) (.slice none 0 0) 27 (wd.alloc (.cells #[.slice none 0 0, .slice none 0 0] 27)) := by rw [hg]; exact heap_alloc_new _ _
      have hb : Below wd.heap.size wd (wd.alloc (.cells #[.slice none 0 0, .slice none 0 0] 27)) := (Below.refl _ _).alloc (Nat.le_refl _) _
      have S_W44 := Lib.hid (S_wd.out.up hb)
      have WD_W44 := Lib.hid (WD_wd.out.trans (hb.mono WD_wd.out.size))
      clear S_wd WD_wd
      have BB_W44 := Lib.hid hx
      clear hx hb
      go_simp
      refine hK.out _ _ (HM_wd.out _ WD_W44.out) (fun _ => ?_)
      clear hK K
      try simp only [Act.put, List.setIfInBounds_toArray, List.set_cons_zero, List.set_cons_succ]
      generalize wd.alloc (.cells #[.slice none 0 0, .slice none 0 0] 27) = W44 at *
      try rw [← hg]
      clear hg
      refine wpAnyH_ready (rs := [3, 8]) (by kernel_rfl) (by simp) ?_
      refine (AllReadyH.cons (oper_at (r := _) rfl) (fun K hK => ?_) (AllReadyH.cons (oper_at (r := _) rfl) (fun K hK => ?_) AllReadyH.nil))
      · skip
        go_simp
        refine (HMA9.out _ S_W44.out.1).mono ?_
        rintro e W45 ⟨⟨X1, x1, Y1, y1, rfl, r1⟩, hb⟩
        have S_W45 := Lib.hid (S_W44.out.up hb)
        have WD_W45 := Lib.hid (WD_W44.out.trans (hb.mono WD_W44.out.size))
        have BB_W45 := Lib.hid (BB_W44.out.up hb)
        clear S_W44 WD_W44 BB_W44
        have PA_W45 := Lib.hid r1
        clear hb r1
        go_wp2_with fail
        refine hK.out _ _ (HM_wd.out _ WD_W45.out) (fun _ => ?_)
        clear hK K
        try simp only [Act.put, List.setIfInBounds_toArray, List.set_cons_zero, List.set_cons_succ]
        refine wpAnyH_ready (rs := [7, 8]) (by kernel_rfl) (by simp) ?_
        refine (AllReadyH.cons (oper_at (r := _) rfl) (fun K hK => ?_) (AllReadyH.cons (oper_at (r := _) rfl) (fun K hK => ?_) AllReadyH.nil))
        · skip
          go_simp
          refine (HMB9.out _ S_W45.out.1).mono ?_
          rintro e W46 ⟨⟨X2, x2, Y2, y2, rfl, r1⟩, hb⟩
          have S_W46 := Lib.hid (S_W45.out.up hb)
          have WD_W46 := Lib.hid (WD_W45.out.trans (hb.mono WD_W45.out.size))
          have BB_W46 := Lib.hid (BB_W45.out.up hb)
          have PA_W46 := Lib.hid (PA_W45.out.up hb)
          clear S_W45 WD_W45 BB_W45 PA_W45
          have PB_W46 := Lib.hid r1
          clear hb r1
          go_wp2_with fail
          refine hK.out _ _ (HM_wd.out _ WD_W46.out) (fun _ => ?_)
          clear hK K
          try simp only [Act.put, List.setIfInBounds_toArray, List.set_cons_zero, List.set_cons_succ]
          refine wpAnyH_ready (rs := [8]) (by kernel_rfl) (by simp) ?_
          refine AllReadyH.cons (oper_at (r := _) rfl) (fun K hK => ?_) AllReadyH.nil
          obtain ⟨gx, hg⟩ : ∃ g, g = W46.heap.size := ⟨_, rfl⟩
          have lgx : wd.heap.size ≤ gx := by rw [hg]; exact WD_W46.out.size
          have ngxgy : gy ≠ gx := by have := BB_W46.out.lt; omega
          have ngygx : gx ≠ gy := Ne.symm ngxgy
          have hx : BX gx (.slice none 0 0) (.slice none 0 0) 27 (W46.alloc (.cells #[.slice none 0 0, .slice none 0 0] 27)) := by rw [hg]; exact heap_alloc_new _ _
          have hb : Below W46.heap.size W46 (W46.alloc (.cells #[.slice none 0 0, .slice none 0 0] 27)) := (Below.refl _ _).alloc (Nat.le_refl _) _
          have S_W47 := Lib.hid (S_W46.out.up hb)
          have WD_W47 := Lib.hid (WD_W46.out.trans (hb.mono WD_W46.out.size))
          have BB_W47 := Lib.hid (BB_W46.out.up hb)
          have PA_W47 := Lib.hid (PA_W46.out.up hb)
          have PB_W47 := Lib.hid (PB_W46.out.up hb)
          clear S_W46 WD_W46 BB_W46 PA_W46 PB_W46
          have BA_W47 := Lib.hid hx
          clear hx hb
          go_simp
          refine hK.out _ _ (HM_wd.out _ WD_W47.out) (fun _ => ?_)
          clear hK K
          try simp only [Act.put, List.setIfInBounds_toArray, List.set_cons_zero, List.set_cons_succ]
          generalize W46.alloc (.cells #[.slice none 0 0, .slice none 0 0] 27) = W47 at *
          try rw [← hg]
          clear hg
          refine wpAnyH_ready (rs := [10]) (by kernel_rfl) (by simp) ?_
          refine AllReadyH.cons (oper_at (r := _) rfl) (fun K hK => ?_) AllReadyH.nil
          have fr0 := BA_W47.out.free 0
          have fr1 := BA_W47.out.free 1
          obtain ⟨e0, e1⟩ := BA_W47.out.cells
          go_simp
          clear fr0 fr1 e0 e1
          have S_W48 := Lib.hid (S_W47.out.set (g := gx) (by simp; omega) (.slice X1 T1.ns.length x1) (.slice Y1 T1.es.length y1))
          have WD_W48 := Lib.hid ((WD_W47.out.setCell (p := ⟨gx, 0, none⟩) (by show wd.heap.size ≤ gx; omega) (.slice X1 T1.ns.length x1)).setCell (p := ⟨gx, 1, none⟩) (by show wd.heap.size ≤ gx; omega) (.slice Y1 T1.es.length y1))
          have BB_W48 := Lib.hid (BB_W47.out.far ngxgy (.slice X1 T1.ns.length x1) (.slice Y1 T1.es.length y1))
          have PA_W48 := Lib.hid (ptAt_set PA_W47.out BA_W47.out (.slice X1 T1.ns.length x1) (.slice Y1 T1.es.length y1))
          have PB_W48 := Lib.hid (ptAt_set PB_W47.out BA_W47.out (.slice X1 T1.ns.length x1) (.slice Y1 T1.es.length y1))
          have BA_W48 := Lib.hid (BA_W47.out.put (.slice X1 T1.ns.length x1) (.slice Y1 T1.es.length y1))
          clear S_W47 WD_W47 BB_W47 PA_W47 PB_W47 BA_W47
          refine hK.out _ _ (HM_wd.out _ WD_W48.out) (fun _ => ?_)
          clear hK K
          try simp only [Act.put, List.setIfInBounds_toArray, List.set_cons_zero, List.set_cons_succ]
          generalize (W47.setCell ⟨gx, 0, none⟩ (.slice X1 T1.ns.length x1)).setCell ⟨gx, 1, none⟩ (.slice Y1 T1.es.length y1) = W48 at *
          refine wpAnyH_ready (rs := [11]) (by kernel_rfl) (by simp) ?_
          refine AllReadyH.cons (oper_at (r := _) rfl) (fun K hK => ?_) AllReadyH.nil
          have fr0 := BB_W48.out.free 0
          have fr1 := BB_W48.out.free 1
          obtain ⟨e0, e1⟩ := BB_W48.out.cells
          go_simp
          clear fr0 fr1 e0 e1
          have S_W49 := Lib.hid (S_W48.out.set (g := gy) (by simp; omega) (.slice X2 T2.ns.length x2) (.slice Y2 T2.es.length y2))
          have WD_W49 := Lib.hid ((WD_W48.out.setCell (p := ⟨gy, 0, none⟩) (by show wd.heap.size ≤ gy; omega) (.slice X2 T2.ns.length x2)).setCell (p := ⟨gy, 1, none⟩) (by show wd.heap.size ≤ gy; omega) (.slice Y2 T2.es.length y2))
          have BB_W49 := Lib.hid (BB_W48.out.put (.slice X2 T2.ns.length x2) (.slice Y2 T2.es.length y2))
          have PA_W49 := Lib.hid (ptAt_set PA_W48.out BB_W48.out (.slice X2 T2.ns.length x2) (.slice Y2 T2.es.length y2))
          have PB_W49 := Lib.hid (ptAt_set PB_W48.out BB_W48.out (.slice X2 T2.ns.length x2) (.slice Y2 T2.es.length y2))
          have BA_W49 := Lib.hid (BA_W48.out.far ngygx (.slice X2 T2.ns.length x2) (.slice Y2 T2.es.length y2))
          clear S_W48 WD_W48 BB_W48 PA_W48 PB_W48 BA_W48
          refine hK.out _ _ (HM_wd.out _ WD_W49.out) (fun _ => ?_)
          clear hK K
          try simp only [Act.put, List.setIfInBounds_toArray, List.set_cons_zero, List.set_cons_succ]
          generalize (W48.setCell ⟨gy, 0, none⟩ (.slice X2 T2.ns.length x2)).setCell ⟨gy, 1, none⟩ (.slice Y2 T2.es.length y2) = W49 at *
          refine wpAnyH_done (by kernel_rfl) ?_ _
          refine NoPanic.normal ?_
          go_wp2_with fail
          go_meet
          exact ⟨gx, gy, X1, x1, Y1, y1, X2, x2, Y2, y2, rfl, rfl, BA_W49.out, BB_W49.out, PA_W49.out, PB_W49.out, S_W49.out⟩
        · skip
          obtain ⟨gx, hg⟩ : ∃ g, g = W45.heap.size := ⟨_, rfl⟩
          have lgx : wd.heap.size ≤ gx := by rw [hg]; exact WD_W45.out.size
          have ngxgy : gy ≠ gx := by have := BB_W45.out.lt; omega
          have ngygx : gx ≠ gy := Ne.symm ngxgy
          have hx : BX gx (.slice none 0 0) (.slice none 0 0) 27 (W45.alloc (.cells #[.slice none 0 0, .slice none 0 0] 27)) := by rw [hg]; exact heap_alloc_new _ _
          have hb : Below W45.heap.size W45 (W45.alloc (.cells #[.slice none 0 0, .slice none 0 0] 27)) := (Below.refl _ _).alloc (Nat.le_refl _) _
          have S_W50 := Lib.hid (S_W45.out.up hb)
          have WD_W50 := Lib.hid (WD_W45.out.trans (hb.mono WD_W45.out.size))
          have BB_W50 := Lib.hid (BB_W45.out.up hb)
          have PA_W50 := Lib.hid (PA_W45.out.up hb)
          clear S_W45 WD_W45 BB_W45 PA_W45
          have BA_W50 := Lib.hid hx
          clear hx hb
          go_simp
          refine hK.out _ _ (HM_wd.out _ WD_W50.out) (fun _ => ?_)
          clear hK K
          try simp only [Act.put, List.setIfInBounds_toArray, List.set_cons_zero, List.set_cons_succ]
          generalize W45.alloc (.cells #[.slice none 0 0, .slice none 0 0] 27) = W50 at *
          try rw [← hg]
          clear hg
          refine wpAnyH_ready (rs := [7]) (by kernel_rfl) (by simp) ?_
          refine AllReadyH.cons (oper_at (r := _) rfl) (fun K hK => ?_) AllReadyH.nil
          go_simp
          refine (HMB9.out _ S_W50.out.1).mono ?_
          rintro e W51 ⟨⟨X2, x2, Y2, y2, rfl, r1⟩, hb⟩
          have S_W51 := Lib.hid (S_W50.out.up hb)
          have WD_W51 := Lib.hid (WD_W50.out.trans (hb.mono WD_W50.out.size))
          have BB_W51 := Lib.hid (BB_W50.out.up hb)
          have PA_W51 := Lib.hid (PA_W50.out.up hb)
          have BA_W51 := Lib.hid (BA_W50.out.up hb)
          clear S_W50 WD_W50 BB_W50 PA_W50 BA_W50
          have PB_W51 := Lib.hid r1
          clear hb r1
          go_wp2_with fail
          refine hK.out _ _ (HM_wd.out _ WD_W51.out) (fun _ => ?_)
          clear hK K
          try simp only [Act.put, List.setIfInBounds_toArray, List.set_cons_zero, List.set_cons_succ]
          refine wpAnyH_ready (rs := [10]) (by kernel_rfl) (by simp) ?_
          refine AllReadyH.cons (oper_at (r := _) rfl) (fun K hK => ?_) AllReadyH.nil
          have fr0 := BA_W51.out.free 0
          have fr1 := BA_W51.out.free 1
          obtain ⟨e0, e1⟩ := BA_W51.out.cells
          go_simp
          clear fr0 fr1 e0 e1
          have S_W52 := Lib.hid (S_W51.out.set (g := gx) (by simp; omega) (.slice X1 T1.ns.length x1) (.slice Y1 T1.es.length y1))
          have WD_W52 := Lib.hid ((WD_W51.out.setCell (p := ⟨gx, 0, none⟩) (by show wd.heap.size ≤ gx; omega) (.slice X1 T1.ns.length x1)).setCell (p := ⟨gx, 1, none⟩) (by show wd.heap.size ≤ gx; omega) (.slice Y1 T1.es.length y1))
          have BB_W52 := Lib.hid (BB_W51.out.far ngxgy (.slice X1 T1.ns.length x1) (.slice Y1 T1.es.length y1))
          have PA_W52 := Lib.hid (ptAt_set PA_W51.out BA_W51.out (.slice X1 T1.ns.length x1) (.slice Y1 T1.es.length y1))
          have BA_W52 := Lib.hid (BA_W51.out.put (.slice X1 T1.ns.length x1) (.slice Y1 T1.es.length y1))
          have PB_W52 := Lib.hid (ptAt_set PB_W51.out BA_W51.out (.slice X1 T1.ns.length x1) (.slice Y1 T1.es.length y1))
          clear S_W51 WD_W51 BB_W51 PA_W51 BA_W51 PB_W51
          refine hK.out _ _ (HM_wd.out _ WD_W52.out) (fun _ => ?_)
          clear hK K
          try simp only [Act.put, List.setIfInBounds_toArray, List.set_cons_zero, List.set_cons_succ]
          generalize (W51.setCell ⟨gx, 0, none⟩ (.slice X1 T1.ns.length x1)).setCell ⟨gx, 1, none⟩ (.slice Y1 T1.es.length y1) = W52 at *
          refine wpAnyH_ready (rs := [11]) (by kernel_rfl) (by simp) ?_
          refine AllReadyH.cons (oper_at (r := _) rfl) (fun K hK => ?_) AllReadyH.nil
          have fr0 := BB_W52.out.free 0
          have fr1 := BB_W52.out.free 1
          obtain ⟨e0, e1⟩ := BB_W52.out.cells
          go_simp
          clear fr0 fr1 e0 e1
          have S_W53 := Lib.hid (S_W52.out.set (g := gy) (by simp; omega) (.slice X2 T2.ns.length x2) (.slice Y2 T2.es.length y2))
          have WD_W53 := Lib.hid ((WD_W52.out.setCell (p := ⟨gy, 0, none⟩) (by show wd.heap.size ≤ gy; omega) (.slice X2 T2.ns.length x2)).setCell (p := ⟨gy, 1, none⟩) (by show wd.heap.size ≤ gy; omega) (.slice Y2 T2.es.length y2))
          have BB_W53 := Lib.hid (BB_W52.out.put (.slice X2 T2.ns.length x2) (.slice Y2 T2.es.length y2))
          have PA_W53 := Lib.hid (ptAt_set PA_W52.out BB_W52.out (.slice X2 T2.ns.length x2) (.slice Y2 T2.es.length y2))
          have BA_W53 := Lib.hid (BA_W52.out.far ngygx (.slice X2 T2.ns.length x2) (.slice Y2 T2.es.length y2))
          have PB_W53 := Lib.hid (ptAt_set PB_W52.out BB_W52.out (.slice X2 T2.ns.length x2) (.slice Y2 T2.es.length y2))
          clear S_W52 WD_W52 BB_W52 PA_W52 BA_W52 PB_W52
          refine hK.out _ _ (HM_wd.out _ WD_W53.out) (fun _ => ?_)
          clear hK K
          try simp only [Act.put, List.setIfInBounds_toArray, List.set_cons_zero, List.set_cons_succ]
          generalize (W52.setCell ⟨gy, 0, none⟩ (.slice X2 T2.ns.length x2)).setCell ⟨gy, 1, none⟩ (.slice Y2 T2.es.length y2) = W53 at *
          refine wpAnyH_done (by kernel_rfl) ?_ _
          refine NoPanic.normal ?_
          go_wp2_with fail
          go_meet
          exact ⟨gx, gy, X1, x1, Y1, y1, X2, x2, Y2, y2, rfl, rfl, BA_W53.out, BB_W53.out, PA_W53.out, PB_W53.out, S_W53.out⟩
      · skip
        obtain ⟨gx, hg⟩ : ∃ g, g = W44.heap.size := ⟨_, rfl⟩
        have lgx : wd.heap.size ≤ gx := by rw [hg]; exact WD_W44.out.size
        have ngxgy : gy ≠ gx := by have := BB_W44.out.lt; omega
        have ngygx : gx ≠ gy := Ne.symm ngxgy
        have hx : BX gx (.slice none 0 0) (.slice none 0 0) 27 (W44.alloc (.cells #[.slice none 0 0, .slice none 0 0] 27)) := by rw [hg]; exact heap_alloc_new _ _
        have hb : Below W44.heap.size W44 (W44.alloc (.cells #[.slice none 0 0, .slice none 0 0] 27)) := (Below.refl _ _).alloc (Nat.le_refl _) _
        have S_W54 := Lib.hid (S_W44.out.up hb)
        have WD_W54 := Lib.hid (WD_W44.out.trans (hb.mono WD_W44.out.size))
        have BB_W54 := Lib.hid (BB_W44.out.up hb)
        clear S_W44 WD_W44 BB_W44
        have BA_W54 := Lib.hid hx
        clear hx hb
        go_simp
        refine hK.out _ _ (HM_wd.out _ WD_W54.out) (fun _ => ?_)
        clear hK K
        try simp only [Act.put, List.setIfInBounds_toArray, List.set_cons_zero, List.set_cons_succ]
        generalize W44.alloc (.cells #[.slice none 0 0, .slice none 0 0] 27) = W54 at *
        try rw [← hg]
        clear hg
        refine wpAnyH_ready (rs := [3]) (by kernel_rfl) (by simp) ?_
        refine AllReadyH.cons (oper_at (r := _) rfl) (fun K hK => ?_) AllReadyH.nil
        go_simp
        refine (HMA9.out _ S_W54.out.1).mono ?_
        rintro e W55 ⟨⟨X1, x1, Y1, y1, rfl, r1⟩, hb⟩
        have S_W55 := Lib.hid (S_W54.out.up hb)
        have WD_W55 := Lib.hid (WD_W54.out.trans (hb.mono WD_W54.out.size))
        have BB_W55 := Lib.hid (BB_W54.out.up hb)
        have BA_W55 := Lib.hid (BA_W54.out.up hb)
        clear S_W54 WD_W54 BB_W54 BA_W54
        have PA_W55 := Lib.hid r1
        clear hb r1
        go_wp2_with fail
        refine hK.out _ _ (HM_wd.out _ WD_W55.out) (fun _ => ?_)
        clear hK K
        try simp only [Act.put, List.setIfInBounds_toArray, List.set_cons_zero, List.set_cons_succ]
        refine wpAnyH_ready (rs := [7]) (by kernel_rfl) (by simp) ?_
        refine AllReadyH.cons (oper_at (r := _) rfl) (fun K hK => ?_) AllReadyH.nil
        go_simp
        refine (HMB9.out _ S_W55.out.1).mono ?_
        rintro e W56 ⟨⟨X2, x2, Y2, y2, rfl, r1⟩, hb⟩
        have S_W56 := Lib.hid (S_W55.out.up hb)
        have WD_W56 := Lib.hid (WD_W55.out.trans (hb.mono WD_W55.out.size))
        have BB_W56 := Lib.hid (BB_W55.out.up hb)
        have BA_W56 := Lib.hid (BA_W55.out.up hb)
        have PA_W56 := Lib.hid (PA_W55.out.up hb)
        clear S_W55 WD_W55 BB_W55 BA_W55 PA_W55
        have PB_W56 := Lib.hid r1
        clear hb r1
        go_wp2_with fail
        refine hK.out _ _ (HM_wd.out _ WD_W56.out) (fun _ => ?_)
        clear hK K
        try simp only [Act.put, List.setIfInBounds_toArray, List.set_cons_zero, List.set_cons_succ]
        refine wpAnyH_ready (rs := [10]) (by kernel_rfl) (by simp) ?_
        refine AllReadyH.cons (oper_at (r := _) rfl) (fun K hK => ?_) AllReadyH.nil
        have fr0 := BA_W56.out.free 0
        have fr1 := BA_W56.out.free 1
        obtain ⟨e0, e1⟩ := BA_W56.out.cells
        go_simp
        clear fr0 fr1 e0 e1
        have S_W57 := Lib.hid (S_W56.out.set (g := gx) (by simp; omega) (.slice X1 T1.ns.length x1) (.slice Y1 T1.es.length y1))
        have WD_W57 := Lib.hid ((WD_W56.out.setCell (p := ⟨gx, 0, none⟩) (by show wd.heap.size ≤ gx; omega) (.slice X1 T1.ns.length x1)).setCell (p := ⟨gx, 1, none⟩) (by show wd.heap.size ≤ gx; omega) (.slice Y1 T1.es.length y1))
        have BB_W57 := Lib.hid (BB_W56.out.far ngxgy (.slice X1 T1.ns.length x1) (.slice Y1 T1.es.length y1))
        have BA_W57 := Lib.hid (BA_W56.out.put (.slice X1 T1.ns.length x1) (.slice Y1 T1.es.length y1))
        have PA_W57 := Lib.hid (ptAt_set PA_W56.out BA_W56.out (.slice X1 T1.ns.length x1) (.slice Y1 T1.es.length y1))
        have PB_W57 := Lib.hid (ptAt_set PB_W56.out BA_W56.out (.slice X1 T1.ns.length x1) (.slice Y1 T1.es.length y1))
        clear S_W56 WD_W56 BB_W56 BA_W56 PA_W56 PB_W56
        refine hK.out _ _ (HM_wd.out _ WD_W57.out) (fun _ => ?_)
        clear hK K
        try simp only [Act.put, List.setIfInBounds_toArray, List.set_cons_zero, List.set_cons_succ]
        generalize (W56.setCell ⟨gx, 0, none⟩ (.slice X1 T1.ns.length x1)).setCell ⟨gx, 1, none⟩ (.slice Y1 T1.es.length y1) = W57 at *
        refine wpAnyH_ready (rs := [11]) (by kernel_rfl) (by simp) ?_
        refine AllReadyH.cons (oper_at (r := _) rfl) (fun K hK => ?_) AllReadyH.nil
        have fr0 := BB_W57.out.free 0
        have fr1 := BB_W57.out.free 1
        obtain ⟨e0, e1⟩ := BB_W57.out.cells
        go_simp
        clear fr0 fr1 e0 e1
        have S_W58 := Lib.hid (S_W57.out.set (g := gy) (by simp; omega) (.slice X2 T2.ns.length x2) (.slice Y2 T2.es.length y2))
        have WD_W58 := Lib.hid ((WD_W57.out.setCell (p := ⟨gy, 0, none⟩) (by show wd.heap.size ≤ gy; omega) (.slice X2 T2.ns.length x2)).setCell (p := ⟨gy, 1, none⟩) (by show wd.heap.size ≤ gy; omega) (.slice Y2 T2.es.length y2))
        have BB_W58 := Lib.hid (BB_W57.out.put (.slice X2 T2.ns.length x2) (.slice Y2 T2.es.length y2))
        have BA_W58 := Lib.hid (BA_W57.out.far ngygx (.slice X2 T2.ns.length x2) (.slice Y2 T2.es.length y2))
        have PA_W58 := Lib.hid (ptAt_set PA_W57.out BB_W57.out (.slice X2 T2.ns.length x2) (.slice Y2 T2.es.length y2))
        have PB_W58 := Lib.hid (ptAt_set PB_W57.out BB_W57.out (.slice X2 T2.ns.length x2) (.slice Y2 T2.es.length y2))
        clear S_W57 WD_W57 BB_W57 BA_W57 PA_W57 PB_W57
        refine hK.out _ _ (HM_wd.out _ WD_W58.out) (fun _ => ?_)
        clear hK K
        try simp only [Act.put, List.setIfInBounds_toArray, List.set_cons_zero, List.set_cons_succ]
        generalize (W57.setCell ⟨gy, 0, none⟩ (.slice X2 T2.ns.length x2)).setCell ⟨gy, 1, none⟩ (.slice Y2 T2.es.length y2) = W58 at *
        refine wpAnyH_done (by kernel_rfl) ?_ _
        refine NoPanic.normal ?_
        go_wp2_with fail
        go_meet
        exact ⟨gx, gy, X1, x1, Y1, y1, X2, x2, Y2, y2, rfl, rfl, BA_W58.out, BB_W58.out, PA_W58.out, PB_W58.out, S_W58.out⟩
  case rest =>
    obtain ⟨g1, g2, X1, x1, Y1, y1, X2, x2, Y2, y2, rfl, rfl, hb1, hb2, hp1, hp2, hS⟩ := hcut
    have B1_wc := Lib.hid hb1
    have B2_wc := Lib.hid hb2
    have PA_wc := Lib.hid hp1
    have PB_wc := Lib.hid hp2
    have S_wc := Lib.hid hS
    clear hb1 hb2 hp1 hp2 hS HS3
    have c0 := S_wc.out.cell (i := 0) (j := 0) rfl rfl
    have c1 := S_wc.out.cell (i := 0) (j := 1) rfl rfl
    have c2 := S_wc.out.cell (i := 0) (j := 2) rfl rfl
    have c3 := S_wc.out.cell (i := 0) (j := 3) rfl rfl
    have c4 := S_wc.out.cell (i := 0) (j := 4) rfl rfl
    have c5 := S_wc.out.cell (i := 0) (j := 5) rfl rfl
    simp only [Nat.add_zero] at c0 c1 c2 c3 c4 c5
    obtain ⟨m10, m11⟩ := B1_wc.out.cells
    go_wp2_with fail
    refine (HEX9.out X1 x1 Y1 y1 _ S_wc.out.1 PA_wc.out).mono ?_
    rintro e w5 ⟨⟨Sn, sn, Se, se, X3, x3, Y3, y3, rfl, hgr, r1, r2, _, _⟩, hb⟩
    have S_w5 := Lib.hid (S_wc.out.up hb)
    have B1_w5 := Lib.hid (B1_wc.out.up hb)
    have B2_w5 := Lib.hid (B2_wc.out.up hb)
    have PA_w5 := Lib.hid (PA_wc.out.up hb)
    have PB_w5 := Lib.hid (PB_wc.out.up hb)
    clear S_wc B1_wc B2_wc PA_wc PB_wc
    have GS_w5 := Lib.hid hgr
    have P3_w5 := Lib.hid (show PtAt w5 X3 Y3 T1 from ⟨r1, r2, PA_w5.out.ln, PA_w5.out.le⟩)
    clear hb hgr r1 r2 c0 c1 c2 c3 c4 c5 m10 m11
    go_upto_region 5 with fail
    have hb : Below w5.heap.size w5 ((w5.alloc (.cells #[.slice Sn Q.ns.length sn, .slice Se Q.es.length se] 25)).alloc (.cells #[.slice X3 T1.ns.length x3, .slice Y3 T1.es.length y3] 42)) := ((Below.refl _ _).alloc (Nat.le_refl _) _).alloc (by simp) _
    have B3_W5 : Hid (BX w5.heap.size (.slice Sn Q.ns.length sn) (.slice Se Q.es.length se) 25 ((w5.alloc (.cells #[.slice Sn Q.ns.length sn, .slice Se Q.es.length se] 25)).alloc (.cells #[.slice X3 T1.ns.length x3, .slice Y3 T1.es.length y3] 42))) := Lib.hid (heap_two _ _ _)
    have B4_W5 : Hid (BX (w5.heap.size + 1) (.slice X3 T1.ns.length x3) (.slice Y3 T1.es.length y3) 42 ((w5.alloc (.cells #[.slice Sn Q.ns.length sn, .slice Se Q.es.length se] 25)).alloc (.cells #[.slice X3 T1.ns.length x3, .slice Y3 T1.es.length y3] 42))) := Lib.hid (heap_two' _ _ _)
    have S_W5 := Lib.hid (S_w5.out.up hb)
    have B1_W5 := Lib.hid (B1_w5.out.up hb)
    have B2_W5 := Lib.hid (B2_w5.out.up hb)
    have PA_W5 := Lib.hid (PA_w5.out.up hb)
    have PB_W5 := Lib.hid (PB_w5.out.up hb)
    have GS_W5 := Lib.hid (GS_w5.out.up hb)
    have P3_W5 := Lib.hid (P3_w5.out.up hb)
    clear S_w5 B1_w5 B2_w5 PA_w5 PB_w5 GS_w5 P3_w5
    clear hb
    generalize (w5.alloc (.cells #[.slice Sn Q.ns.length sn, .slice Se Q.es.length se] 25)).alloc (.cells #[.slice X3 T1.ns.length x3, .slice Y3 T1.es.length y3] 42) = W5 at *
    generalize w5.heap.size = g3 at *
    obtain ⟨m30, m31⟩ := B3_W5.out.cells
    obtain ⟨m40, m41⟩ := B4_W5.out.cells
    have c0 := S_W5.out.cell (i := 0) (j := 0) rfl rfl
    have c1 := S_W5.out.cell (i := 0) (j := 1) rfl rfl
    have c2 := S_W5.out.cell (i := 0) (j := 2) rfl rfl
    have c3 := S_W5.out.cell (i := 0) (j := 3) rfl rfl
    have c4 := S_W5.out.cell (i := 0) (j := 4) rfl rfl
    have c5 := S_W5.out.cell (i := 0) (j := 5) rfl rfl
    simp only [Nat.add_zero] at c0 c1 c2 c3 c4 c5
    go_wp2_with fail
    refine (HCO9.out Sn sn Se se X3 x3 Y3 y3 _ S_W5.out.1 GS_W5.out P3_W5.out).mono ?_
    rintro e v5 ⟨⟨X5, x5, Y5, y5, rfl, r1, r2, r3, r4⟩, hb⟩
    have S_v5 := Lib.hid (S_W5.out.up hb)
    have B1_v5 := Lib.hid (B1_W5.out.up hb)
    have B2_v5 := Lib.hid (B2_W5.out.up hb)
    have PA_v5 := Lib.hid (PA_W5.out.up hb)
    have PB_v5 := Lib.hid (PB_W5.out.up hb)
    have GS_v5 := Lib.hid (GS_W5.out.up hb)
    have P3_v5 := Lib.hid (P3_W5.out.up hb)
    have B3_v5 := Lib.hid (B3_W5.out.up hb)
    have B4_v5 := Lib.hid (B4_W5.out.up hb)
    clear S_W5 B1_W5 B2_W5 PA_W5 PB_W5 GS_W5 P3_W5 B3_W5 B4_W5
    have R1_v5 := Lib.hid r1
    have R2_v5 := Lib.hid r2
    have HL := Lib.hid (And.intro r3 r4)
    clear r1 r2 r3 r4 hb c0 c1 c2 c3 c4 c5
    go_upto_region 8 with fail
    have hb : Below v5.heap.size v5 (v5.alloc (.cells #[.slice X5 CM.ns.length x5, .slice Y5 CM.es.length y5] 42)) := (Below.refl _ _).alloc (Nat.le_refl _) _
    have hx : BX v5.heap.size (.slice X5 CM.ns.length x5) (.slice Y5 CM.es.length y5) 42 (v5.alloc (.cells #[.slice X5 CM.ns.length x5, .slice Y5 CM.es.length y5] 42)) := heap_alloc_new _ _
    have S_V5 := Lib.hid (S_v5.out.up hb)
    have B1_V5 := Lib.hid (B1_v5.out.up hb)
    have B2_V5 := Lib.hid (B2_v5.out.up hb)
    have PA_V5 := Lib.hid (PA_v5.out.up hb)
    have PB_V5 := Lib.hid (PB_v5.out.up hb)
    have GS_V5 := Lib.hid (GS_v5.out.up hb)
    have P3_V5 := Lib.hid (P3_v5.out.up hb)
    have B3_V5 := Lib.hid (B3_v5.out.up hb)
    have B4_V5 := Lib.hid (B4_v5.out.up hb)
    have R15_V5 := Lib.hid (Reads.up R1_v5.out hb)
    have R25_V5 := Lib.hid (Reads.up R2_v5.out hb)
    clear S_v5 B1_v5 B2_v5 PA_v5 PB_v5 GS_v5 P3_v5 B3_v5 B4_v5 R1_v5 R2_v5
    have B5_V5 := Lib.hid hx
    clear hb hx
    generalize v5.alloc (.cells #[.slice X5 CM.ns.length x5, .slice Y5 CM.es.length y5] 42) = V5 at *
    generalize v5.heap.size = g5 at *
    clear HL m30 m31 m40 m41
    have P5_V5 := Lib.hid (show PtAt V5 X5 Y5 CM from ⟨R15_V5.out, R25_V5.out, HZ1.out.1, HZ1.out.2⟩)
    obtain ⟨m30, m31⟩ := B3_V5.out.cells
    obtain ⟨m50, m51⟩ := B5_V5.out.cells
    have c0 := S_V5.out.cell (i := 0) (j := 0) rfl rfl
    have c1 := S_V5.out.cell (i := 0) (j := 1) rfl rfl
    have c2 := S_V5.out.cell (i := 0) (j := 2) rfl rfl
    have c3 := S_V5.out.cell (i := 0) (j := 3) rfl rfl
    have c4 := S_V5.out.cell (i := 0) (j := 4) rfl rfl
    have c5 := S_V5.out.cell (i := 0) (j := 5) rfl rfl
    simp only [Nat.add_zero] at c0 c1 c2 c3 c4 c5
    go_wp2_with fail
    refine (HIM9.out Sn sn Se se X5 x5 Y5 y5 _ S_V5.out.1 GS_V5.out P5_V5.out).mono ?_
    rintro e v6 ⟨⟨X6, x6, Y6, y6, rfl, r1, r2, r3, r4⟩, hb⟩
    have S_v6 := Lib.hid (S_V5.out.up hb)
    have B1_v6 := Lib.hid (B1_V5.out.up hb)
    have B2_v6 := Lib.hid (B2_V5.out.up hb)
    have PA_v6 := Lib.hid (PA_V5.out.up hb)
    have PB_v6 := Lib.hid (PB_V5.out.up hb)
    have GS_v6 := Lib.hid (GS_V5.out.up hb)
    have P3_v6 := Lib.hid (P3_V5.out.up hb)
    have B3_v6 := Lib.hid (B3_V5.out.up hb)
    have B4_v6 := Lib.hid (B4_V5.out.up hb)
    have B5_v6 := Lib.hid (B5_V5.out.up hb)
    have P5_v6 := Lib.hid (P5_V5.out.up hb)
    clear S_V5 B1_V5 B2_V5 PA_V5 PB_V5 GS_V5 P3_V5 B3_V5 B4_V5 B5_V5 P5_V5
    have R1_v6 := Lib.hid r1
    have R2_v6 := Lib.hid r2
    have HL := Lib.hid (And.intro r3 r4)
    clear r1 r2 r3 r4 hb c0 c1 c2 c3 c4 c5
    go_upto_region 9 with fail
    have hb : Below v6.heap.size v6 (v6.alloc (.cells #[.slice X6 IM.ns.length x6, .slice Y6 IM.es.length y6] 27)) := (Below.refl _ _).alloc (Nat.le_refl _) _
    have hx : BX v6.heap.size (.slice X6 IM.ns.length x6) (.slice Y6 IM.es.length y6) 27 (v6.alloc (.cells #[.slice X6 IM.ns.length x6, .slice Y6 IM.es.length y6] 27)) := heap_alloc_new _ _
    have S_V6 := Lib.hid (S_v6.out.up hb)
    have B1_V6 := Lib.hid (B1_v6.out.up hb)
    have B2_V6 := Lib.hid (B2_v6.out.up hb)
    have PA_V6 := Lib.hid (PA_v6.out.up hb)
    have PB_V6 := Lib.hid (PB_v6.out.up hb)
    have GS_V6 := Lib.hid (GS_v6.out.up hb)
    have P3_V6 := Lib.hid (P3_v6.out.up hb)
    have B3_V6 := Lib.hid (B3_v6.out.up hb)
    have B4_V6 := Lib.hid (B4_v6.out.up hb)
    have B5_V6 := Lib.hid (B5_v6.out.up hb)
    have P5_V6 := Lib.hid (P5_v6.out.up hb)
    have R16_V6 := Lib.hid (Reads.up R1_v6.out hb)
    have R26_V6 := Lib.hid (Reads.up R2_v6.out hb)
    clear S_v6 B1_v6 B2_v6 PA_v6 PB_v6 GS_v6 P3_v6 B3_v6 B4_v6 B5_v6 P5_v6 R1_v6 R2_v6
    have B6_V6 := Lib.hid hx
    clear hb hx
    generalize v6.alloc (.cells #[.slice X6 IM.ns.length x6, .slice Y6 IM.es.length y6] 27) = V6 at *
    generalize v6.heap.size = g6 at *
    clear HL m30 m31 m50 m51
    have P6_V6 := Lib.hid (show PtAt V6 X6 Y6 IM from ⟨R16_V6.out, R26_V6.out, HZ2.out.1, HZ2.out.2⟩)
    obtain ⟨m20, m21⟩ := B2_V6.out.cells
    have c0 := S_V6.out.cell (i := 0) (j := 0) rfl rfl
    have c1 := S_V6.out.cell (i := 0) (j := 1) rfl rfl
    have c2 := S_V6.out.cell (i := 0) (j := 2) rfl rfl
    have c3 := S_V6.out.cell (i := 0) (j := 3) rfl rfl
    have c4 := S_V6.out.cell (i := 0) (j := 4) rfl rfl
    have c5 := S_V6.out.cell (i := 0) (j := 5) rfl rfl
    simp only [Nat.add_zero] at c0 c1 c2 c3 c4 c5
    go_wp2_with fail
    refine (HPR9.out X2 x2 Y2 y2 _ S_V6.out.1 PB_V6.out).mono ?_
    rintro e v7 ⟨⟨X7, x7, Y7, y7, rfl, r1, r2, r3, r4⟩, hb⟩
    have S_v7 := Lib.hid (S_V6.out.up hb)
    have B1_v7 := Lib.hid (B1_V6.out.up hb)
    have B2_v7 := Lib.hid (B2_V6.out.up hb)
    have PA_v7 := Lib.hid (PA_V6.out.up hb)
    have PB_v7 := Lib.hid (PB_V6.out.up hb)
    have GS_v7 := Lib.hid (GS_V6.out.up hb)
    have P3_v7 := Lib.hid (P3_V6.out.up hb)
    have B3_v7 := Lib.hid (B3_V6.out.up hb)
    have B4_v7 := Lib.hid (B4_V6.out.up hb)
    have B5_v7 := Lib.hid (B5_V6.out.up hb)
    have P5_v7 := Lib.hid (P5_V6.out.up hb)
    have B6_v7 := Lib.hid (B6_V6.out.up hb)
    have P6_v7 := Lib.hid (P6_V6.out.up hb)
    clear S_V6 B1_V6 B2_V6 PA_V6 PB_V6 GS_V6 P3_V6 B3_V6 B4_V6 B5_V6 P5_V6 B6_V6 P6_V6
    have R1_v7 := Lib.hid r1
    have R2_v7 := Lib.hid r2
    have HL := Lib.hid (And.intro r3 r4)
    clear r1 r2 r3 r4 hb c0 c1 c2 c3 c4 c5
    go_upto_region 10 with fail
    have hb : Below v7.heap.size v7 (v7.alloc (.cells #[.slice X7 PR.ns.length x7, .slice Y7 PR.es.length y7] 27)) := (Below.refl _ _).alloc (Nat.le_refl _) _
    have hx : BX v7.heap.size (.slice X7 PR.ns.length x7) (.slice Y7 PR.es.length y7) 27 (v7.alloc (.cells #[.slice X7 PR.ns.length x7, .slice Y7 PR.es.length y7] 27)) := heap_alloc_new _ _
    have S_V7 := Lib.hid (S_v7.out.up hb)
    have B1_V7 := Lib.hid (B1_v7.out.up hb)
    have B2_V7 := Lib.hid (B2_v7.out.up hb)
    have PA_V7 := Lib.hid (PA_v7.out.up hb)
    have PB_V7 := Lib.hid (PB_v7.out.up hb)
    have GS_V7 := Lib.hid (GS_v7.out.up hb)
    have P3_V7 := Lib.hid (P3_v7.out.up hb)
    have B3_V7 := Lib.hid (B3_v7.out.up hb)
    have B4_V7 := Lib.hid (B4_v7.out.up hb)
    have B5_V7 := Lib.hid (B5_v7.out.up hb)
    have P5_V7 := Lib.hid (P5_v7.out.up hb)
    have B6_V7 := Lib.hid (B6_v7.out.up hb)
    have P6_V7 := Lib.hid (P6_v7.out.up hb)
    have R17_V7 := Lib.hid (Reads.up R1_v7.out hb)
    have R27_V7 := Lib.hid (Reads.up R2_v7.out hb)
    clear S_v7 B1_v7 B2_v7 PA_v7 PB_v7 GS_v7 P3_v7 B3_v7 B4_v7 B5_v7 P5_v7 B6_v7 P6_v7 R1_v7 R2_v7
    have B7_V7 := Lib.hid hx
    clear hb hx
    generalize v7.alloc (.cells #[.slice X7 PR.ns.length x7, .slice Y7 PR.es.length y7] 27) = V7 at *
    generalize v7.heap.size = g7 at *
    clear HL m20 m21
    have P7_V7 := Lib.hid (show PtAt V7 X7 Y7 PR from ⟨R17_V7.out, R27_V7.out, HZ3.out.1, HZ3.out.2⟩)
    go_wp2_with fail
    have S_wd := Lib.hid (S_V7.out.up (below_d V7))
    have B1_wd := Lib.hid (B1_V7.out.up (below_d V7))
    have B2_wd := Lib.hid (B2_V7.out.up (below_d V7))
    have PA_wd := Lib.hid (PA_V7.out.up (below_d V7))
    have PB_wd := Lib.hid (PB_V7.out.up (below_d V7))
    have GS_wd := Lib.hid (GS_V7.out.up (below_d V7))
    have P3_wd := Lib.hid (P3_V7.out.up (below_d V7))
    have P5_wd := Lib.hid (P5_V7.out.up (below_d V7))
    have B6_wd := Lib.hid (B6_V7.out.up (below_d V7))
    have P6_wd := Lib.hid (P6_V7.out.up (below_d V7))
    have B7_wd := Lib.hid (B7_V7.out.up (below_d V7))
    have P7_wd := Lib.hid (P7_V7.out.up (below_d V7))
    clear S_V7 B1_V7 B2_V7 PA_V7 PB_V7 GS_V7 P3_V7 P5_V7 B6_V7 P6_V7 B7_V7 P7_V7
    have q0 : V7.drew.cell? ⟨g6, 0, none⟩ = some (.slice X6 IM.ns.length x6) := B6_wd.out.cells.1
    have q1 : V7.drew.cell? ⟨g6, 1, none⟩ = some (.slice Y6 IM.es.length y6) := B6_wd.out.cells.2
    have q2 : V7.drew.cell? ⟨g2, 0, none⟩ = some (.slice X2 T2.ns.length x2) := B2_wd.out.cells.1
    have q3 : V7.drew.cell? ⟨g2, 1, none⟩ = some (.slice Y2 T2.es.length y2) := B2_wd.out.cells.2
    have q4 : V7.drew.cell? ⟨g1, 0, none⟩ = some (.slice X1 T1.ns.length x1) := B1_wd.out.cells.1
    have q5 : V7.drew.cell? ⟨g1, 1, none⟩ = some (.slice Y1 T1.es.length y1) := B1_wd.out.cells.2
    have q6 : V7.drew.cell? ⟨g7, 0, none⟩ = some (.slice X7 PR.ns.length x7) := B7_wd.out.cells.1
    have q7 : V7.drew.cell? ⟨g7, 1, none⟩ = some (.slice Y7 PR.es.length y7) := B7_wd.out.cells.2
    have HM_wd : Hid (∀ u, Below V7.drew.heap.size V7.drew u → (fun u : World => u.cell? ⟨g6, 0, none⟩ = some (.slice X6 IM.ns.length x6) ∧ u.cell? ⟨g6, 1, none⟩ = some (.slice Y6 IM.es.length y6) ∧ u.cell? ⟨g2, 0, none⟩ = some (.slice X2 T2.ns.length x2) ∧ u.cell? ⟨g2, 1, none⟩ = some (.slice Y2 T2.es.length y2) ∧ u.cell? ⟨g1, 0, none⟩ = some (.slice X1 T1.ns.length x1) ∧ u.cell? ⟨g1, 1, none⟩ = some (.slice Y1 T1.es.length y1) ∧ u.cell? ⟨g7, 0, none⟩ = some (.slice X7 PR.ns.length x7) ∧ u.cell? ⟨g7, 1, none⟩ = some (.slice Y7 PR.es.length y7)) u) := Lib.hid fun u hb => ⟨cell_up hb q0, cell_up hb q1, cell_up hb q2, cell_up hb q3, cell_up hb q4, cell_up hb q5, cell_up hb q6, cell_up hb q7⟩
    clear q0 q1 q2 q3 q4 q5 q6 q7
    have WD_wd := Lib.hid (Below.refl V7.drew.heap.size V7.drew)
    refine wp_region_noPanic ?_
    refine wp_region_held_drew (S := (fun u : World => u.cell? ⟨g6, 0, none⟩ = some (.slice X6 IM.ns.length x6) ∧ u.cell? ⟨g6, 1, none⟩ = some (.slice Y6 IM.es.length y6) ∧ u.cell? ⟨g2, 0, none⟩ = some (.slice X2 T2.ns.length x2) ∧ u.cell? ⟨g2, 1, none⟩ = some (.slice Y2 T2.es.length y2) ∧ u.cell? ⟨g1, 0, none⟩ = some (.slice X1 T1.ns.length x1) ∧ u.cell? ⟨g1, 1, none⟩ = some (.slice Y1 T1.es.length y1) ∧ u.cell? ⟨g7, 0, none⟩ = some (.slice X7 PR.ns.length x7) ∧ u.cell? ⟨g7, 1, none⟩ = some (.slice Y7 PR.es.length y7))) (by kernel_rfl) (HM_wd.out _ WD_wd.out) (fun hHeld => ?_)
    generalize V7.drew = wd at *
    refine wpAnyH_take (i := 0) (v := ?_) (oper_at (r := _) rfl) (by kernel_rfl) (by kernel_rfl) (by kernel_rfl) (fun _ _ _ h => h) (Or.inl ⟨by rfl, ?_⟩) (by assumption) ?_
    rotate_left
    · intro w hSw; try dsimp only at hSw
      go_simp
      try with_reducible rfl
    try simp only [Act.put, List.setIfInBounds_toArray, List.set_cons_zero, List.set_cons_succ]
    refine wpAnyH_take (i := 1) (v := ?_) (oper_at (r := _) rfl) (by kernel_rfl) (by kernel_rfl) (by kernel_rfl) (fun _ _ _ h => h) (Or.inl ⟨by rfl, ?_⟩) (by assumption) ?_
    rotate_left
    · intro w hSw; try dsimp only at hSw
      go_simp
      try with_reducible rfl
    try simp only [Act.put, List.setIfInBounds_toArray, List.set_cons_zero, List.set_cons_succ]
    refine wpAnyH_take (i := 2) (v := ?_) (oper_at (r := _) rfl) (by kernel_rfl) (by kernel_rfl) (by kernel_rfl) (fun _ _ _ h => h) (Or.inl ⟨by rfl, ?_⟩) (by assumption) ?_
    rotate_left
    · intro w hSw; try dsimp only at hSw
      go_simp
      try with_reducible rfl
    try simp only [Act.put, List.setIfInBounds_toArray, List.set_cons_zero, List.set_cons_succ]
    refine wpAnyH_take (i := 3) (v := ?_) (oper_at (r := _) rfl) (by kernel_rfl) (by kernel_rfl) (by kernel_rfl) (fun _ _ _ h => h) (Or.inl ⟨by rfl, ?_⟩) (by assumption) ?_
    rotate_left
    · intro w hSw; try dsimp only at hSw
      go_simp
      try with_reducible rfl
    try simp only [Act.put, List.setIfInBounds_toArray, List.set_cons_zero, List.set_cons_succ]
    refine wpAnyH_take (i := 4) (v := ?_) (oper_at (r := _) rfl) (by kernel_rfl) (by kernel_rfl) (by kernel_rfl) (fun _ _ _ h => h) (Or.inl ⟨by rfl, ?_⟩) (by assumption) ?_
    rotate_left
    · intro w hSw; try dsimp only at hSw
      go_simp
      try with_reducible rfl
    try simp only [Act.put, List.setIfInBounds_toArray, List.set_cons_zero, List.set_cons_succ]
    refine wpAnyH_take (i := 5) (v := ?_) (oper_at (r := _) rfl) (by kernel_rfl) (by kernel_rfl) (by kernel_rfl) (fun _ _ _ h => h) (Or.inl ⟨by rfl, ?_⟩) (by assumption) ?_
    rotate_left
    · intro w hSw; try dsimp only at hSw
      go_simp
      try with_reducible rfl
    try simp only [Act.put, List.setIfInBounds_toArray, List.set_cons_zero, List.set_cons_succ]
    refine wpAnyH_take (i := 6) (v := ?_) (oper_at (r := _) rfl) (by kernel_rfl) (by kernel_rfl) (by kernel_rfl) (fun _ _ _ h => h) (Or.inl ⟨by rfl, ?_⟩) (by assumption) ?_
    rotate_left
    · intro w hSw; try dsimp only at hSw
      go_simp
      try with_reducible rfl
    try simp only [Act.put, List.setIfInBounds_toArray, List.set_cons_zero, List.set_cons_succ]
    refine wpAnyH_take (i := 7) (v := ?_) (oper_at (r := _) rfl) (by kernel_rfl) (by kernel_rfl) (by kernel_rfl) (fun _ _ _ h => h) (Or.inl ⟨by rfl, ?_⟩) (by assumption) ?_
    rotate_left
    · intro w hSw; try dsimp only at hSw
      go_simp
      try with_reducible rfl
    try simp only [Act.put, List.setIfInBounds_toArray, List.set_cons_zero, List.set_cons_succ]
    refine wpAnyH_take (i := 8) (v := ?_) (oper_at (r := _) rfl) (by kernel_rfl) (by kernel_rfl) (by kernel_rfl) (fun _ _ _ h => h) (Or.inl ⟨by rfl, ?_⟩) (by assumption) ?_
    rotate_left
    · intro w hSw; try dsimp only at hSw
      go_simp
      try with_reducible rfl
    try simp only [Act.put, List.setIfInBounds_toArray, List.set_cons_zero, List.set_cons_succ]
    refine wpAnyH_take (i := 9) (v := ?_) (oper_at (r := _) rfl) (by kernel_rfl) (by kernel_rfl) (by kernel_rfl) (fun _ _ _ h => h) (Or.inl ⟨by rfl, ?_⟩) (by assumption) ?_
    rotate_left
    · intro w hSw; try dsimp only at hSw
      go_simp
      try with_reducible rfl
    try simp only [Act.put, List.setIfInBounds_toArray, List.set_cons_zero, List.set_cons_succ]
    refine wpAnyH_take (i := 10) (v := ?_) (oper_at (r := _) rfl) (by kernel_rfl) (by kernel_rfl) (by kernel_rfl) (fun _ _ _ h => h) (Or.inl ⟨by rfl, ?_⟩) (by assumption) ?_
    rotate_left
    · intro w hSw; try dsimp only at hSw
      go_simp
      try with_reducible rfl
    try simp only [Act.put, List.setIfInBounds_toArray, List.set_cons_zero, List.set_cons_succ]
    refine wpAnyH_take (i := 11) (v := ?_) (oper_at (r := _) rfl) (by kernel_rfl) (by kernel_rfl) (by kernel_rfl) (fun _ _ _ h => h) (Or.inl ⟨by rfl, ?_⟩) (by assumption) ?_
    rotate_left
    · intro w hSw; try dsimp only at hSw
      go_simp
      try with_reducible rfl
    try simp only [Act.put, List.setIfInBounds_toArray, List.set_cons_zero, List.set_cons_succ]
    refine wpAnyH_take (i := 12) (v := ?_) (oper_at (r := _) rfl) (by kernel_rfl) (by kernel_rfl) (by kernel_rfl) (fun _ _ _ h => h) (Or.inl ⟨by rfl, ?_⟩) (by assumption) ?_
    rotate_left
    · intro w hSw; try dsimp only at hSw
      go_simp
      try with_reducible rfl
    try simp only [Act.put, List.setIfInBounds_toArray, List.set_cons_zero, List.set_cons_succ]
    refine wpAnyH_take (i := 14) (v := ?_) (oper_at (r := _) rfl) (by kernel_rfl) (by kernel_rfl) (by kernel_rfl) (fun _ _ _ h => h) (Or.inl ⟨by rfl, ?_⟩) (by assumption) ?_
    rotate_left
    · intro w hSw; try dsimp only at hSw
      go_simp
      try with_reducible rfl
    try simp only [Act.put, List.setIfInBounds_toArray, List.set_cons_zero, List.set_cons_succ]
    refine wpAnyH_take (i := 15) (v := ?_) (oper_at (r := _) rfl) (by kernel_rfl) (by kernel_rfl) (by kernel_rfl) (fun _ _ _ h => h) (Or.inl ⟨by rfl, ?_⟩) (by assumption) ?_
    rotate_left
    · intro w hSw; try dsimp only at hSw
      go_simp
      try with_reducible rfl
    try simp only [Act.put, List.setIfInBounds_toArray, List.set_cons_zero, List.set_cons_succ]
    refine wpAnyH_ready (rs := [13]) (by kernel_rfl) (by simp) ?_
    refine AllReadyH.cons (oper_at (r := _) rfl) (fun K hK => ?_) AllReadyH.nil
    go_simp
    refine (in7_any IM T2 X6 x6 Y6 y6 X2 x2 Y2 y2 _ P6_wd.out PB_wd.out).mono ?_
    rintro e W59 ⟨rfl, hb⟩
    have S_W59 := Lib.hid (S_wd.out.up hb)
    have B1_W59 := Lib.hid (B1_wd.out.up hb)
    have B2_W59 := Lib.hid (B2_wd.out.up hb)
    have PA_W59 := Lib.hid (PA_wd.out.up hb)
    have PB_W59 := Lib.hid (PB_wd.out.up hb)
    have GS_W59 := Lib.hid (GS_wd.out.up hb)
    have P3_W59 := Lib.hid (P3_wd.out.up hb)
    have P5_W59 := Lib.hid (P5_wd.out.up hb)
    have B6_W59 := Lib.hid (B6_wd.out.up hb)
    have P6_W59 := Lib.hid (P6_wd.out.up hb)
    have B7_W59 := Lib.hid (B7_wd.out.up hb)
    have P7_W59 := Lib.hid (P7_wd.out.up hb)
    have WD_W59 := Lib.hid (WD_wd.out.trans (hb.mono WD_wd.out.size))
    clear S_wd B1_wd B2_wd PA_wd PB_wd GS_wd P3_wd P5_wd B6_wd P6_wd B7_wd P7_wd WD_wd
    clear hb 
    go_wp2_with fail
    refine hK.out _ _ (HM_wd.out _ WD_W59.out) (fun _ => ?_)
    clear hK K
    try simp only [Act.put, List.setIfInBounds_toArray, List.set_cons_zero, List.set_cons_succ]
    refine wpAnyH_ready (rs := [16]) (by kernel_rfl) (by simp) ?_
    refine AllReadyH.cons (oper_at (r := _) rfl) (fun K hK => ?_) AllReadyH.nil
    go_simp
    refine (in7_any T1 PR X1 x1 Y1 y1 X7 x7 Y7 y7 _ PA_W59.out P7_W59.out).mono ?_
    rintro e W60 ⟨rfl, hb⟩
    have S_W60 := Lib.hid (S_W59.out.up hb)
    have B1_W60 := Lib.hid (B1_W59.out.up hb)
    have B2_W60 := Lib.hid (B2_W59.out.up hb)
    have PA_W60 := Lib.hid (PA_W59.out.up hb)
    have PB_W60 := Lib.hid (PB_W59.out.up hb)
    have GS_W60 := Lib.hid (GS_W59.out.up hb)
    have P3_W60 := Lib.hid (P3_W59.out.up hb)
    have P5_W60 := Lib.hid (P5_W59.out.up hb)
    have B6_W60 := Lib.hid (B6_W59.out.up hb)
    have P6_W60 := Lib.hid (P6_W59.out.up hb)
    have B7_W60 := Lib.hid (B7_W59.out.up hb)
    have P7_W60 := Lib.hid (P7_W59.out.up hb)
    have WD_W60 := Lib.hid (WD_W59.out.trans (hb.mono WD_W59.out.size))
    clear S_W59 B1_W59 B2_W59 PA_W59 PB_W59 GS_W59 P3_W59 P5_W59 B6_W59 P6_W59 B7_W59 P7_W59 WD_W59
    clear hb 
    go_wp2_with fail
    refine hK.out _ _ (HM_wd.out _ WD_W60.out) (fun _ => ?_)
    clear hK K
    try simp only [Act.put, List.setIfInBounds_toArray, List.set_cons_zero, List.set_cons_succ]
    rw [HAD9.out]
    generalize inP T1 PR = z at *
    cases z
    case false =>
      refine wpAnyH_take (i := 17) (v := ?_) (oper_at (r := _) rfl) (by kernel_rfl) (by kernel_rfl) (by kernel_rfl) (fun _ _ _ h => h) (Or.inl ⟨by rfl, ?_⟩) (by assumption) ?_
      rotate_left
      · intro w hSw; try dsimp only at hSw
        go_simp
        try with_reducible rfl
      try simp only [Act.put, List.setIfInBounds_toArray, List.set_cons_zero, List.set_cons_succ]
      refine wpAnyH_take (i := 18) (v := ?_) (oper_at (r := _) rfl) (by kernel_rfl) (by kernel_rfl) (by kernel_rfl) (fun _ _ _ h => h) (Or.inl ⟨by rfl, ?_⟩) (by assumption) ?_
      rotate_left
      · intro w hSw; try dsimp only at hSw
        go_simp
        try with_reducible rfl
      try simp only [Act.put, List.setIfInBounds_toArray, List.set_cons_zero, List.set_cons_succ]
      refine wpAnyH_take (i := 19) (v := ?_) (oper_at (r := _) rfl) (by kernel_rfl) (by kernel_rfl) (by kernel_rfl) (fun _ _ _ h => h) (Or.inl ⟨by rfl, ?_⟩) (by assumption) ?_
      rotate_left
      · intro w hSw; try dsimp only at hSw
        go_simp
        try with_reducible rfl
      try simp only [Act.put, List.setIfInBounds_toArray, List.set_cons_zero, List.set_cons_succ]
      refine wpAnyH_done (by kernel_rfl) ?_ _
      refine NoPanic.normal ?_
      go_wp2_with fail
      go_ret
      exact ⟨rfl, S_W60.out.1⟩
    case true =>
      refine wpAnyH_take (i := 17) (v := ?_) (oper_at (r := _) rfl) (by kernel_rfl) (by kernel_rfl) (by kernel_rfl) (fun _ _ _ h => h) (Or.inl ⟨by rfl, ?_⟩) (by assumption) ?_
      rotate_left
      · intro w hSw; try dsimp only at hSw
        go_simp
        try with_reducible rfl
      try simp only [Act.put, List.setIfInBounds_toArray, List.set_cons_zero, List.set_cons_succ]
      refine wpAnyH_take (i := 18) (v := ?_) (oper_at (r := _) rfl) (by kernel_rfl) (by kernel_rfl) (by kernel_rfl) (fun _ _ _ h => h) (Or.inl ⟨by rfl, ?_⟩) (by assumption) ?_
      rotate_left
      · intro w hSw; try dsimp only at hSw
        go_simp
        try with_reducible rfl
      try simp only [Act.put, List.setIfInBounds_toArray, List.set_cons_zero, List.set_cons_succ]
      refine wpAnyH_take (i := 19) (v := ?_) (oper_at (r := _) rfl) (by kernel_rfl) (by kernel_rfl) (by kernel_rfl) (fun _ _ _ h => h) (Or.inl ⟨by rfl, ?_⟩) (by assumption) ?_
      rotate_left
      · intro w hSw; try dsimp only at hSw
        go_simp
        try with_reducible rfl
      try simp only [Act.put, List.setIfInBounds_toArray, List.set_cons_zero, List.set_cons_succ]
      refine wpAnyH_done (by kernel_rfl) ?_ _
      refine NoPanic.normal ?_
      go_wp2_with fail
      go_ret
      exact ⟨rfl, S_W60.out.1⟩

end Go.Proofs.YthnhacncnhknnaaDoor

/-
  The statement SubgraphAdjoint: the law answers true for every input, and its arguments read as they did; its card.
-/
namespace Go.Proofs.YthnhacncnhknnaaDoor.subgraphAdjoint
open Go.ChangeShapes Go.WideShapes Go.ChangeAt Go.RowKit Go.Deep

set_option maxRecDepth 100000 in
theorem lifted (os : Os) (started : os.Started) (H : Type) (enc : TypeId × Value → H) :
    ReturnsInHanded {} Tryd.checked os 6 .any (fun w args => (Rows.subgraphAdjointSpec.pre enc Tryd.prog Tryd.f6 Rows.subgraphAdjointRow.domain false w args ∧ laidMetH Tryd.prog laidL w) ∧ sizedMet enc Tryd.prog Tryd.f6 (OpenSpec.ofChange Rows.subgraphAdjointSpec) false w args)
      (Rows.subgraphAdjointSpec.post enc Tryd.prog Tryd.f6 false true false false) := by
  refine returnsInHanded_of_change_and (C := Tryd.checked) (X := fun w _ => laidMetH Tryd.prog laidL w) (fun _ _ _ hh h => h.of_heap hh) ownNone started (by kernel_rfl) Tryd.func6
    (ChangeSpec.witness_shaped (enc := enc) (C := Tryd.checked) (os := os) (X := fun w _ => laidMetH Tryd.prog laidL w) false (World.laidAll Tryd.prog os laidL) #[.agg #[.slice none 0 0, .slice none 0 0, .slice none 0 0, .slice none 0 0, .slice none 0 0, .slice none 0 0], .int .u64 0, .int .u64 0] 8 (World.laidAll_os _ _ _)
      (shaped os _) (by kernel_rfl) (by kernel_rfl) (by kernel_rfl) (met os _)) ?_
  intro W base args ds gs before hval0 hW hcnd hsz0 hL _
  have hval : ∀ (j : Nat) t v, Tryd.f6.params[j]? = some t → args[j]? = some v → Value.okWide Tryd.prog W .any base t v := hval0
  have hsz : (DataW.weightsEach Tryd.prog (Tryd.f6.params.toList ++ Rows.subgraphAdjointSpec.plain.varTypes Tryd.prog) (ds ++ gs)).all (· ≤ reachBytes) = true := hsz0
  have hTab := tab_of_laid hL
  have hW' := hW
  obtain ⟨p, q, hA0, hV, rfl, hfz, hnd⟩ := hW
  have hA : DataW.TrodAll enc Tryd.prog W 0 (fun _ => true) true Tryd.f6.params.toList args.toList ds p := hA0
  rw [Tryd.params6] at hA hval hsz
  obtain ⟨v0, v1, v2, d0, d1, d2, p0, p1, p2, rfl, rfl, rfl, h0, h1, h2⟩ := trodAll_three hA
  obtain ⟨rfl, rfl⟩ := trodVars_none hV
  clear hA0 hval0 hsz0 hL hcnd
  simp only [List.append_nil] at hW'
  have hlt : ∀ x ∈ p0 ++ p1 ++ p2, x.block < W.heap.size := fun x hx => by simpa using hW'.lt x (by simpa using hx)
  have k0 := h0
  obtain ⟨cs0, rfl, _⟩ := okWide_struct Tryd.underlying44 (hval 0 44 v0 rfl rfl)
  obtain ⟨f0, g0⟩ := h0
  obtain ⟨t0, e0, hT0⟩ := open_A g0 (fun n hn => by simpa using List.all_eq_true.1 hsz n (DataW.weights_mem_each (j := 0) rfl rfl n hn))
  obtain rfl := agg_of (e0)
  have k1 := h1
  obtain ⟨m1, rfl⟩ := okWide_int Tryd.underlying28 (hval 1 28 v1 rfl rfl)
  obtain ⟨f1, g1⟩ := h1
  obtain ⟨n1, e1, _, hw1⟩ := DataW.trod_int Tryd.underlying28 g1
  simp [Value.cells] at e1
  subst e1
  obtain ⟨s1, rfl, hs1⟩ := u64_of hw1
  have k2 := h2
  obtain ⟨m2, rfl⟩ := okWide_int Tryd.underlying28 (hval 2 28 v2 rfl rfl)
  obtain ⟨f2, g2⟩ := h2
  obtain ⟨n2, e2, _, hw2⟩ := DataW.trod_int Tryd.underlying28 g2
  simp [Value.cells] at e2
  subst e2
  obtain ⟨s2, rfl, hs2⟩ := u64_of hw2
  refine (lawAdjoint7 closeG_any boundaryG_any allG_any extractG_any imageG_any preimageG_any t0 s1 s2 W hTab hT0 hs1 hs2).mono fun e W' ⟨he, hg⟩ => ?_
  subst he
  exact ⟨_, rfl, _, _, _, [], p0 ++ p1 ++ p2, [], hW', trodAll_cons_mk (shut_bool Tryd.underlying4 _) trodAll_mk0, (by rw [List.append_assoc p0 p1 p2]; exact trodAll_mk3 (Below.trod laidOut (by kernel_rfl) (of_decide_eq_true (by kernel_rfl)) k0 hg (fun x hx => hlt x (List.mem_append_left _ (List.mem_append_left _ hx)))) (Below.trod laidOut (by kernel_rfl) (of_decide_eq_true (by kernel_rfl)) k1 hg (fun x hx => hlt x (List.mem_append_left _ (List.mem_append_right _ hx)))) (Below.trod laidOut (by kernel_rfl) (of_decide_eq_true (by kernel_rfl)) k2 hg (fun x hx => hlt x (List.mem_append_right _ hx)))), rfl, hg.frame _, fun h => by cases h⟩

theorem f_holds : Rows.SubgraphAdjointSaid :=
  OpenClaim.holds_of_wide 6 Tryd.f6 rfl rfl rfl rfl rfl rfl rfl ⟨rfl, rfl, rfl, rfl, rfl⟩ rfl rfl rfl rfl rfl (by kernel_rfl) Tryd.func6 (by kernel_rfl)
    (of_decide_eq_true (by kernel_rfl)) (by unfold Func.isWrapper; first | (rw [if_pos (by decide +kernel)]; kernel_rfl) | (rw [if_neg (by decide +kernel)]; exact ⟨rfl, rfl⟩))
    (fun os started H enc _ => lifted os started H enc)

theorem proved : Rows.SubgraphAdjointCardSaid :=
  Claim7.holds_tied_plain_at .later [] [.data, .data] true (true, "d40fe502c7eb20a2fb0b35b81948407b17b2b9d14f2ae580415a3ab91d0055d3") false
    f_holds (fun _ h => by cases h) (by kernel_rfl) (fun _ h => by cases h) subgraphAdjoint_row_tie rfl ⟨rfl, rfl⟩ (by kernel_rfl) rfl
    (fun f fn hf hfn => by
      obtain rfl : f = 6 := Option.some.inj ((show Tryd.prog.funcNamed "scarfjoint/scarfjointlaw07.SubgraphAdjoint" = some 6 by kernel_rfl).symm.trans hf) |>.symm
      obtain rfl : fn = Tryd.f6 := (Option.some.inj (Tryd.func6.symm.trans hfn)).symm
      exact ⟨by kernel_rfl, fun j t ht => by
        rw [Tryd.params6] at ht
        have hm : t ∈ [44, 28, 28] := List.mem_of_getElem? (by simpa using ht)
        have hs : ∀ t ∈ [44, 28, 28], Tryd.prog.wantsStandIn t = false := by
          intro t ht
          simp only [List.mem_cons, List.not_mem_nil, or_false] at ht
          rcases ht with rfl | rfl | rfl <;> kernel_rfl
        exact hs t hm⟩)
    (by kernel_rfl)

end Go.Proofs.YthnhacncnhknnaaDoor.subgraphAdjoint
