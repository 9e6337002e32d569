import Derived.Test.YthnhacncnhknnaaDoorSSbL5
/-
  SubgraphExtract. Printed by mkl6x.py.
-/
namespace Go.Proofs.YthnhacncnhknnaaDoor
open Go.RowKit Go.Shelf

set_option maxRecDepth 100000 in
set_option maxHeartbeats 4000000 in
theorem lawExtract7 (hC : CloseC 12) (hB : BndC 35) (hA : AllC 37) (hE : ExtC 31) (hI : ImgC 26) (g : Gr) (An : Option Addr) (cn : Nat) (Ae : Option Addr) (ce : Nat) (set : Nat) (w : World) (hT : TabV w) (hg : GrAt w An cn Ae ce g) (hset : set < 18446744073709551616) :
    Calls Tryd.prog 7 #[gval An g.ns.length cn Ae g.es.length ce, .int .u64 (set : Int)] w fun e w' => e = .returned (.bool true) ∧ Below w.heap.size w w' := by
  have HAW := Lib.hid (fun (u : World) (hu : Below w.heap.size w u) => awake7 hC hB hA u (hT.up hu))
  have HSM := Lib.hid (fun (u : World) (hu : Below w.heap.size w u) => small7_any g [] An cn Ae ce none 0 u (by simp) (hg.up hu) (by simp) (.inl rfl))
  have HV := Lib.hid (fun (u : World) (hu : Below w.heap.size w u) => validR_any g An cn Ae ce u (hg.up hu))
  have HMD := Lib.hid (fun (h : validE g = 0) (u : World) (hu : Below w.heap.size w u) => made7_any g set An cn Ae ce u h hset (hg.up hu))
  have HML := Lib.hid (fun (h : validE g = 0) => part_len h (made_ok h set))
  have HEX : Hid (validE g = 0 → ∀ (Tn : Option Addr) (tn : Nat) (Te : Option Addr) (te : Nat) (u : World), Below w.heap.size w u → PtAt u Tn Te (madeP g set) → GivesGM 31 #[gval An g.ns.length cn Ae g.es.length ce, gval Tn (madeP g set).ns.length tn Te (madeP g set).es.length te] 0 (subG g (madeP g set)) (madeP g set) u) := Lib.hid fun hv Tn tn Te te u hu ht => by
    have h := hE g (madeP g set) An cn Ae ce Tn tn Te te u (hg.up hu) ht
    have e := part_zero.2 ⟨hv, made_ok hv set⟩
    rw [show extG g (madeP g set) = subG g (madeP g set) from if_pos e, show extM g (madeP g set) = madeP g set from if_pos e, e] at h
    exact h
  have HIM : Hid (validE g = 0 → ∀ (Sn : Option Addr) (sn : Nat) (Se : Option Addr) (se : Nat) (Tn : Option Addr) (tn : Nat) (Te : Option Addr) (te : Nat) (u : World), Below w.heap.size w u → GrAt u Sn sn Se se (subG g (madeP g set)) → PtAt u Tn Te (madeP g set) → GivesM 26 #[gval Sn (subG g (madeP g set)).ns.length sn Se (subG g (madeP g set)).es.length se, gval An g.ns.length cn Ae g.es.length ce, gval Tn (madeP g set).ns.length tn Te (madeP g set).es.length te] 0 (madeP g set) u) := Lib.hid fun hv Sn sn Se se Tn tn Te te u hu hs ht => by
    have h := hI (subG g (madeP g set)) g (madeP g set) Sn sn Se se An cn Ae ce Tn tn Te te u hs (hg.up hu) ht
    have e := mor_zero.2 (incl_ok hv (made_ok hv set))
    rw [show imR (subG g (madeP g set)) g (madeP g set) = madeP g set from (if_pos e).trans (img_self (made_ok hv set)), e] at h
    exact h
  have HIN : Hid (validE g = 0 → ∀ (Sn : Option Addr) (sn : Nat) (Se : Option Addr) (se : Nat) (Tn : Option Addr) (tn : Nat) (Te : Option Addr) (te : Nat) (u : World), Below w.heap.size w u → GrAt u Sn sn Se se (subG g (madeP g set)) → PtAt u Tn Te (madeP g set) → Calls Tryd.prog 34 #[gval Sn (subG g (madeP g set)).ns.length sn Se (subG g (madeP g set)).es.length se, gval An g.ns.length cn Ae g.es.length ce, gval Tn (madeP g set).ns.length tn Te (madeP g set).es.length te] u fun e w' => e = .returned (.bool true) ∧ Below u.heap.size u w') := Lib.hid fun hv Sn sn Se se Tn tn Te te u hu hs ht => by
    have h := injR_any (subG g (madeP g set)) g (madeP g set) Sn sn Se se An cn Ae ce Tn tn Te te u hs (hg.up hu) ht.ns ht.es ht.ln ht.le
    rw [injB_iff.2 ⟨mor_zero.2 (incl_ok hv (made_ok hv set)), incl_inj (made_ok hv set)⟩] at h
    exact h
  have HLN : Hid ((subG g (madeP g set)).ns.length = (madeP g set).ns.length ∧ (subG g (madeP g set)).es.length = (madeP g set).es.length) := Lib.hid ⟨coll_len _ _, coll_len _ _⟩
  have HS0 : Hid (SV w [([.slice An g.ns.length cn, .slice Ae g.es.length ce], 25)] _) := Lib.hid (SV.push (SV.nil w) rfl [.slice An g.ns.length cn, .slice Ae g.es.length ce] 25)
  clear hT hC hB hA hE hI hg
  simp only [List.length_nil] at HSM
  generalize (fewB g && [].all (fun (x : PtV) => fewM x.p 150)) = s1 at *
  generalize subG g (madeP g set) = Q at *
  generalize madeP g set = T at *
  go_enter Tryd.func7, Tryd.ntmps7
  go_wp2_with fail
  refine (HAW.out _ (by first | exact HS0.out.1 | exact HS1.out.1 | exact HS2.out.1 | exact HS3.out.1)).mono ?_
  rintro e w1 ⟨rfl, hb⟩
  have HS1 := Lib.hid (HS0.out.up hb)
  clear hb HS0
  have c0 := HS1.out.cell (i := 0) (j := 0) rfl rfl
  have c1 := HS1.out.cell (i := 0) (j := 1) rfl rfl
  simp only [Nat.add_zero] at c0 c1
  go_wp2_with fail
  refine (HSM.out _ HS1.out.1).mono ?_
  rintro e w2 ⟨rfl, hb⟩
  have HS2 := Lib.hid (HS1.out.up hb)
  clear hb HS1 HSM c0 c1
  cases s1
  case false =>
    go_wp2_with fail
    refine (HAW.out _ (by first | exact HS0.out.1 | exact HS1.out.1 | exact HS2.out.1 | exact HS3.out.1)).mono ?_
    rintro e w9 ⟨rfl, hb9⟩
    go_wp2_with fail
    go_ret
    exact ⟨rfl, HS2.out.1.trans (hb9.mono HS2.out.1.size)⟩
  have c0 := HS2.out.cell (i := 0) (j := 0) rfl rfl
  have c1 := HS2.out.cell (i := 0) (j := 1) rfl rfl
  simp only [Nat.add_zero] at c0 c1
  go_wp2_with fail
  refine (HV.out _ HS2.out.1).mono ?_
  rintro e w3 ⟨rfl, hb⟩
  have HS3 := Lib.hid (HS2.out.up hb)
  clear hb HS2 HV c0 c1
  by_cases hv : validE g = 0
  case neg =>
    have t1 : ((validE g : Int) != 0) = true := by simp; omega
    clear hv
    generalize validE g = z at *
    go_wp2_with fail
    refine (HAW.out _ (by first | exact HS0.out.1 | exact HS1.out.1 | exact HS2.out.1 | exact HS3.out.1)).mono ?_
    rintro e w9 ⟨rfl, hb9⟩
    go_wp2_with fail
    go_ret
    exact ⟨rfl, HS3.out.1.trans (hb9.mono HS3.out.1.size)⟩
  have HMD9 := Lib.hid (HMD.out hv)
  have HML9 := Lib.hid (HML.out hv)
  have HEX9 := Lib.hid (HEX.out hv)
  have HIM9 := Lib.hid (HIM.out hv)
  have HIN9 := Lib.hid (HIN.out hv)
  have t1 : ((validE g : Int) != 0) = false := by simp; omega
  clear hv HMD HML HEX HIM HIN HAW
  generalize validE g = z at *
  have c0 := HS3.out.cell (i := 0) (j := 0) rfl rfl
  have c1 := HS3.out.cell (i := 0) (j := 1) rfl rfl
  simp only [Nat.add_zero] at c0 c1
  go_wp2_with fail
  refine (HMD9.out _ HS3.out.1).mono ?_
  rintro e w4 ⟨⟨v, rfl, X1, x1, Y1, y1, rfl, hm⟩, hb⟩
  have S_w4 := Lib.hid (HS3.out.up hb)
  clear HS3
  have HPT_w4 := Lib.hid (show PtAt w4 X1 Y1 T from ⟨hm.ns, hm.es, HML9.out.1, HML9.out.2⟩)
  clear hb hm c0 c1 t1
  go_upto_region 4 with fail
  have hb : Below w4.heap.size w4 (w4.alloc (.cells #[.slice X1 T.ns.length x1, .slice Y1 T.es.length y1] 27)) := (Below.refl _ _).alloc (Nat.le_refl _) _
  have B1_W4 : Hid (BX w4.heap.size (.slice X1 T.ns.length x1) (.slice Y1 T.es.length y1) 27 (w4.alloc (.cells #[.slice X1 T.ns.length x1, .slice Y1 T.es.length y1] 27))) := Lib.hid (heap_alloc_new _ _)
  have S_W4 := Lib.hid (S_w4.out.up hb)
  have PT_W4 := Lib.hid (HPT_w4.out.up hb)
  clear S_w4 HPT_w4
  clear hb
  generalize w4.alloc (.cells #[.slice X1 T.ns.length x1, .slice Y1 T.es.length y1] 27) = W4 at *
  generalize w4.heap.size = g1 at *
  have c0 := S_W4.out.cell (i := 0) (j := 0) rfl rfl
  have c1 := S_W4.out.cell (i := 0) (j := 1) rfl rfl
  simp only [Nat.add_zero] at c0 c1
  obtain ⟨m10, m11⟩ := B1_W4.out.cells
  go_wp2_with fail
  refine (HEX9.out X1 x1 Y1 y1 _ S_W4.out.1 PT_W4.out).mono ?_
  rintro e w5 ⟨⟨Sn, sn, Se, se, X2, x2, Y2, y2, rfl, hgr, r1, r2, _, _⟩, hb⟩
  have S_w5 := Lib.hid (S_W4.out.up hb)
  have PT_w5 := Lib.hid (PT_W4.out.up hb)
  have B1_w5 := Lib.hid (B1_W4.out.up hb)
  clear S_W4 PT_W4 B1_W4
  have HGS_w5 := Lib.hid hgr
  have HP2_w5 := Lib.hid (show PtAt w5 X2 Y2 T from ⟨r1, r2, HML9.out.1, HML9.out.2⟩)
  clear hb hgr r1 r2 c0 c1 m10 m11
  go_upto_region 5 with fail
  have hb : Below w5.heap.size w5 ((w5.alloc (.cells #[.slice Sn Q.ns.length sn, .slice Se Q.es.length se] 25)).alloc (.cells #[.slice X2 T.ns.length x2, .slice Y2 T.es.length y2] 42)) := ((Below.refl _ _).alloc (Nat.le_refl _) _).alloc (by simp) _
  have B2_W5 : Hid (BX w5.heap.size (.slice Sn Q.ns.length sn) (.slice Se Q.es.length se) 25 ((w5.alloc (.cells #[.slice Sn Q.ns.length sn, .slice Se Q.es.length se] 25)).alloc (.cells #[.slice X2 T.ns.length x2, .slice Y2 T.es.length y2] 42))) := Lib.hid (heap_two _ _ _)
  have B3_W5 : Hid (BX (w5.heap.size + 1) (.slice X2 T.ns.length x2) (.slice Y2 T.es.length y2) 42 ((w5.alloc (.cells #[.slice Sn Q.ns.length sn, .slice Se Q.es.length se] 25)).alloc (.cells #[.slice X2 T.ns.length x2, .slice Y2 T.es.length y2] 42))) := Lib.hid (heap_two' _ _ _)
  have S_W5 := Lib.hid (S_w5.out.up hb)
  have PT_W5 := Lib.hid (PT_w5.out.up hb)
  have B1_W5 := Lib.hid (B1_w5.out.up hb)
  have GS_W5 := Lib.hid (HGS_w5.out.up hb)
  have P2_W5 := Lib.hid (HP2_w5.out.up hb)
  clear S_w5 PT_w5 B1_w5 HGS_w5 HP2_w5
  clear hb
  generalize (w5.alloc (.cells #[.slice Sn Q.ns.length sn, .slice Se Q.es.length se] 25)).alloc (.cells #[.slice X2 T.ns.length x2, .slice Y2 T.es.length y2] 42) = W5 at *
  generalize w5.heap.size = g2 at *
  have c0 := S_W5.out.cell (i := 0) (j := 0) rfl rfl
  have c1 := S_W5.out.cell (i := 0) (j := 1) rfl rfl
  simp only [Nat.add_zero] at c0 c1
  obtain ⟨m20, m21⟩ := B2_W5.out.cells
  obtain ⟨m30, m31⟩ := B3_W5.out.cells
  go_wp2_with fail
  refine (HIM9.out Sn sn Se se X2 x2 Y2 y2 _ S_W5.out.1 GS_W5.out P2_W5.out).mono ?_
  rintro e w6 ⟨⟨X3, x3, Y3, y3, rfl, r1, r2, _, _⟩, hb⟩
  have S_w6 := Lib.hid (S_W5.out.up hb)
  have PT_w6 := Lib.hid (PT_W5.out.up hb)
  have B1_w6 := Lib.hid (B1_W5.out.up hb)
  have GS_w6 := Lib.hid (GS_W5.out.up hb)
  have P2_w6 := Lib.hid (P2_W5.out.up hb)
  have B2_w6 := Lib.hid (B2_W5.out.up hb)
  have B3_w6 := Lib.hid (B3_W5.out.up hb)
  clear S_W5 PT_W5 B1_W5 GS_W5 P2_W5 B2_W5 B3_W5
  have HP3_w6 := Lib.hid (show PtAt w6 X3 Y3 T from ⟨r1, r2, HML9.out.1, HML9.out.2⟩)
  clear hb r1 r2 c0 c1 m20 m21 m30 m31
  go_upto_region 6 with fail
  have hb : Below w6.heap.size w6 (w6.alloc (.cells #[.slice X3 T.ns.length x3, .slice Y3 T.es.length y3] 27)) := (Below.refl _ _).alloc (Nat.le_refl _) _
  have B4_W6 : Hid (BX w6.heap.size (.slice X3 T.ns.length x3) (.slice Y3 T.es.length y3) 27 (w6.alloc (.cells #[.slice X3 T.ns.length x3, .slice Y3 T.es.length y3] 27))) := Lib.hid (heap_alloc_new _ _)
  have S_W6 := Lib.hid (S_w6.out.up hb)
  have PT_W6 := Lib.hid (PT_w6.out.up hb)
  have B1_W6 := Lib.hid (B1_w6.out.up hb)
  have GS_W6 := Lib.hid (GS_w6.out.up hb)
  have P2_W6 := Lib.hid (P2_w6.out.up hb)
  have B2_W6 := Lib.hid (B2_w6.out.up hb)
  have B3_W6 := Lib.hid (B3_w6.out.up hb)
  have P3_W6 := Lib.hid (HP3_w6.out.up hb)
  clear S_w6 PT_w6 B1_w6 GS_w6 P2_w6 B2_w6 B3_w6 HP3_w6
  clear hb
  generalize w6.alloc (.cells #[.slice X3 T.ns.length x3, .slice Y3 T.es.length y3] 27) = W6 at *
  generalize w6.heap.size = g4 at *
  have HTL : Hid (T.ns.length ≤ maxLen ∧ T.es.length ≤ maxLen) := Lib.hid (by have := HML9.out; unfold maxLen; omega)
  obtain ⟨m10, m11⟩ := B1_W6.out.cells
  obtain ⟨m40, m41⟩ := B4_W6.out.cells
  go_wp2_with fail
  refine (same7_refl T X1 x1 Y1 y1 X3 x3 Y3 y3 _ HTL.out PT_W6.out.ns PT_W6.out.es P3_W6.out.ns P3_W6.out.es).mono ?_
  rintro e w7 ⟨rfl, hb⟩
  have S_w7 := Lib.hid (S_W6.out.up hb)
  have PT_w7 := Lib.hid (PT_W6.out.up hb)
  have B1_w7 := Lib.hid (B1_W6.out.up hb)
  have GS_w7 := Lib.hid (GS_W6.out.up hb)
  have P2_w7 := Lib.hid (P2_W6.out.up hb)
  have B2_w7 := Lib.hid (B2_W6.out.up hb)
  have B3_w7 := Lib.hid (B3_W6.out.up hb)
  have P3_w7 := Lib.hid (P3_W6.out.up hb)
  have B4_w7 := Lib.hid (B4_W6.out.up hb)
  clear S_W6 PT_W6 B1_W6 GS_W6 P2_W6 B2_W6 B3_W6 P3_W6 B4_W6
  clear hb m10 m11 m40 m41
  have t3 : ((Q.ns.length : Int) == (T.ns.length : Int)) = true := beq_iff_eq.2 (by have := HLN.out.1; omega)
  have t4 : ((Q.es.length : Int) == (T.es.length : Int)) = true := beq_iff_eq.2 (by have := HLN.out.2; omega)
  have c0 := S_w7.out.cell (i := 0) (j := 0) rfl rfl
  have c1 := S_w7.out.cell (i := 0) (j := 1) rfl rfl
  simp only [Nat.add_zero] at c0 c1
  obtain ⟨m10, m11⟩ := B1_w7.out.cells
  obtain ⟨m20, m21⟩ := B2_w7.out.cells
  obtain ⟨m30, m31⟩ := B3_w7.out.cells
  go_wp2_with fail
  refine (HIN9.out Sn sn Se se X2 x2 Y2 y2 _ S_w7.out.1 GS_w7.out P2_w7.out).mono ?_
  rintro e w8 ⟨rfl, hb⟩
  have HBZ := Lib.hid (S_w7.out.1.trans (hb.mono S_w7.out.1.size))
  clear hb
  go_wp2_with fail
  go_ret
  exact ⟨rfl, HBZ.out⟩

end Go.Proofs.YthnhacncnhknnaaDoor
