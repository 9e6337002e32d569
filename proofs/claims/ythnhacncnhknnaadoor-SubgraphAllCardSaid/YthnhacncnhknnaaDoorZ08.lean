import Derived.Test.YthnhacncnhknnaaDoorZ05
import Derived.Test.YthnhacncnhknnaaDoorZ07
import Derived.Test.YthnhacncnhknnaaDoorZ04
import Derived.Test.YthnhacncnhknnaaDoorZ03
import Derived.Test.YthnhacncnhknnaaDoorZ02
import Derived.Test.YthnhacncnhknnaaDoorZ06
import Derived.Test.YthnhacncnhknnaaDoorZ01
/-
  SubgraphImage. Printed by mkl4.py.
-/
namespace Go.Proofs.YthnhacncnhknnaaDoor
open Go.RowKit Go.Shelf

/-- the reference's Same, of two equal ones -/
theorem same7_refl (a : Mo) (An : Option Addr) (cn : Nat) (Ae : Option Addr) (ce : Nat) (Bn : Option Addr) (dn : Nat) (Be : Option Addr) (de : Nat) (w : World) (l : a.ns.length ≤ maxLen ∧ a.es.length ≤ maxLen)
    (ha : Ints w w.heap.size An a.ns) (ha2 : Ints w w.heap.size Ae a.es) (hb : Ints w w.heap.size Bn a.ns) (hb2 : Ints w w.heap.size Be a.es) :
    Calls Tryd.prog 16 #[gval An a.ns.length cn Ae a.es.length ce, gval Bn a.ns.length dn Be a.es.length de] w fun e w' => e = .returned (.bool true) ∧ Below w.heap.size w w' := by
  have h := same7_any a a An cn Ae ce Bn dn Be de w l.1 l.2 ha ha2 hb hb2
  rw [decide_eq_true rfl] at h
  exact h
set_option maxRecDepth 100000 in
set_option maxHeartbeats 4000000 in
theorem lawImage7 (hC : CloseC 12) (hB : BndC 35) (hA : AllC 37) (hI : ImgC 26) (hP : PreC 28) (x : Aw) (p : Mo) (Pn : Option Addr) (pn : Nat) (Pe : Option Addr) (pe : Nat) (w : World) (hT : TabV w) (hx : AwAt w x) (p1 : Ints w w.heap.size Pn p.ns) (p2 : Ints w w.heap.size Pe p.es) (l1 : p.ns.length ≤ 1152921504606846976) (l2 : p.es.length ≤ 1152921504606846976) :
    Calls Tryd.prog 5 #[x.val, gval Pn p.ns.length pn Pe p.es.length pe] w fun e w' => e = .returned (.bool true) ∧ Below w.heap.size w w' := by
  obtain ⟨a, b, m, An, cn, Ae, ce, Bn, dn, Be, de, Mn, mn, Me, me⟩ := x
  obtain ⟨ga, gb, m1, m2, l3, l4⟩ := hx
  dsimp only [Aw.val] at *
  have HAW := Lib.hid (fun (u : World) (hu : Below w.heap.size w u) => awake7 hC hB hA u (hT.up hu))
  have HSM := Lib.hid (fun (u : World) (hu : Below w.heap.size w u) => smallA_any ⟨a, b, m, An, cn, Ae, ce, Bn, dn, Be, de, Mn, mn, Me, me⟩ u ⟨ga.up hu, gb.up hu, Reads.up m1 hu, Reads.up m2 hu, l3, l4⟩)
  have HFW := Lib.hid (fun (u : World) => few7_any p 150 Pn pn Pe pe u l1 l2)
  have HPO := Lib.hid (fun (h1 : p.ns.length ≤ 1000) (h2 : p.es.length ≤ 1000) (u : World) (hu : Below w.heap.size w u) => own7_any p Pn pn Pe pe u ⟨Reads.up p1 hu, Reads.up p2 hu, h1, h2⟩)
  have HI1 := Lib.hid (fun (h1 : m.ns.length ≤ 1000) (h2 : m.es.length ≤ 1000) (u : World) (hu : Below w.heap.size w u) => hI a b m An cn Ae ce Bn dn Be de Mn mn Me me u (ga.up hu) (gb.up hu) ⟨Reads.up m1 hu, Reads.up m2 hu, h1, h2⟩)
  have HI2 := Lib.hid (fun (h1 : m.ns.length ≤ 1000) (h2 : m.es.length ≤ 1000) (u : World) (hu : Below w.heap.size w u) => image7_any a b m An cn Ae ce Bn dn Be de Mn mn Me me u (ga.up hu) (gb.up hu) ⟨Reads.up m1 hu, Reads.up m2 hu, h1, h2⟩)
  have HP1 := Lib.hid (fun (h1 : m.ns.length ≤ 1000) (h2 : m.es.length ≤ 1000) (Xn : Option Addr) (xn : Nat) (Xe : Option Addr) (xe : Nat) (u : World) (hu : Below w.heap.size w u) (hq : PtAt u Xn Xe p) => hP a b m p An cn Ae ce Bn dn Be de Mn mn Me me Xn xn Xe xe u (ga.up hu) (gb.up hu) ⟨Reads.up m1 hu, Reads.up m2 hu, h1, h2⟩ hq)
  have HP2 := Lib.hid (fun (h1 : m.ns.length ≤ 1000) (h2 : m.es.length ≤ 1000) (h3 : p.ns.length ≤ 1000) (h4 : p.es.length ≤ 1000) (u : World) (hu : Below w.heap.size w u) => preimage7_any a b m p An cn Ae ce Bn dn Be de Mn mn Me me Pn pn Pe pe u (ga.up hu) (gb.up hu) ⟨Reads.up m1 hu, Reads.up m2 hu, h1, h2⟩ ⟨Reads.up p1 hu, Reads.up p2 hu, h3, h4⟩)
  have HL1 : Hid (smallA ⟨a, b, m, An, cn, Ae, ce, Bn, dn, Be, de, Mn, mn, Me, me⟩ = true → m.ns.length ≤ 1000 ∧ m.es.length ≤ 1000) := Lib.hid fun h => by
    unfold smallA fewM at h
    simp only [Bool.and_eq_true, decide_eq_true_eq] at h
    omega
  have HL2 : Hid (fewM p 150 = true → p.ns.length ≤ 1000 ∧ p.es.length ≤ 1000) := Lib.hid fun h => by
    unfold fewM at h
    rw [decide_eq_true_iff] at h
    omega
  have HS0 : Hid (SV w [([.slice An a.ns.length cn, .slice Ae a.es.length ce, .slice Bn b.ns.length dn, .slice Be b.es.length de, .slice Mn m.ns.length mn, .slice Me m.es.length me], 44), ([.slice Pn p.ns.length pn, .slice Pe p.es.length pe], 27)] _) := Lib.hid (SV.push (SV.push (SV.nil w) rfl [.slice An a.ns.length cn, .slice Ae a.es.length ce, .slice Bn b.ns.length dn, .slice Be b.es.length de, .slice Mn m.ns.length mn, .slice Me m.es.length me] 44) (by simp) [.slice Pn p.ns.length pn, .slice Pe p.es.length pe] 27)
  dsimp only [Aw.val] at HSM
  clear hT hC hB hA hI hP ga gb m1 m2 p1 p2 l1 l2 l3 l4
  generalize smallA ⟨a, b, m, An, cn, Ae, ce, Bn, dn, Be, de, Mn, mn, Me, me⟩ = s1 at *
  generalize fewM p 150 = s2 at *
  generalize morE a b m = E1 at *
  generalize imR a b m = R1 at *
  generalize preE a b m p = E2 at *
  generalize preR a b m p = R2' at *
  go_enter Tryd.func5, Tryd.ntmps5
  go_wp2_with fail
  refine (HAW.out _ (by first | exact HS0.out.1 | exact HS1.out.1 | exact HS2.out.1 | exact HS3.out.1)).mono ?_
  rintro e w1 ⟨rfl, hb⟩
  have HS1 := Lib.hid (HS0.out.up hb)
  clear hb HS0
  have c0 := HS1.out.cell (i := 0) (j := 0) rfl rfl
  have c1 := HS1.out.cell (i := 0) (j := 1) rfl rfl
  have c2 := HS1.out.cell (i := 0) (j := 2) rfl rfl
  have c3 := HS1.out.cell (i := 0) (j := 3) rfl rfl
  have c4 := HS1.out.cell (i := 0) (j := 4) rfl rfl
  have c5 := HS1.out.cell (i := 0) (j := 5) rfl rfl
  have d0 := HS1.out.cell (i := 1) (j := 0) rfl rfl
  have d1 := HS1.out.cell (i := 1) (j := 1) rfl rfl
  simp only [Nat.add_zero] at c0 c1 c2 c3 c4 c5
  go_wp2_with fail
  refine (HSM.out _ HS1.out.1).mono ?_
  rintro e w2 ⟨rfl, hb⟩
  have HS2 := Lib.hid (HS1.out.up hb)
  clear hb HS1 HSM c0 c1 c2 c3 c4 c5 d0 d1
  cases s1
  case false =>
    go_wp2_with fail
    refine (HAW.out _ (by first | exact HS0.out.1 | exact HS1.out.1 | exact HS2.out.1 | exact HS3.out.1)).mono ?_
    rintro e w9 ⟨rfl, hb9⟩
    go_wp2_with fail
    go_ret
    exact ⟨rfl, HS2.out.1.trans (hb9.mono HS2.out.1.size)⟩
  obtain ⟨q1, q2⟩ := HL1.out rfl
  have c0 := HS2.out.cell (i := 0) (j := 0) rfl rfl
  have c1 := HS2.out.cell (i := 0) (j := 1) rfl rfl
  have c2 := HS2.out.cell (i := 0) (j := 2) rfl rfl
  have c3 := HS2.out.cell (i := 0) (j := 3) rfl rfl
  have c4 := HS2.out.cell (i := 0) (j := 4) rfl rfl
  have c5 := HS2.out.cell (i := 0) (j := 5) rfl rfl
  have d0 := HS2.out.cell (i := 1) (j := 0) rfl rfl
  have d1 := HS2.out.cell (i := 1) (j := 1) rfl rfl
  simp only [Nat.add_zero] at c0 c1 c2 c3 c4 c5
  go_wp2_with fail
  refine (HFW.out _).mono ?_
  rintro e w3 ⟨rfl, hb⟩
  have HS3 := Lib.hid (HS2.out.up hb)
  clear hb HS2 HFW c0 c1 c2 c3 c4 c5 d0 d1
  cases s2
  case false =>
    go_wp2_with fail
    refine (HAW.out _ (by first | exact HS0.out.1 | exact HS1.out.1 | exact HS2.out.1 | exact HS3.out.1)).mono ?_
    rintro e w9 ⟨rfl, hb9⟩
    go_wp2_with fail
    go_ret
    exact ⟨rfl, HS3.out.1.trans (hb9.mono HS3.out.1.size)⟩
  obtain ⟨q3, q4⟩ := HL2.out rfl
  have HI1 := Lib.hid (HI1.out q1 q2)
  have HI2 := Lib.hid (HI2.out q1 q2)
  have HP1 := Lib.hid (HP1.out q1 q2)
  have HP2 := Lib.hid (HP2.out q1 q2 q3 q4)
  have HPO := Lib.hid (HPO.out q3 q4)
  clear q1 q2 q3 q4 HL1 HL2 HAW
  have c0 := HS3.out.cell (i := 0) (j := 0) rfl rfl
  have c1 := HS3.out.cell (i := 0) (j := 1) rfl rfl
  have c2 := HS3.out.cell (i := 0) (j := 2) rfl rfl
  have c3 := HS3.out.cell (i := 0) (j := 3) rfl rfl
  have c4 := HS3.out.cell (i := 0) (j := 4) rfl rfl
  have c5 := HS3.out.cell (i := 0) (j := 5) rfl rfl
  have d0 := HS3.out.cell (i := 1) (j := 0) rfl rfl
  have d1 := HS3.out.cell (i := 1) (j := 1) rfl rfl
  simp only [Nat.add_zero] at c0 c1 c2 c3 c4 c5
  go_wp2_with fail
  refine (HI1.out _ HS3.out.1).mono ?_
  rintro e v1 ⟨⟨X1, x1, Y1, y1, rfl, r1, r2, r3, r4⟩, hb⟩
  have S_v1 := Lib.hid (HS3.out.up hb)
  clear HS3
  have R1_v1 := Lib.hid r1
  have R2_v1 := Lib.hid r2
  have HL := Lib.hid (And.intro r3 r4)
  clear r1 r2 r3 r4 hb c0 c1 c2 c3 c4 c5 d0 d1
  go_upto_region 4 with fail
  have hb : Below v1.heap.size v1 (v1.alloc (.cells #[.slice X1 R1.ns.length x1, .slice Y1 R1.es.length y1] 27)) := (Below.refl _ _).alloc (Nat.le_refl _) _
  have hx : BX v1.heap.size (.slice X1 R1.ns.length x1) (.slice Y1 R1.es.length y1) 27 (v1.alloc (.cells #[.slice X1 R1.ns.length x1, .slice Y1 R1.es.length y1] 27)) := heap_alloc_new _ _
  have S_V1 := Lib.hid (S_v1.out.up hb)
  have R11_V1 := Lib.hid (Reads.up R1_v1.out hb)
  have R21_V1 := Lib.hid (Reads.up R2_v1.out hb)
  clear S_v1 R1_v1 R2_v1
  have B1_V1 := Lib.hid hx
  clear hb hx
  generalize v1.alloc (.cells #[.slice X1 R1.ns.length x1, .slice Y1 R1.es.length y1] 27) = V1 at *
  generalize v1.heap.size = g1 at *
  have HLA := HL
  have c0 := S_V1.out.cell (i := 0) (j := 0) rfl rfl
  have c1 := S_V1.out.cell (i := 0) (j := 1) rfl rfl
  have c2 := S_V1.out.cell (i := 0) (j := 2) rfl rfl
  have c3 := S_V1.out.cell (i := 0) (j := 3) rfl rfl
  have c4 := S_V1.out.cell (i := 0) (j := 4) rfl rfl
  have c5 := S_V1.out.cell (i := 0) (j := 5) rfl rfl
  have d0 := S_V1.out.cell (i := 1) (j := 0) rfl rfl
  have d1 := S_V1.out.cell (i := 1) (j := 1) rfl rfl
  simp only [Nat.add_zero] at c0 c1 c2 c3 c4 c5
  go_wp2_with fail
  refine (HI2.out _ S_V1.out.1).mono ?_
  rintro e v2 ⟨⟨X2, x2, Y2, y2, rfl, r1, r2, r3, r4⟩, hb⟩
  have S_v2 := Lib.hid (S_V1.out.up hb)
  have R11_v2 := Lib.hid (Reads.up R11_V1.out hb)
  have R21_v2 := Lib.hid (Reads.up R21_V1.out hb)
  have B1_v2 := Lib.hid (B1_V1.out.up hb)
  clear S_V1 R11_V1 R21_V1 B1_V1
  have R1_v2 := Lib.hid r1
  have R2_v2 := Lib.hid r2
  have HL := Lib.hid (And.intro r3 r4)
  clear r1 r2 r3 r4 hb c0 c1 c2 c3 c4 c5 d0 d1
  go_upto_region 5 with fail
  have hb : Below v2.heap.size v2 (v2.alloc (.cells #[.slice X2 R1.ns.length x2, .slice Y2 R1.es.length y2] 27)) := (Below.refl _ _).alloc (Nat.le_refl _) _
  have hx : BX v2.heap.size (.slice X2 R1.ns.length x2) (.slice Y2 R1.es.length y2) 27 (v2.alloc (.cells #[.slice X2 R1.ns.length x2, .slice Y2 R1.es.length y2] 27)) := heap_alloc_new _ _
  have S_V2 := Lib.hid (S_v2.out.up hb)
  have R11_V2 := Lib.hid (Reads.up R11_v2.out hb)
  have R21_V2 := Lib.hid (Reads.up R21_v2.out hb)
  have B1_V2 := Lib.hid (B1_v2.out.up hb)
  have R12_V2 := Lib.hid (Reads.up R1_v2.out hb)
  have R22_V2 := Lib.hid (Reads.up R2_v2.out hb)
  clear S_v2 R11_v2 R21_v2 B1_v2 R1_v2 R2_v2
  have B2_V2 := Lib.hid hx
  clear hb hx
  generalize v2.alloc (.cells #[.slice X2 R1.ns.length x2, .slice Y2 R1.es.length y2] 27) = V2 at *
  generalize v2.heap.size = g2 at *
  clear HI1 HI2
  have HV2 := Lib.hid (Below.refl V2.heap.size V2)
  go_cut [9, 10] (fun u v wc => ∃ gx Xn xn Xe xe, u = .pointer (some ⟨gx, 0, none⟩) ∧ v = .int .i64 (E2 : Nat) ∧ BX gx (.slice Xn R2'.ns.length xn) (.slice Xe R2'.es.length xe) 27 wc ∧ Ints wc wc.heap.size Xn R2'.ns ∧ Ints wc wc.heap.size Xe R2'.es ∧ R2 R2' ∧ Below V2.heap.size V2 wc)
  case first =>
    go_wp2_with fail
    have S_wd := Lib.hid (S_V2.out.up (below_d V2))
    have BV_wd := Lib.hid (HV2.out.drew)
    clear S_V2 HV2
    have q0 : V2.drew.cell? ⟨w.heap.size, 0, none⟩ = some (.slice An a.ns.length cn) := S_wd.out.cell (i := 0) (j := 0) rfl rfl
    have q1 : V2.drew.cell? ⟨w.heap.size, 1, none⟩ = some (.slice Ae a.es.length ce) := S_wd.out.cell (i := 0) (j := 1) rfl rfl
    have q2 : V2.drew.cell? ⟨w.heap.size, 2, none⟩ = some (.slice Bn b.ns.length dn) := S_wd.out.cell (i := 0) (j := 2) rfl rfl
    have q3 : V2.drew.cell? ⟨w.heap.size, 3, none⟩ = some (.slice Be b.es.length de) := S_wd.out.cell (i := 0) (j := 3) rfl rfl
    have q4 : V2.drew.cell? ⟨w.heap.size, 4, none⟩ = some (.slice Mn m.ns.length mn) := S_wd.out.cell (i := 0) (j := 4) rfl rfl
    have q5 : V2.drew.cell? ⟨w.heap.size, 5, none⟩ = some (.slice Me m.es.length me) := S_wd.out.cell (i := 0) (j := 5) rfl rfl
    have q6 : V2.drew.cell? ⟨w.heap.size + 1, 0, none⟩ = some (.slice Pn p.ns.length pn) := S_wd.out.cell (i := 1) (j := 0) rfl rfl
    have q7 : V2.drew.cell? ⟨w.heap.size + 1, 1, none⟩ = some (.slice Pe p.es.length pe) := S_wd.out.cell (i := 1) (j := 1) rfl rfl
    have HM_wd : Hid (∀ u, Below V2.drew.heap.size V2.drew u → (fun u : World => u.cell? ⟨w.heap.size, 0, none⟩ = some (.slice An a.ns.length cn) ∧ u.cell? ⟨w.heap.size, 1, none⟩ = some (.slice Ae a.es.length ce) ∧ u.cell? ⟨w.heap.size, 2, none⟩ = some (.slice Bn b.ns.length dn) ∧ u.cell? ⟨w.heap.size, 3, none⟩ = some (.slice Be b.es.length de) ∧ u.cell? ⟨w.heap.size, 4, none⟩ = some (.slice Mn m.ns.length mn) ∧ u.cell? ⟨w.heap.size, 5, none⟩ = some (.slice Me m.es.length me) ∧ u.cell? ⟨w.heap.size + 1, 0, none⟩ = some (.slice Pn p.ns.length pn) ∧ u.cell? ⟨w.heap.size + 1, 1, none⟩ = some (.slice Pe p.es.length pe)) u) := Lib.hid fun u hb => ⟨cell_up hb q0, cell_up hb q1, cell_up hb q2, cell_up hb q3, cell_up hb q4, cell_up hb q5, cell_up hb q6, cell_up hb q7⟩
    clear q0 q1 q2 q3 q4 q5 q6 q7
    have WD_wd := Lib.hid (Below.refl V2.drew.heap.size V2.drew)
    refine wp_region_noPanic ?_
    refine wp_region_held_drew (S := (fun u : World => u.cell? ⟨w.heap.size, 0, none⟩ = some (.slice An a.ns.length cn) ∧ u.cell? ⟨w.heap.size, 1, none⟩ = some (.slice Ae a.es.length ce) ∧ u.cell? ⟨w.heap.size, 2, none⟩ = some (.slice Bn b.ns.length dn) ∧ u.cell? ⟨w.heap.size, 3, none⟩ = some (.slice Be b.es.length de) ∧ u.cell? ⟨w.heap.size, 4, none⟩ = some (.slice Mn m.ns.length mn) ∧ u.cell? ⟨w.heap.size, 5, none⟩ = some (.slice Me m.es.length me) ∧ u.cell? ⟨w.heap.size + 1, 0, none⟩ = some (.slice Pn p.ns.length pn) ∧ u.cell? ⟨w.heap.size + 1, 1, none⟩ = some (.slice Pe p.es.length pe))) (by kernel_rfl) (HM_wd.out _ WD_wd.out) (fun hHeld => ?_)
    generalize V2.drew = wd at *
    have lsv : w.heap.size + 2 ≤ wd.heap.size := S_wd.out.2.1
    have lbv : V2.heap.size ≤ wd.heap.size := BV_wd.out.size
    refine wpAnyH_take (i := 0) (v := ?_) (oper_at (r := _) rfl) (by kernel_rfl) (by kernel_rfl) (by kernel_rfl) (fun _ _ _ h => h) (Or.inl ⟨by rfl, ?_⟩) (by assumption) ?_
    rotate_left
    · intro w hSw; try dsimp only at hSw
      go_simp
      try with_reducible rfl
    try simp only [Act.put, List.setIfInBounds_toArray, List.set_cons_zero, List.set_cons_succ]
    refine wpAnyH_take (i := 1) (v := ?_) (oper_at (r := _) rfl) (by kernel_rfl) (by kernel_rfl) (by kernel_rfl) (fun _ _ _ h => h) (Or.inl ⟨by rfl, ?_⟩) (by assumption) ?_
    rotate_left
    · intro w hSw; try dsimp only at hSw
      go_simp
      try with_reducible rfl
    try simp only [Act.put, List.setIfInBounds_toArray, List.set_cons_zero, List.set_cons_succ]
    refine wpAnyH_take (i := 2) (v := ?_) (oper_at (r := _) rfl) (by kernel_rfl) (by kernel_rfl) (by kernel_rfl) (fun _ _ _ h => h) (Or.inl ⟨by rfl, ?_⟩) (by assumption) ?_
    rotate_left
    · intro w hSw; try dsimp only at hSw
      go_simp
      try with_reducible rfl
    try simp only [Act.put, List.setIfInBounds_toArray, List.set_cons_zero, List.set_cons_succ]
    refine wpAnyH_take (i := 3) (v := ?_) (oper_at (r := _) rfl) (by kernel_rfl) (by kernel_rfl) (by kernel_rfl) (fun _ _ _ h => h) (Or.inl ⟨by rfl, ?_⟩) (by assumption) ?_
    rotate_left
    · intro w hSw; try dsimp only at hSw
      go_simp
      try with_reducible rfl
    try simp only [Act.put, List.setIfInBounds_toArray, List.set_cons_zero, List.set_cons_succ]
    refine wpAnyH_take (i := 4) (v := ?_) (oper_at (r := _) rfl) (by kernel_rfl) (by kernel_rfl) (by kernel_rfl) (fun _ _ _ h => h) (Or.inl ⟨by rfl, ?_⟩) (by assumption) ?_
    rotate_left
    · intro w hSw; try dsimp only at hSw
      go_simp
      try with_reducible rfl
    try simp only [Act.put, List.setIfInBounds_toArray, List.set_cons_zero, List.set_cons_succ]
    refine wpAnyH_take (i := 5) (v := ?_) (oper_at (r := _) rfl) (by kernel_rfl) (by kernel_rfl) (by kernel_rfl) (fun _ _ _ h => h) (Or.inl ⟨by rfl, ?_⟩) (by assumption) ?_
    rotate_left
    · intro w hSw; try dsimp only at hSw
      go_simp
      try with_reducible rfl
    try simp only [Act.put, List.setIfInBounds_toArray, List.set_cons_zero, List.set_cons_succ]
    refine wpAnyH_take (i := 6) (v := ?_) (oper_at (r := _) rfl) (by kernel_rfl) (by kernel_rfl) (by kernel_rfl) (fun _ _ _ h => h) (Or.inl ⟨by rfl, ?_⟩) (by assumption) ?_
    rotate_left
    · intro w hSw; try dsimp only at hSw
      go_simp
      try with_reducible rfl
    try simp only [Act.put, List.setIfInBounds_toArray, List.set_cons_zero, List.set_cons_succ]
    refine wpAnyH_ready (rs := [7, 12]) (by kernel_rfl) (by simp) ?_
    refine (AllReadyH.cons (oper_at (r := _) rfl) (fun K hK => ?_) (AllReadyH.cons (oper_at (r := _) rfl) (fun K hK => ?_) AllReadyH.nil))
    · skip
      go_simp
      refine (HPO.out _ S_wd.out.1).mono ?_
      rintro e W1 ⟨⟨Q1, q1, Q2, q2, rfl, hpt⟩, hb⟩
      have S_W1 := Lib.hid (S_wd.out.up hb)
      have BV_W1 := Lib.hid (BV_wd.out.trans (hb.mono BV_wd.out.size))
      have WD_W1 := Lib.hid (WD_wd.out.trans (hb.mono WD_wd.out.size))
      clear S_wd BV_wd WD_wd
      have PT_W1 := Lib.hid hpt
      clear hb hpt
      go_wp2_with fail
      refine hK.out _ _ (HM_wd.out _ WD_W1.out) (fun _ => ?_)
      clear hK K
      try simp only [Act.put, List.setIfInBounds_toArray, List.set_cons_zero, List.set_cons_succ]
      refine wpAnyH_ready (rs := [8, 12]) (by kernel_rfl) (by simp) ?_
      refine (AllReadyH.cons (oper_at (r := _) rfl) (fun K hK => ?_) (AllReadyH.cons (oper_at (r := _) rfl) (fun K hK => ?_) AllReadyH.nil))
      · skip
        go_simp
        refine (HP1.out Q1 q1 Q2 q2 _ S_W1.out.1 PT_W1.out).mono ?_
        rintro e W2 ⟨⟨X3, x3, Y3, y3, rfl, r1, r2, r3, r4⟩, hb⟩
        have S_W2 := Lib.hid (S_W1.out.up hb)
        have BV_W2 := Lib.hid (BV_W1.out.trans (hb.mono BV_W1.out.size))
        have WD_W2 := Lib.hid (WD_W1.out.trans (hb.mono WD_W1.out.size))
        have PT_W2 := Lib.hid (PT_W1.out.up hb)
        clear S_W1 BV_W1 WD_W1 PT_W1
        have R1_W2 := Lib.hid r1
        have R2_W2 := Lib.hid r2
        have LN_W2 := Lib.hid (And.intro r3 r4)
        clear hb r1 r2
        go_wp2_with fail
        refine hK.out _ _ (HM_wd.out _ WD_W2.out) (fun _ => ?_)
        clear hK K
        try simp only [Act.put, List.setIfInBounds_toArray, List.set_cons_zero, List.set_cons_succ]
        clear r3 r4
        refine wpAnyH_take (i := 9) (v := ?_) (oper_at (r := _) rfl) (by kernel_rfl) (by kernel_rfl) (by kernel_rfl) (fun _ _ _ h => h) (Or.inl ⟨by rfl, ?_⟩) (by assumption) ?_
        rotate_left
        · intro w hSw; try dsimp only at hSw
          go_simp
          try with_reducible rfl
        try simp only [Act.put, List.setIfInBounds_toArray, List.set_cons_zero, List.set_cons_succ]
        refine wpAnyH_take (i := 10) (v := ?_) (oper_at (r := _) rfl) (by kernel_rfl) (by kernel_rfl) (by kernel_rfl) (fun _ _ _ h => h) (Or.inl ⟨by rfl, ?_⟩) (by assumption) ?_
        rotate_left
        · intro w hSw; try dsimp only at hSw
          go_simp
          try with_reducible rfl
        try simp only [Act.put, List.setIfInBounds_toArray, List.set_cons_zero, List.set_cons_succ]
        refine wpAnyH_take (i := 11) (v := ?_) (oper_at (r := _) rfl) (by kernel_rfl) (by kernel_rfl) (by kernel_rfl) (fun _ _ _ h => h) (Or.inl ⟨by rfl, ?_⟩) (by assumption) ?_
        rotate_left
        · intro w hSw; try dsimp only at hSw
          go_simp
          try with_reducible rfl
        try simp only [Act.put, List.setIfInBounds_toArray, List.set_cons_zero, List.set_cons_succ]
        refine wpAnyH_ready (rs := [12]) (by kernel_rfl) (by simp) ?_
        refine AllReadyH.cons (oper_at (r := _) rfl) (fun K hK => ?_) AllReadyH.nil
        obtain ⟨gx, hg⟩ : ∃ g, g = W2.heap.size := ⟨_, rfl⟩
        have lgx : wd.heap.size ≤ gx := by rw [hg]; exact WD_W2.out.size
        have hx : BX gx (.slice none 0 0) (.slice none 0 0) 27 (W2.alloc (.cells #[.slice none 0 0, .slice none 0 0] 27)) := by rw [hg]; exact heap_alloc_new _ _
        have hb : Below W2.heap.size W2 (W2.alloc (.cells #[.slice none 0 0, .slice none 0 0] 27)) := (Below.refl _ _).alloc (Nat.le_refl _) _
        have S_W3 := Lib.hid (S_W2.out.up hb)
        have BV_W3 := Lib.hid (BV_W2.out.trans (hb.mono BV_W2.out.size))
        have WD_W3 := Lib.hid (WD_W2.out.trans (hb.mono WD_W2.out.size))
        have R1_W3 := Lib.hid (Reads.up R1_W2.out hb)
        have R2_W3 := Lib.hid (Reads.up R2_W2.out hb)
        have LN_W3 := Lib.hid (LN_W2.out)
        clear S_W2 BV_W2 WD_W2 R1_W2 R2_W2 LN_W2
        have BZ_W3 := Lib.hid hx
        clear hx hb
        go_simp
        refine hK.out _ _ (HM_wd.out _ WD_W3.out) (fun _ => ?_)
        clear hK K
        try simp only [Act.put, List.setIfInBounds_toArray, List.set_cons_zero, List.set_cons_succ]
        generalize W2.alloc (.cells #[.slice none 0 0, .slice none 0 0] 27) = W3 at *
        try rw [← hg]
        clear hg
        refine wpAnyH_ready (rs := [13]) (by kernel_rfl) (by simp) ?_
        refine AllReadyH.cons (oper_at (r := _) rfl) (fun K hK => ?_) AllReadyH.nil
        have fr0 := BZ_W3.out.free 0
        have fr1 := BZ_W3.out.free 1
        obtain ⟨e0, e1⟩ := BZ_W3.out.cells
        go_simp
        clear fr0 fr1 e0 e1
        have S_W4 := Lib.hid (S_W3.out.set (g := gx) (by simp; omega) ((.slice X3 R2'.ns.length x3)) ((.slice Y3 R2'.es.length y3)))
        have BV_W4 := Lib.hid ((BV_W3.out.setCell (p := ⟨gx, 0, none⟩) (by show V2.heap.size ≤ gx; omega) ((.slice X3 R2'.ns.length x3))).setCell (p := ⟨gx, 1, none⟩) (by show V2.heap.size ≤ gx; omega) ((.slice Y3 R2'.es.length y3)))
        have WD_W4 := Lib.hid ((WD_W3.out.setCell (p := ⟨gx, 0, none⟩) (by show wd.heap.size ≤ gx; omega) ((.slice X3 R2'.ns.length x3))).setCell (p := ⟨gx, 1, none⟩) (by show wd.heap.size ≤ gx; omega) ((.slice Y3 R2'.es.length y3)))
        have R1_W4 := Lib.hid (ints_set' R1_W3.out BZ_W3.out ((.slice X3 R2'.ns.length x3)) ((.slice Y3 R2'.es.length y3)))
        have R2_W4 := Lib.hid (ints_set' R2_W3.out BZ_W3.out ((.slice X3 R2'.ns.length x3)) ((.slice Y3 R2'.es.length y3)))
        have LN_W4 := Lib.hid (LN_W3.out)
        have BZ_W4 := Lib.hid (BZ_W3.out.put ((.slice X3 R2'.ns.length x3)) ((.slice Y3 R2'.es.length y3)))
        clear S_W3 BV_W3 WD_W3 R1_W3 R2_W3 LN_W3 BZ_W3
        refine hK.out _ _ (HM_wd.out _ WD_W4.out) (fun _ => ?_)
        clear hK K
        try simp only [Act.put, List.setIfInBounds_toArray, List.set_cons_zero, List.set_cons_succ]
        generalize (W3.setCell ⟨gx, 0, none⟩ ((.slice X3 R2'.ns.length x3))).setCell ⟨gx, 1, none⟩ ((.slice Y3 R2'.es.length y3)) = W4 at *
        refine wpAnyH_take (i := 14) (v := ?_) (oper_at (r := _) rfl) (by kernel_rfl) (by kernel_rfl) (by kernel_rfl) (fun _ _ _ h => h) (Or.inl ⟨by rfl, ?_⟩) (by assumption) ?_
        rotate_left
        · intro w hSw; try dsimp only at hSw
          go_simp
          try with_reducible rfl
        try simp only [Act.put, List.setIfInBounds_toArray, List.set_cons_zero, List.set_cons_succ]
        refine wpAnyH_done (by kernel_rfl) ?_ _
        refine NoPanic.normal ?_
        go_wp2_with fail
        go_meet
        exact ⟨gx, X3, x3, Y3, y3, rfl, rfl, BZ_W4.out, R1_W4.out, R2_W4.out, LN_W4.out, BV_W4.out⟩
      · skip
        obtain ⟨gx, hg⟩ : ∃ g, g = W1.heap.size := ⟨_, rfl⟩
        have lgx : wd.heap.size ≤ gx := by rw [hg]; exact WD_W1.out.size
        have hx : BX gx (.slice none 0 0) (.slice none 0 0) 27 (W1.alloc (.cells #[.slice none 0 0, .slice none 0 0] 27)) := by rw [hg]; exact heap_alloc_new _ _
        have hb : Below W1.heap.size W1 (W1.alloc (.cells #[.slice none 0 0, .slice none 0 0] 27)) := (Below.refl _ _).alloc (Nat.le_refl _) _
        have S_W5 := Lib.hid (S_W1.out.up hb)
        have BV_W5 := Lib.hid (BV_W1.out.trans (hb.mono BV_W1.out.size))
        have WD_W5 := Lib.hid (WD_W1.out.trans (hb.mono WD_W1.out.size))
        have PT_W5 := Lib.hid (PT_W1.out.up hb)
        clear S_W1 BV_W1 WD_W1 PT_W1
        have BZ_W5 := Lib.hid hx
        clear hx hb
        go_simp
        refine hK.out _ _ (HM_wd.out _ WD_W5.out) (fun _ => ?_)
        clear hK K
        try simp only [Act.put, List.setIfInBounds_toArray, List.set_cons_zero, List.set_cons_succ]
        generalize W1.alloc (.cells #[.slice none 0 0, .slice none 0 0] 27) = W5 at *
        try rw [← hg]
        clear hg
        refine wpAnyH_ready (rs := [8]) (by kernel_rfl) (by simp) ?_
        refine AllReadyH.cons (oper_at (r := _) rfl) (fun K hK => ?_) AllReadyH.nil
        go_simp
        refine (HP1.out Q1 q1 Q2 q2 _ S_W5.out.1 PT_W5.out).mono ?_
        rintro e W6 ⟨⟨X3, x3, Y3, y3, rfl, r1, r2, r3, r4⟩, hb⟩
        have S_W6 := Lib.hid (S_W5.out.up hb)
        have BV_W6 := Lib.hid (BV_W5.out.trans (hb.mono BV_W5.out.size))
        have WD_W6 := Lib.hid (WD_W5.out.trans (hb.mono WD_W5.out.size))
        have PT_W6 := Lib.hid (PT_W5.out.up hb)
        have BZ_W6 := Lib.hid (BZ_W5.out.up hb)
        clear S_W5 BV_W5 WD_W5 PT_W5 BZ_W5
        have R1_W6 := Lib.hid r1
        have R2_W6 := Lib.hid r2
        have LN_W6 := Lib.hid (And.intro r3 r4)
        clear hb r1 r2
        go_wp2_with fail
        refine hK.out _ _ (HM_wd.out _ WD_W6.out) (fun _ => ?_)
        clear hK K
        try simp only [Act.put, List.setIfInBounds_toArray, List.set_cons_zero, List.set_cons_succ]
        clear r3 r4
        refine wpAnyH_take (i := 9) (v := ?_) (oper_at (r := _) rfl) (by kernel_rfl) (by kernel_rfl) (by kernel_rfl) (fun _ _ _ h => h) (Or.inl ⟨by rfl, ?_⟩) (by assumption) ?_
        rotate_left
        · intro w hSw; try dsimp only at hSw
          go_simp
          try with_reducible rfl
        try simp only [Act.put, List.setIfInBounds_toArray, List.set_cons_zero, List.set_cons_succ]
        refine wpAnyH_take (i := 10) (v := ?_) (oper_at (r := _) rfl) (by kernel_rfl) (by kernel_rfl) (by kernel_rfl) (fun _ _ _ h => h) (Or.inl ⟨by rfl, ?_⟩) (by assumption) ?_
        rotate_left
        · intro w hSw; try dsimp only at hSw
          go_simp
          try with_reducible rfl
        try simp only [Act.put, List.setIfInBounds_toArray, List.set_cons_zero, List.set_cons_succ]
        refine wpAnyH_take (i := 11) (v := ?_) (oper_at (r := _) rfl) (by kernel_rfl) (by kernel_rfl) (by kernel_rfl) (fun _ _ _ h => h) (Or.inl ⟨by rfl, ?_⟩) (by assumption) ?_
        rotate_left
        · intro w hSw; try dsimp only at hSw
          go_simp
          try with_reducible rfl
        try simp only [Act.put, List.setIfInBounds_toArray, List.set_cons_zero, List.set_cons_succ]
        refine wpAnyH_ready (rs := [13]) (by kernel_rfl) (by simp) ?_
        refine AllReadyH.cons (oper_at (r := _) rfl) (fun K hK => ?_) AllReadyH.nil
        have fr0 := BZ_W6.out.free 0
        have fr1 := BZ_W6.out.free 1
        obtain ⟨e0, e1⟩ := BZ_W6.out.cells
        go_simp
        clear fr0 fr1 e0 e1
        have S_W7 := Lib.hid (S_W6.out.set (g := gx) (by simp; omega) ((.slice X3 R2'.ns.length x3)) ((.slice Y3 R2'.es.length y3)))
        have BV_W7 := Lib.hid ((BV_W6.out.setCell (p := ⟨gx, 0, none⟩) (by show V2.heap.size ≤ gx; omega) ((.slice X3 R2'.ns.length x3))).setCell (p := ⟨gx, 1, none⟩) (by show V2.heap.size ≤ gx; omega) ((.slice Y3 R2'.es.length y3)))
        have WD_W7 := Lib.hid ((WD_W6.out.setCell (p := ⟨gx, 0, none⟩) (by show wd.heap.size ≤ gx; omega) ((.slice X3 R2'.ns.length x3))).setCell (p := ⟨gx, 1, none⟩) (by show wd.heap.size ≤ gx; omega) ((.slice Y3 R2'.es.length y3)))
        have BZ_W7 := Lib.hid (BZ_W6.out.put ((.slice X3 R2'.ns.length x3)) ((.slice Y3 R2'.es.length y3)))
        have R1_W7 := Lib.hid (ints_set' R1_W6.out BZ_W6.out ((.slice X3 R2'.ns.length x3)) ((.slice Y3 R2'.es.length y3)))
        have R2_W7 := Lib.hid (ints_set' R2_W6.out BZ_W6.out ((.slice X3 R2'.ns.length x3)) ((.slice Y3 R2'.es.length y3)))
        have LN_W7 := Lib.hid (LN_W6.out)
        clear S_W6 BV_W6 WD_W6 BZ_W6 R1_W6 R2_W6 LN_W6
        refine hK.out _ _ (HM_wd.out _ WD_W7.out) (fun _ => ?_)
        clear hK K
        try simp only [Act.put, List.setIfInBounds_toArray, List.set_cons_zero, List.set_cons_succ]
        generalize (W6.setCell ⟨gx, 0, none⟩ ((.slice X3 R2'.ns.length x3))).setCell ⟨gx, 1, none⟩ ((.slice Y3 R2'.es.length y3)) = W7 at *
        refine wpAnyH_take (i := 14) (v := ?_) (oper_at (r := _) rfl) (by kernel_rfl) (by kernel_rfl) (by kernel_rfl) (fun _ _ _ h => h) (Or.inl ⟨by rfl, ?_⟩) (by assumption) ?_
        rotate_left
        · intro w hSw; try dsimp only at hSw
          go_simp
          try with_reducible rfl
        try simp only [Act.put, List.setIfInBounds_toArray, List.set_cons_zero, List.set_cons_succ]
        refine wpAnyH_done (by kernel_rfl) ?_ _
        refine NoPanic.normal ?_
        go_wp2_with fail
        go_meet
        exact ⟨gx, X3, x3, Y3, y3, rfl, rfl, BZ_W7.out, R1_W7.out, R2_W7.out, LN_W7.out, BV_W7.out⟩
    · skip
      obtain ⟨gx, hg⟩ : ∃ g, g = wd.heap.size := ⟨_, rfl⟩
      have lgx : wd.heap.size ≤ gx := by rw [hg]; exact WD_wd.out.size
      have hx : BX gx (.slice none 0 0) (.slice none 0 0) 27 (wd.alloc (.cells #[.slice none 0 0, .slice none 0 0] 27)) := by rw [hg]; exact heap_alloc_new _ _
      have hb : Below wd.heap.size wd (wd.alloc (.cells #[.slice none 0 0, .slice none 0 0] 27)) := (Below.refl _ _).alloc (Nat.le_refl _) _
      have S_W8 := Lib.hid (S_wd.out.up hb)
      have BV_W8 := Lib.hid (BV_wd.out.trans (hb.mono BV_wd.out.size))
      have WD_W8 := Lib.hid (WD_wd.out.trans (hb.mono WD_wd.out.size))
      clear S_wd BV_wd WD_wd
      have BZ_W8 := Lib.hid hx
      clear hx hb
      go_simp
      refine hK.out _ _ (HM_wd.out _ WD_W8.out) (fun _ => ?_)
      clear hK K
      try simp only [Act.put, List.setIfInBounds_toArray, List.set_cons_zero, List.set_cons_succ]
      generalize wd.alloc (.cells #[.slice none 0 0, .slice none 0 0] 27) = W8 at *
      try rw [← hg]
      clear hg
      refine wpAnyH_ready (rs := [7]) (by kernel_rfl) (by simp) ?_
      refine AllReadyH.cons (oper_at (r := _) rfl) (fun K hK => ?_) AllReadyH.nil
      go_simp
      refine (HPO.out _ S_W8.out.1).mono ?_
      rintro e W9 ⟨⟨Q1, q1, Q2, q2, rfl, hpt⟩, hb⟩
      have S_W9 := Lib.hid (S_W8.out.up hb)
      have BV_W9 := Lib.hid (BV_W8.out.trans (hb.mono BV_W8.out.size))
      have WD_W9 := Lib.hid (WD_W8.out.trans (hb.mono WD_W8.out.size))
      have BZ_W9 := Lib.hid (BZ_W8.out.up hb)
      clear S_W8 BV_W8 WD_W8 BZ_W8
      have PT_W9 := Lib.hid hpt
      clear hb hpt
      go_wp2_with fail
      refine hK.out _ _ (HM_wd.out _ WD_W9.out) (fun _ => ?_)
      clear hK K
      try simp only [Act.put, List.setIfInBounds_toArray, List.set_cons_zero, List.set_cons_succ]
      refine wpAnyH_ready (rs := [8]) (by kernel_rfl) (by simp) ?_
      refine AllReadyH.cons (oper_at (r := _) rfl) (fun K hK => ?_) AllReadyH.nil
      go_simp
      refine (HP1.out Q1 q1 Q2 q2 _ S_W9.out.1 PT_W9.out).mono ?_
      rintro e W10 ⟨⟨X3, x3, Y3, y3, rfl, r1, r2, r3, r4⟩, hb⟩
      have S_W10 := Lib.hid (S_W9.out.up hb)
      have BV_W10 := Lib.hid (BV_W9.out.trans (hb.mono BV_W9.out.size))
      have WD_W10 := Lib.hid (WD_W9.out.trans (hb.mono WD_W9.out.size))
      have BZ_W10 := Lib.hid (BZ_W9.out.up hb)
      have PT_W10 := Lib.hid (PT_W9.out.up hb)
      clear S_W9 BV_W9 WD_W9 BZ_W9 PT_W9
      have R1_W10 := Lib.hid r1
      have R2_W10 := Lib.hid r2
      have LN_W10 := Lib.hid (And.intro r3 r4)
      clear hb r1 r2
      go_wp2_with fail
      refine hK.out _ _ (HM_wd.out _ WD_W10.out) (fun _ => ?_)
      clear hK K
      try simp only [Act.put, List.setIfInBounds_toArray, List.set_cons_zero, List.set_cons_succ]
      clear r3 r4
      refine wpAnyH_take (i := 9) (v := ?_) (oper_at (r := _) rfl) (by kernel_rfl) (by kernel_rfl) (by kernel_rfl) (fun _ _ _ h => h) (Or.inl ⟨by rfl, ?_⟩) (by assumption) ?_
      rotate_left
      · intro w hSw; try dsimp only at hSw
        go_simp
        try with_reducible rfl
      try simp only [Act.put, List.setIfInBounds_toArray, List.set_cons_zero, List.set_cons_succ]
      refine wpAnyH_take (i := 10) (v := ?_) (oper_at (r := _) rfl) (by kernel_rfl) (by kernel_rfl) (by kernel_rfl) (fun _ _ _ h => h) (Or.inl ⟨by rfl, ?_⟩) (by assumption) ?_
      rotate_left
      · intro w hSw; try dsimp only at hSw
        go_simp
        try with_reducible rfl
      try simp only [Act.put, List.setIfInBounds_toArray, List.set_cons_zero, List.set_cons_succ]
      refine wpAnyH_take (i := 11) (v := ?_) (oper_at (r := _) rfl) (by kernel_rfl) (by kernel_rfl) (by kernel_rfl) (fun _ _ _ h => h) (Or.inl ⟨by rfl, ?_⟩) (by assumption) ?_
      rotate_left
      · intro w hSw; try dsimp only at hSw
        go_simp
        try with_reducible rfl
      try simp only [Act.put, List.setIfInBounds_toArray, List.set_cons_zero, List.set_cons_succ]
      refine wpAnyH_ready (rs := [13]) (by kernel_rfl) (by simp) ?_
      refine AllReadyH.cons (oper_at (r := _) rfl) (fun K hK => ?_) AllReadyH.nil
      have fr0 := BZ_W10.out.free 0
      have fr1 := BZ_W10.out.free 1
      obtain ⟨e0, e1⟩ := BZ_W10.out.cells
      go_simp
      clear fr0 fr1 e0 e1
      have S_W11 := Lib.hid (S_W10.out.set (g := gx) (by simp; omega) ((.slice X3 R2'.ns.length x3)) ((.slice Y3 R2'.es.length y3)))
      have BV_W11 := Lib.hid ((BV_W10.out.setCell (p := ⟨gx, 0, none⟩) (by show V2.heap.size ≤ gx; omega) ((.slice X3 R2'.ns.length x3))).setCell (p := ⟨gx, 1, none⟩) (by show V2.heap.size ≤ gx; omega) ((.slice Y3 R2'.es.length y3)))
      have WD_W11 := Lib.hid ((WD_W10.out.setCell (p := ⟨gx, 0, none⟩) (by show wd.heap.size ≤ gx; omega) ((.slice X3 R2'.ns.length x3))).setCell (p := ⟨gx, 1, none⟩) (by show wd.heap.size ≤ gx; omega) ((.slice Y3 R2'.es.length y3)))
      have BZ_W11 := Lib.hid (BZ_W10.out.put ((.slice X3 R2'.ns.length x3)) ((.slice Y3 R2'.es.length y3)))
      have R1_W11 := Lib.hid (ints_set' R1_W10.out BZ_W10.out ((.slice X3 R2'.ns.length x3)) ((.slice Y3 R2'.es.length y3)))
      have R2_W11 := Lib.hid (ints_set' R2_W10.out BZ_W10.out ((.slice X3 R2'.ns.length x3)) ((.slice Y3 R2'.es.length y3)))
      have LN_W11 := Lib.hid (LN_W10.out)
      clear S_W10 BV_W10 WD_W10 BZ_W10 R1_W10 R2_W10 LN_W10
      refine hK.out _ _ (HM_wd.out _ WD_W11.out) (fun _ => ?_)
      clear hK K
      try simp only [Act.put, List.setIfInBounds_toArray, List.set_cons_zero, List.set_cons_succ]
      generalize (W10.setCell ⟨gx, 0, none⟩ ((.slice X3 R2'.ns.length x3))).setCell ⟨gx, 1, none⟩ ((.slice Y3 R2'.es.length y3)) = W11 at *
      refine wpAnyH_take (i := 14) (v := ?_) (oper_at (r := _) rfl) (by kernel_rfl) (by kernel_rfl) (by kernel_rfl) (fun _ _ _ h => h) (Or.inl ⟨by rfl, ?_⟩) (by assumption) ?_
      rotate_left
      · intro w hSw; try dsimp only at hSw
        go_simp
        try with_reducible rfl
      try simp only [Act.put, List.setIfInBounds_toArray, List.set_cons_zero, List.set_cons_succ]
      refine wpAnyH_done (by kernel_rfl) ?_ _
      refine NoPanic.normal ?_
      go_wp2_with fail
      go_meet
      exact ⟨gx, X3, x3, Y3, y3, rfl, rfl, BZ_W11.out, R1_W11.out, R2_W11.out, LN_W11.out, BV_W11.out⟩
  case rest =>
    obtain ⟨g3, X3, x3, Y3, y3, rfl, rfl, hbx, r1, r2, hl, hB⟩ := hcut
    have S_wc := Lib.hid (S_V2.out.up hB)
    have R11_wc := Lib.hid (Reads.up R11_V2.out hB)
    have R21_wc := Lib.hid (Reads.up R21_V2.out hB)
    have B1_wc := Lib.hid (B1_V2.out.up hB)
    have R12_wc := Lib.hid (Reads.up R12_V2.out hB)
    have R22_wc := Lib.hid (Reads.up R22_V2.out hB)
    have B2_wc := Lib.hid (B2_V2.out.up hB)
    clear S_V2 R11_V2 R21_V2 B1_V2 R12_V2 R22_V2 B2_V2
    have B3_wc := Lib.hid hbx
    have R13_wc := Lib.hid r1
    have R23_wc := Lib.hid r2
    have HL3 := Lib.hid hl
    clear hbx r1 r2 hl hB HV2
    have c0 := S_wc.out.cell (i := 0) (j := 0) rfl rfl
    have c1 := S_wc.out.cell (i := 0) (j := 1) rfl rfl
    have c2 := S_wc.out.cell (i := 0) (j := 2) rfl rfl
    have c3 := S_wc.out.cell (i := 0) (j := 3) rfl rfl
    have c4 := S_wc.out.cell (i := 0) (j := 4) rfl rfl
    have c5 := S_wc.out.cell (i := 0) (j := 5) rfl rfl
    have d0 := S_wc.out.cell (i := 1) (j := 0) rfl rfl
    have d1 := S_wc.out.cell (i := 1) (j := 1) rfl rfl
    simp only [Nat.add_zero] at c0 c1 c2 c3 c4 c5
    go_wp2_with fail
    refine (HP2.out _ S_wc.out.1).mono ?_
    rintro e v4 ⟨⟨X4, x4, Y4, y4, rfl, r1, r2, r3, r4⟩, hb⟩
    have S_v4 := Lib.hid (S_wc.out.up hb)
    have R11_v4 := Lib.hid (Reads.up R11_wc.out hb)
    have R21_v4 := Lib.hid (Reads.up R21_wc.out hb)
    have B1_v4 := Lib.hid (B1_wc.out.up hb)
    have R12_v4 := Lib.hid (Reads.up R12_wc.out hb)
    have R22_v4 := Lib.hid (Reads.up R22_wc.out hb)
    have B2_v4 := Lib.hid (B2_wc.out.up hb)
    have B3_v4 := Lib.hid (B3_wc.out.up hb)
    have R13_v4 := Lib.hid (Reads.up R13_wc.out hb)
    have R23_v4 := Lib.hid (Reads.up R23_wc.out hb)
    clear S_wc R11_wc R21_wc B1_wc R12_wc R22_wc B2_wc B3_wc R13_wc R23_wc
    have R1_v4 := Lib.hid r1
    have R2_v4 := Lib.hid r2
    have HL := Lib.hid (And.intro r3 r4)
    clear r1 r2 r3 r4 hb c0 c1 c2 c3 c4 c5 d0 d1
    go_upto_region 7 with fail
    have hb : Below v4.heap.size v4 (v4.alloc (.cells #[.slice X4 R2'.ns.length x4, .slice Y4 R2'.es.length y4] 27)) := (Below.refl _ _).alloc (Nat.le_refl _) _
    have hx : BX v4.heap.size (.slice X4 R2'.ns.length x4) (.slice Y4 R2'.es.length y4) 27 (v4.alloc (.cells #[.slice X4 R2'.ns.length x4, .slice Y4 R2'.es.length y4] 27)) := heap_alloc_new _ _
    have S_V4 := Lib.hid (S_v4.out.up hb)
    have R11_V4 := Lib.hid (Reads.up R11_v4.out hb)
    have R21_V4 := Lib.hid (Reads.up R21_v4.out hb)
    have B1_V4 := Lib.hid (B1_v4.out.up hb)
    have R12_V4 := Lib.hid (Reads.up R12_v4.out hb)
    have R22_V4 := Lib.hid (Reads.up R22_v4.out hb)
    have B2_V4 := Lib.hid (B2_v4.out.up hb)
    have B3_V4 := Lib.hid (B3_v4.out.up hb)
    have R13_V4 := Lib.hid (Reads.up R13_v4.out hb)
    have R23_V4 := Lib.hid (Reads.up R23_v4.out hb)
    have R14_V4 := Lib.hid (Reads.up R1_v4.out hb)
    have R24_V4 := Lib.hid (Reads.up R2_v4.out hb)
    clear S_v4 R11_v4 R21_v4 B1_v4 R12_v4 R22_v4 B2_v4 B3_v4 R13_v4 R23_v4 R1_v4 R2_v4
    have B4_V4 := Lib.hid hx
    clear hb hx
    generalize v4.alloc (.cells #[.slice X4 R2'.ns.length x4, .slice Y4 R2'.es.length y4] 27) = V4 at *
    generalize v4.heap.size = g4 at *
    obtain ⟨m10, m11⟩ := B1_V4.out.cells
    obtain ⟨m20, m21⟩ := B2_V4.out.cells
    go_wp2_with fail
    refine (same7_refl R1 X1 x1 Y1 y1 X2 x2 Y2 y2 _ HLA.out R11_V4.out R21_V4.out R12_V4.out R22_V4.out).mono ?_
    rintro e w8 ⟨rfl, hb⟩
    have S_w8 := Lib.hid (S_V4.out.up hb)
    have R11_w8 := Lib.hid (Reads.up R11_V4.out hb)
    have R21_w8 := Lib.hid (Reads.up R21_V4.out hb)
    have B1_w8 := Lib.hid (B1_V4.out.up hb)
    have R12_w8 := Lib.hid (Reads.up R12_V4.out hb)
    have R22_w8 := Lib.hid (Reads.up R22_V4.out hb)
    have B2_w8 := Lib.hid (B2_V4.out.up hb)
    have B3_w8 := Lib.hid (B3_V4.out.up hb)
    have R13_w8 := Lib.hid (Reads.up R13_V4.out hb)
    have R23_w8 := Lib.hid (Reads.up R23_V4.out hb)
    have R14_w8 := Lib.hid (Reads.up R14_V4.out hb)
    have R24_w8 := Lib.hid (Reads.up R24_V4.out hb)
    have B4_w8 := Lib.hid (B4_V4.out.up hb)
    clear S_V4 R11_V4 R21_V4 B1_V4 R12_V4 R22_V4 B2_V4 B3_V4 R13_V4 R23_V4 R14_V4 R24_V4 B4_V4
    clear hb m10 m11 m20 m21
    obtain ⟨m30, m31⟩ := B3_w8.out.cells
    obtain ⟨m40, m41⟩ := B4_w8.out.cells
    go_wp2_with fail
    refine (same7_refl R2' X3 x3 Y3 y3 X4 x4 Y4 y4 _ HL3.out R13_w8.out R23_w8.out R14_w8.out R24_w8.out).mono ?_
    rintro e w9 ⟨rfl, hb⟩
    have HBZ := Lib.hid (S_w8.out.1.trans (hb.mono S_w8.out.1.size))
    clear hb
    go_wp2_with fail
    go_ret
    exact ⟨rfl, HBZ.out⟩

end Go.Proofs.YthnhacncnhknnaaDoor

/-
  What the program computes of parts, as plain data: lists without repetitions, what is missing, ends of edges, what is left of a graph; and that this is what parts promise.
-/
namespace Go.Proofs.YthnhacncnhknnaaDoor

/-! the numbers of a list, ascending, each once -/
def dis (xs : List Int) : List Int := Lib.compact (srt xs)
theorem compactLe (zs : List Int) (h : zs.Pairwise (· ≤ ·)) (m : Nat) (hm : m ≤ zs.length) : (Lib.compactUpTo zs.toArray m).Pairwise (· ≤ ·) := by
  induction m with
  | zero => simp [Lib.compactUpTo]
  | succ m ih =>
    have hlt : m < zs.length := by omega
    have hg : zs.toArray[m]! = zs[m] := by simp [hlt]
    rw [Lib.compactUpTo_succ, hg]
    by_cases hk : Lib.keeps zs.toArray m = true
    · rw [if_pos hk, List.pairwise_append]
      refine ⟨ih (by omega), List.pairwise_singleton _ _, fun a ha b hb => ?_⟩
      simp at hb
      subst hb
      have ha2 := ((compactUp zs h m (by omega)).2 a).1 ha
      obtain ⟨i, hi, e⟩ := List.mem_iff_getElem.1 ha2
      have him : i < m := by simp at hi; omega
      rw [List.getElem_take] at e
      rw [← e]
      exact List.pairwise_iff_getElem.1 h i m (by omega) hlt him
    · rw [if_neg hk, List.append_nil]
      exact ih (by omega)
theorem dis_mem (xs : List Int) (x : Int) : x ∈ dis xs ↔ x ∈ xs := by
  refine ((compactUp (srt xs) (srt_asc xs) (srt xs).length (Nat.le_refl _)).2 x).trans ?_
  rw [List.take_length]
  unfold srt
  exact List.mem_mergeSort
theorem dis_asc (xs : List Int) : Asc (dis xs) := by
  have h1 := (compactUp (srt xs) (srt_asc xs) (srt xs).length (Nat.le_refl _)).1
  have h2 := compactLe (srt xs) (srt_asc xs) (srt xs).length (Nat.le_refl _)
  exact (List.Pairwise.and h1 h2).imp fun ⟨a, b⟩ => by omega
theorem dis_len (xs : List Int) : (dis xs).length ≤ xs.length := nodup_le (asc_nodup (dis_asc xs)) fun x hx => (dis_mem xs x).1 hx
theorem dis_sel {xs : List Int} {n : Nat} {f : Nat → Bool} (hr : ∀ x ∈ xs, 0 ≤ x ∧ x < n) (hf : ∀ i : Nat, i < n → ((i : Int) ∈ xs ↔ f i = true)) : dis xs = sel f n :=
  asc_eq_sel (dis_asc xs) (fun x hx => hr x ((dis_mem xs x).1 hx)) fun i hi => (dis_mem xs i).trans (hf i hi)
theorem dis_img {xs : List Int} {n : Nat} (hr : ∀ x ∈ xs, 0 ≤ x ∧ x < n) : dis xs = sel (inB xs) n := dis_sel hr fun _ _ => inB_iff.symm
theorem dis_or {a b : List Int} {n : Nat} (ha : ∀ x ∈ a, 0 ≤ x ∧ x < n) (hb : ∀ x ∈ b, 0 ≤ x ∧ x < n) : dis (a ++ b) = orL a b n :=
  dis_sel (fun x hx => (List.mem_append.1 hx).elim (ha x) (hb x)) fun i _ => by rw [List.mem_append, Bool.or_eq_true, inB_iff, inB_iff]

/-! what is in both of two lists -/
def andF (a b : List Int) (k : Nat) : List Int := coll (fun i => if a.getD i 0 ∈ b then [a.getD i 0] else []) k
theorem andF_mem {a b : List Int} {x : Int} : x ∈ andF a b a.length ↔ x ∈ a ∧ x ∈ b := by
  unfold andF
  rw [coll_mem]
  constructor
  · rintro ⟨i, hi, h⟩
    by_cases hb : a.getD i 0 ∈ b
    · rw [if_pos hb, List.mem_singleton] at h; subst h; exact ⟨getD_mem hi, hb⟩
    · rw [if_neg hb] at h; simp at h
  · rintro ⟨h1, h2⟩
    obtain ⟨i, hi, rfl⟩ := List.mem_iff_getElem.1 h1
    have e : a.getD i 0 = a[i] := by rw [List.getD_eq_getElem?_getD, List.getElem?_eq_getElem hi]; rfl
    exact ⟨i, hi, by rw [e, if_pos h2]; simp⟩
theorem andF_sub (a b : List Int) (k : Nat) (hk : k ≤ a.length) : (andF a b k).Sublist (a.take k) := by
  induction k with
  | zero => simp [andF, coll]
  | succ k ih =>
    have e : a.take (k + 1) = a.take k ++ [a.getD k 0] := (take_next (by omega)).symm
    rw [e]
    show (andF a b k ++ _).Sublist _
    refine (ih (by omega)).append ?_
    by_cases h : a.getD k 0 ∈ b
    · rw [show (fun i => if a.getD i 0 ∈ b then [a.getD i 0] else []) k = [a.getD k 0] from if_pos h]; exact List.Sublist.refl _
    · rw [show (fun i => if a.getD i 0 ∈ b then [a.getD i 0] else []) k = [] from if_neg h]; exact List.nil_sublist _
theorem andF_asc {a : List Int} (b : List Int) (h : Asc a) : Asc (andF a b a.length) := by
  have := andF_sub a b a.length (Nat.le_refl _)
  rw [List.take_length] at this
  exact List.Pairwise.sublist this h
theorem andF_le (a b : List Int) (k : Nat) : (andF a b k).length ≤ k := coll_le (fun i => by split <;> simp) k
theorem andF_sel {a b : List Int} {n : Nat} {f : Nat → Bool} (h : Asc a) (hr : ∀ x ∈ a, 0 ≤ x ∧ x < n) (hf : ∀ i : Nat, i < n → (((i : Int) ∈ a ∧ (i : Int) ∈ b) ↔ f i = true)) : andF a b a.length = sel f n :=
  asc_eq_sel (andF_asc b h) (fun x hx => hr x (andF_mem.1 hx).1) fun i hi => andF_mem.trans (hf i hi)
theorem andF_and {a b : List Int} {n : Nat} (h : Asc a) (hr : ∀ x ∈ a, 0 ≤ x ∧ x < n) : andF a b a.length = andL a b n :=
  andF_sel h hr fun i _ => by rw [Bool.and_eq_true, inB_iff, inB_iff]

/-! what is not in a list -/
def mis (l : List Int) (n : Nat) : List Int := sel (fun i => !inB l i) n
theorem mis_has {l : List Int} {n i : Nat} : (i : Int) ∈ mis l n ↔ i < n ∧ ¬ (i : Int) ∈ l := by
  unfold mis
  rw [sel_has, Bool.not_eq_true', ← Bool.not_eq_true, inB_iff]

theorem mis_rng {l : List Int} {n : Nat} : ∀ x ∈ mis l n, 0 ≤ x ∧ x < n := sel_rng
theorem mis_up (l : List Int) (n : Nat) : Asc (mis l n) := sel_asc _ _

/-! the ends of some edges -/
def endsOf (g : Gr) (xs : List Int) (k : Nat) : List Int := coll (fun i => [(g.es.getD (xs.getD i 0).toNat default).fr, (g.es.getD (xs.getD i 0).toNat default).tq]) k
theorem ends_len (g : Gr) (xs : List Int) (k : Nat) : (endsOf g xs k).length = 2 * k := by
  induction k with
  | zero => rfl
  | succ k ih => show (endsOf g xs k ++ _).length = _; rw [List.length_append, ih]; simp; omega
theorem ends_mem {g : Gr} (hv : validE g = 0) {xs : List Int} (hx : ∀ x ∈ xs, 0 ≤ x ∧ x < g.es.length) {x : Int} : x ∈ endsOf g xs xs.length ↔ ∃ e : Nat, e < g.es.length ∧ (e : Int) ∈ xs ∧ (x = frN g e ∨ x = toN g e) := by
  unfold endsOf
  rw [coll_mem]
  constructor
  · rintro ⟨i, hi, h⟩
    have hm := getD_mem (d := (0 : Int)) hi
    have hr := hx _ hm
    obtain ⟨e1, _, e2, _⟩ := fr_eq hv (i := (xs.getD i 0).toNat) (by omega)
    refine ⟨(xs.getD i 0).toNat, by omega, by rw [show ((xs.getD i 0).toNat : Int) = xs.getD i 0 by omega]; exact hm, ?_⟩
    rw [e1, e2] at h
    simpa using h
  · rintro ⟨e, he, hm, h⟩
    obtain ⟨i, hi, e0⟩ := List.mem_iff_getElem.1 hm
    obtain ⟨e1, _, e2, _⟩ := fr_eq hv he
    refine ⟨i, hi, ?_⟩
    have e3 : xs.getD i 0 = (e : Int) := by rw [List.getD_eq_getElem?_getD, List.getElem?_eq_getElem hi]; exact e0
    rw [e3, Int.toNat_natCast, e1, e2]
    simpa using h
theorem ends_rng {g : Gr} (hv : validE g = 0) {xs : List Int} (hx : ∀ x ∈ xs, 0 ≤ x ∧ x < g.es.length) : ∀ x ∈ endsOf g xs xs.length, 0 ≤ x ∧ x < g.ns.length := fun x h => by
  obtain ⟨e, he, _, h⟩ := (ends_mem hv hx).1 h
  obtain ⟨_, l1, _, l2⟩ := fr_eq hv he
  rcases h with rfl | rfl <;> omega
theorem close_ns {g : Gr} (hv : validE g = 0) {vs xs : List Int} (h1 : ∀ x ∈ vs, 0 ≤ x ∧ x < g.ns.length) (h2 : ∀ x ∈ xs, 0 ≤ x ∧ x < g.es.length) : dis (vs ++ endsOf g xs xs.length) = (leastP g (inB vs) (inB xs)).ns := by
  refine dis_sel (fun x hx => (List.mem_append.1 hx).elim (h1 x) (ends_rng hv h2 x)) fun i _ => ?_
  rw [List.mem_append, Bool.or_eq_true, inB_iff, touch_iff, ends_mem hv h2]
  refine or_congr Iff.rfl ⟨?_, ?_⟩
  · rintro ⟨e, he, hm, h⟩; exact ⟨e, he, inB_iff.2 hm, by omega⟩
  · rintro ⟨e, he, hm, h⟩; exact ⟨e, he, inB_iff.1 hm, by omega⟩
theorem close_is {g : Gr} (hv : validE g = 0) {vs xs : List Int} (h1 : ∀ x ∈ vs, 0 ≤ x ∧ x < g.ns.length) (h2 : ∀ x ∈ xs, 0 ≤ x ∧ x < g.es.length) : (⟨dis (vs ++ endsOf g xs xs.length), dis xs⟩ : Mo) = leastP g (inB vs) (inB xs) := by
  rw [close_ns hv h1 h2, dis_img h2]; rfl
theorem bnd_is {g : Gr} (hv : validE g = 0) {p : Mo} (h : PartOk g p) : andF p.ns (dis (endsOf g (mis p.es g.es.length) (mis p.es g.es.length).length)) p.ns.length = bndL g p := by
  refine andF_sel h.an h.rn fun i _ => ?_
  rw [dis_mem, ends_mem hv mis_rng, Bool.and_eq_true, inB_iff, touch_iff]
  refine and_congr Iff.rfl ⟨?_, ?_⟩
  · rintro ⟨e, he, hm, h⟩
    exact ⟨e, he, by rw [Bool.not_eq_true', ← Bool.not_eq_true, inB_iff]; exact (mis_has.1 hm).2, by omega⟩
  · rintro ⟨e, he, hm, h⟩
    rw [Bool.not_eq_true', ← Bool.not_eq_true, inB_iff] at hm
    exact ⟨e, he, mis_has.2 ⟨he, hm⟩, by omega⟩

/-! what is left of a graph without what is missing -/
theorem cnt_mis {l : List Int} {n : Nat} (h : Asc l) (hr : ∀ x ∈ l, 0 ≤ x ∧ x < n) {i : Nat} (hi : i ≤ n) : cntL (mis l n) i + cntL l i = i := by
  induction i with
  | zero => rw [cnt_zero fun x hx => (mis_rng x hx).1, cnt_zero fun x hx => (hr x hx).1]
  | succ i ih =>
    have := ih (by omega)
    rw [cnt_succ (mis_up _ _), cnt_succ h]
    by_cases hm : (i : Int) ∈ l
    · have hn : ¬ (i : Int) ∈ mis l n := fun x => (mis_has.1 x).2 hm
      rw [if_neg hn, if_pos hm]; omega
    · have hn : (i : Int) ∈ mis l n := mis_has.2 ⟨by omega, hm⟩
      rw [if_pos hn, if_neg hm]; omega
theorem idx_cnt {l : List Int} (h : Asc l) {i : Nat} (hm : (i : Int) ∈ l) : idxOf l (i : Int) l.length = cntL l i := by
  have ha := (asc_at h i).2 hm
  have hl : cntL l i < l.length := (List.getElem?_eq_some_iff.1 ha).1
  have e : l.getD (cntL l i) 0 = (i : Int) := by rw [List.getD_eq_getElem?_getD, ha]; rfl
  have := idx_at (asc_nodup h) hl (Nat.le_refl _)
  rwa [e] at this
theorem plc_mis {l : List Int} {n : Nat} (h : Asc l) (hr : ∀ x ∈ l, 0 ≤ x ∧ x < n) {i : Nat} (hm : (i : Int) ∈ l) : plc (mis l n) i = idxOf l (i : Int) l.length := by
  have := hr _ hm
  have hc := cnt_mis h hr (i := i) (by omega)
  rw [plc_out fun x => (mis_has.1 x).2 hm, idx_cnt h hm]
  omega
theorem left_is {β : Type} {l : List Int} {n : Nat} (h : Asc l) (hr : ∀ x ∈ l, 0 ≤ x ∧ x < n) (q : Nat → β) : coll (fun i => if (i : Int) ∈ mis l n then [] else [q i]) n = coll (fun k => [q (l.getD k 0).toNat]) l.length := by
  have e1 : coll (fun i => if (i : Int) ∈ mis l n then [] else [q i]) n = (sel (inB l) n).map fun x => q x.toNat := by
    unfold sel
    rw [coll_map]
    refine coll_ext fun i hi => ?_
    by_cases hm : (i : Int) ∈ l
    · rw [if_neg fun x => (mis_has.1 x).2 hm, if_pos (inB_iff.2 hm)]; simp
    · rw [if_pos (mis_has.2 ⟨hi, hm⟩), if_neg (fun x => hm (inB_iff.1 x))]; rfl
  have e2 : sel (inB l) n = l := sel_self h hr
  rw [e1, e2]
  conv => lhs; rw [← coll_self l 0]
  rw [coll_map]
  rfl
theorem mis_asc {l : List Int} {n : Nat} : ascE (mis l n) n = 0 := asc_iff.2 ⟨sel_rng, sel_asc _ _⟩
theorem rem_none {g : Gr} {p : Mo} (hv : validE g = 0) (h : PartOk g p) : remE g (mis p.ns g.ns.length) (mis p.es g.es.length) = 0 := by
  unfold remE
  rw [if_neg (by omega), if_neg (by rw [mis_asc]; simp), if_neg (by rw [mis_asc]; simp)]
  refine fstN_all fun i _ hi => ?_
  have hi : i < g.es.length := by omega
  unfold dangAt
  rw [if_neg]
  intro hd
  unfold dangB at hd
  rw [Bool.and_eq_true, Bool.not_eq_true', decide_eq_false_iff_not, Bool.or_eq_true, decide_eq_true_iff, decide_eq_true_iff] at hd
  obtain ⟨e1, _, e2, _⟩ := fr_eq hv hi
  rw [e1, e2] at hd
  have hm : (i : Int) ∈ p.es := Classical.byContradiction fun hn => hd.1 (mis_has.2 ⟨hi, hn⟩)
  obtain ⟨d1, d2⟩ := h.dn i hm
  rw [e1] at d1
  rw [e2] at d2
  rcases hd.2 with x | x
  · exact (mis_has.1 x).2 d1
  · exact (mis_has.1 x).2 d2
theorem rem_sub {g : Gr} {p : Mo} (hv : validE g = 0) (h : PartOk g p) : remG g (mis p.ns g.ns.length) (mis p.es g.es.length) = subG g p := by
  unfold remG
  rw [if_pos (rem_none hv h)]
  have e1 : remNs g (mis p.ns g.ns.length) g.ns.length = coll (fun k => [subNd g p k]) p.ns.length := left_is h.an h.rn fun i => g.ns.getD i 0
  have e2 : remEs g (mis p.ns g.ns.length) (mis p.es g.es.length) g.es.length = coll (fun k => [subEd g p k]) p.es.length := by
    refine (left_is h.ae h.re fun i => mvd g (mis p.ns g.ns.length) i).trans (coll_ext fun k hk => ?_)
    have hm := getD_mem (d := (0 : Int)) hk
    have hr := h.re _ hm
    have hi : (p.es.getD k 0).toNat < g.es.length := by omega
    have d := h.dn (p.es.getD k 0).toNat (by rw [show ((p.es.getD k 0).toNat : Int) = p.es.getD k 0 by omega]; exact hm)
    obtain ⟨f1, _, f2, _⟩ := fr_eq hv hi
    rw [f1, f2] at d
    unfold mvd subEd
    rw [plc_mis h.an h.rn d.1, plc_mis h.an h.rn d.2, f1, f2]
  rw [e1, e2]; rfl

end Go.Proofs.YthnhacncnhknnaaDoor

/-
  The program's sets: has, intersect, missing, mappedInto. Printed by mkg1.py.
-/
namespace Go.Proofs.YthnhacncnhknnaaDoor
open Go.RowKit Go.Shelf

theorem hasG_any (l : List Int) (x : Nat) (A : Option Addr) (B c : Nat) (w : World) (hl : l.length ≤ 1000000) (hA : Ints w B A l) (hs : Asc l) :
    Calls Tryd.prog 74 #[.slice A l.length c, .int .i64 (x : Int)] w fun e w' => e = .returned (.bool (decide ((x : Int) ∈ l))) ∧ Below w.heap.size w w' := by
  have HB := Lib.hid (bin_any l x A B c w hl hA hs)
  clear hA hs
  generalize decide ((x : Int) ∈ l) = R at *
  go_enter Tryd.func74, Tryd.ntmps74
  go_wp2_with fail
  refine HB.out.mono ?_
  rintro e w' ⟨rfl, q, rfl⟩
  go_wp2_with fail
  go_ret
  exact ⟨rfl, below_draws (Below.refl _ _) q⟩

theorem andF_yes {a b : List Int} {k : Nat} (h : decide (a.getD k 0 ∈ b) = true) : andF a b (k + 1) = andF a b k ++ [a.getD k 0] := by
  show andF a b k ++ (if a.getD k 0 ∈ b then [a.getD k 0] else []) = _
  rw [if_pos (of_decide_eq_true h)]
theorem andF_no {a b : List Int} {k : Nat} (h : decide (a.getD k 0 ∈ b) = false) : andF a b (k + 1) = andF a b k := by
  show andF a b k ++ (if a.getD k 0 ∈ b then [a.getD k 0] else []) = _
  rw [if_neg (of_decide_eq_false h), List.append_nil]

set_option maxHeartbeats 1000000 in
theorem intersectG_any (a b : List Int) (A A2 : Option Addr) (c c2 : Nat) (w : World) (ha : a.length ≤ 1000) (hb : b.length ≤ 1000) (h0 : ∀ x ∈ a, 0 ≤ x) (hA : Ints w w.heap.size A a) (hB : Ints w w.heap.size A2 b) (hs : Asc b) :
    Calls Tryd.prog 55 #[.slice A a.length c, .slice A2 b.length c2] w fun e w' => ∃ v, e = .returned v ∧ OwnI w' w.heap.size v (andF a b a.length) ∧ Below w.heap.size w w' := by
  have HA := Lib.hid hA
  have HHS := Lib.hid (fun (x : Nat) (u : World) (hu : Below w.heap.size w u) => hasG_any b x A2 w.heap.size c2 u (by omega) (hB.below hu) hs)
  have H00 := Lib.hid h0
  clear hA hB hs h0
  have HY := Lib.hid (fun k h => andF_yes (a := a) (b := b) (k := k) h)
  have HN := Lib.hid (fun k h => andF_no (a := a) (b := b) (k := k) h)
  have HLE := Lib.hid (fun k => andF_le a b k)
  have H0 : Hid (andF a b 0 = []) := Lib.hid rfl
  generalize andF a b = P at *
  go_enter Tryd.func55, Tryd.ntmps55
  go_wp2_with fail
  go_loopw [5, 10] (fun v x wr => ∃ k : Nat, k ≤ a.length ∧ x = .int .i64 (k : Int) ∧ OwnI wr w.heap.size v (P k) ∧ Below w.heap.size w wr) (fun _ x _ => a.length - (intOf x).toNat)
  case atStart => exact ⟨0, Nat.zero_le _, rfl, by rw [H0.out]; exact OwnE.nil _ _ _, Below.refl _ _⟩
  case round =>
    obtain ⟨k, hk, rfl, hown, hbel⟩ := hrel
    have HG := Lib.hid hbel
    have hsz := hbel.size
    have e9 := HLE.out k
    obtain ⟨ao, cap, rfl⟩ := OwnE.slice hown
    have HW := Lib.hid hown
    by_cases hlt : k < a.length
    · have hk0 : (0 : Int) ≤ (k : Int) := by omega
      have hk1 : (k : Int) < ((a.length : Nat) : Int) := by omega
      have hk2 : ((k : Int)).toNat = k := by omega
      have HM : Hid (a.length - ((k : Int) + 1).toNat < a.length - ((k : Int)).toNat) := Lib.hid (by omega)
      have HLT := Lib.hid hlt
      obtain ⟨b1, off, rfl, hb1, hc⟩ := Ints.cells (HA.out.below hbel) hlt
      have ck := hc k hlt
      have hx0 := H00.out _ (getD_mem (d := (0 : Int)) hlt)
      obtain ⟨x, hx⟩ : ∃ x : Nat, a.getD k 0 = (x : Int) := ⟨(a.getD k 0).toNat, by omega⟩
      have HYx := Lib.hid (HY.out k)
      have HNx := Lib.hid (HN.out k)
      have HHK := Lib.hid (HHS.out x wr hbel)
      rw [hx] at ck HYx HNx
      clear hc hx0 hx HY HN
      clear hown hbel
      cases hz : decide ((x : Int) ∈ b)
      case false =>
        have HN2 := Lib.hid (HNx.out hz)
        rw [hz] at HHK
        clear hz
        go_wp2_with fail
        refine HHK.out.mono ?_
        rintro e w9 ⟨rfl, hb9⟩
        have HW9 := Lib.hid (OwnE.below HW.out hb9 (Nat.le_refl _))
        have HG9 := Lib.hid (HG.out.trans (hb9.mono hsz))
        have hsz9 : w.heap.size ≤ w9.heap.size := Nat.le_trans hsz hb9.size
        clear hb9 HW HG
        go_wp2_with fail
        go_roundw
        case rel => exact ⟨k + 1, HLT.out, by go_num, by rw [HN2.out]; exact HW9.out, HG9.out⟩
        case measure => exact HM.out
      case true =>
        have HY2 := Lib.hid (HYx.out hz)
        rw [hz] at HHK
        clear hz
        go_wp2_with fail
        refine HHK.out.mono ?_
        rintro e w9 ⟨rfl, hb9⟩
        have HW9 := Lib.hid (OwnE.below HW.out hb9 (Nat.le_refl _))
        have HG9 := Lib.hid (HG.out.trans (hb9.mono hsz))
        have hsz9 : w.heap.size ≤ w9.heap.size := Nat.le_trans hsz hb9.size
        clear hb9 HW HG
        go_wp2_with (at_builtin; refine wpList_append_int (w := w9.alloc _) rfl _ _ rfl w.heap.size _ (P k) rfl ?y1 w9.heap.size 1 ((x : Int)) rfl ?y2 ?y3 ?y4 ?_)
        case y1 => exact HW9.out.alloc _
        case y2 => exact cell_new _ _ _
        case y3 => omega
        case y4 => simp; omega
        intro v2 w2 hown2 _ hb2
        have HW2 := Lib.hid (OwnE.cast HY2.out.symm hown2)
        have HB2 := Lib.hid ((HG9.out.alloc hsz9 _).trans hb2)
        clear hown2 hb2
        go_wp2_with fail
        go_roundw
        case rel => exact ⟨k + 1, HLT.out, by go_num, HW2.out, HB2.out⟩
        case measure => exact HM.out
    · have e : k = a.length := by omega
      subst e
      clear hown hbel
      go_wp2_with fail
      go_ret
      exact ⟨_, rfl, HW.out, HG.out⟩

set_option maxHeartbeats 1000000 in
theorem missingG_any (l : List Int) (n : Nat) (A : Option Addr) (c : Nat) (w : World) (hl : l.length ≤ 1000) (hn : n ≤ 1000) (hB : Ints w w.heap.size A l) (hs : Asc l) :
    Calls Tryd.prog 62 #[.slice A l.length c, .int .i64 (n : Int)] w fun e w' => ∃ v, e = .returned v ∧ OwnI w' w.heap.size v (mis l n) ∧ Below w.heap.size w w' := by
  have HHS := Lib.hid (fun (x : Nat) (u : World) (hu : Below w.heap.size w u) => hasG_any l x A w.heap.size c u (by omega) (hB.below hu) hs)
  clear hB hs
  have HY := Lib.hid (fun k h => sel_yes (f := fun i => !inB l i) (k := k) h)
  have HN := Lib.hid (fun k h => sel_no (f := fun i => !inB l i) (k := k) h)
  have HLE := Lib.hid (fun k => sel_le (fun i => !inB l i) k)
  have H0 : Hid (sel (fun i => !inB l i) 0 = []) := Lib.hid rfl
  have HRR : Hid (mis l n = sel (fun i => !inB l i) n) := Lib.hid rfl
  generalize mis l n = RR at *
  generalize sel (fun i => !inB l i) = P at *
  go_enter Tryd.func62, Tryd.ntmps62
  go_wp2_with fail
  go_loopw [5, 8] (fun v x wr => ∃ k : Nat, k ≤ n ∧ x = .int .i64 (k : Int) ∧ OwnI wr w.heap.size v (P k) ∧ Below w.heap.size w wr) (fun _ x _ => n - (intOf x).toNat)
  case atStart => exact ⟨0, Nat.zero_le _, rfl, by rw [H0.out]; exact OwnE.nil _ _ _, Below.refl _ _⟩
  case round =>
    obtain ⟨k, hk, rfl, hown, hbel⟩ := hrel
    have HG := Lib.hid hbel
    have hsz := hbel.size
    have e9 := HLE.out k
    obtain ⟨ao, cap, rfl⟩ := OwnE.slice hown
    have HW := Lib.hid hown
    by_cases hlt : k < n
    · have hk0 : (0 : Int) ≤ (k : Int) := by omega
      have hk1 : (k : Int) < ((n : Nat) : Int) := by omega
      have hk2 : ((k : Int)).toNat = k := by omega
      have HM : Hid (n - ((k : Int) + 1).toNat < n - ((k : Int)).toNat) := Lib.hid (by omega)
      have HLT := Lib.hid hlt
      have HHK := Lib.hid (HHS.out k wr hbel)
      clear hown hbel
      cases hz : decide ((k : Int) ∈ l)
      case true =>
        have HN2 := Lib.hid (HN.out k (by show (!decide ((k : Int) ∈ l)) = false; rw [hz]; rfl))
        rw [hz] at HHK
        clear hz
        go_wp2_with fail
        refine HHK.out.mono ?_
        rintro e w9 ⟨rfl, hb9⟩
        have HW9 := Lib.hid (OwnE.below HW.out hb9 (Nat.le_refl _))
        have HG9 := Lib.hid (HG.out.trans (hb9.mono hsz))
        have hsz9 : w.heap.size ≤ w9.heap.size := Nat.le_trans hsz hb9.size
        clear hb9 HW HG
        go_wp2_with fail
        go_roundw
        case rel => exact ⟨k + 1, HLT.out, by go_num, by rw [HN2.out]; exact HW9.out, HG9.out⟩
        case measure => exact HM.out
      case false =>
        have HY2 := Lib.hid (HY.out k (by show (!decide ((k : Int) ∈ l)) = true; rw [hz]; rfl))
        rw [hz] at HHK
        clear hz
        go_wp2_with fail
        refine HHK.out.mono ?_
        rintro e w9 ⟨rfl, hb9⟩
        have HW9 := Lib.hid (OwnE.below HW.out hb9 (Nat.le_refl _))
        have HG9 := Lib.hid (HG.out.trans (hb9.mono hsz))
        have hsz9 : w.heap.size ≤ w9.heap.size := Nat.le_trans hsz hb9.size
        clear hb9 HW HG
        go_wp2_with (at_builtin; refine wpList_append_int (w := w9.alloc _) rfl _ _ rfl w.heap.size _ (P k) rfl ?y1 w9.heap.size 1 ((k : Int)) rfl ?y2 ?y3 ?y4 ?_)
        case y1 => exact HW9.out.alloc _
        case y2 => exact cell_new _ _ _
        case y3 => omega
        case y4 => simp; omega
        intro v2 w2 hown2 _ hb2
        have HW2 := Lib.hid (OwnE.cast HY2.out.symm hown2)
        have HB2 := Lib.hid ((HG9.out.alloc hsz9 _).trans hb2)
        clear hown2 hb2
        go_wp2_with fail
        go_roundw
        case rel => exact ⟨k + 1, HLT.out, by go_num, HW2.out, HB2.out⟩
        case measure => exact HM.out
    · have e : k = n := by omega
      subst e
      clear hown hbel
      go_wp2_with fail
      go_ret
      exact ⟨_, rfl, by rw [HRR.out]; exact HW.out, HG.out⟩

set_option maxHeartbeats 1000000 in
theorem mappedG_any (l m : List Int) (A A2 : Option Addr) (c c2 : Nat) (w : World) (hl : l.length ≤ 1000) (hm : m.length ≤ 1000) (h0 : ∀ x ∈ m, 0 ≤ x) (hB : Ints w w.heap.size A l) (hA : Ints w w.heap.size A2 m) (hs : Asc l) :
    Calls Tryd.prog 59 #[.slice A l.length c, .slice A2 m.length c2] w fun e w' => ∃ v, e = .returned v ∧ OwnI w' w.heap.size v (intoL m l) ∧ Below w.heap.size w w' := by
  have HA := Lib.hid hA
  have HHS := Lib.hid (fun (x : Nat) (u : World) (hu : Below w.heap.size w u) => hasG_any l x A w.heap.size c u (by omega) (hB.below hu) hs)
  have H00 := Lib.hid h0
  clear hA hB hs h0
  have HY := Lib.hid (fun k h => sel_yes (f := fun i => decide (m.getD i 0 ∈ l)) (k := k) h)
  have HN := Lib.hid (fun k h => sel_no (f := fun i => decide (m.getD i 0 ∈ l)) (k := k) h)
  have HLE := Lib.hid (fun k => sel_le (fun i => decide (m.getD i 0 ∈ l)) k)
  have H0 : Hid (sel (fun i => decide (m.getD i 0 ∈ l)) 0 = []) := Lib.hid rfl
  have HRR : Hid (intoL m l = sel (fun i => decide (m.getD i 0 ∈ l)) m.length) := Lib.hid rfl
  generalize intoL m l = RR at *
  generalize sel (fun i => decide (m.getD i 0 ∈ l)) = P at *
  go_enter Tryd.func59, Tryd.ntmps59
  go_wp2_with fail
  go_loopw [5, 10] (fun v x wr => ∃ k : Nat, k ≤ m.length ∧ x = .int .i64 (k : Int) ∧ OwnI wr w.heap.size v (P k) ∧ Below w.heap.size w wr) (fun _ x _ => m.length - (intOf x).toNat)
  case atStart => exact ⟨0, Nat.zero_le _, rfl, by rw [H0.out]; exact OwnE.nil _ _ _, Below.refl _ _⟩
  case round =>
    obtain ⟨k, hk, rfl, hown, hbel⟩ := hrel
    have HG := Lib.hid hbel
    have hsz := hbel.size
    have e9 := HLE.out k
    obtain ⟨ao, cap, rfl⟩ := OwnE.slice hown
    have HW := Lib.hid hown
    by_cases hlt : k < m.length
    · have hk0 : (0 : Int) ≤ (k : Int) := by omega
      have hk1 : (k : Int) < ((m.length : Nat) : Int) := by omega
      have hk2 : ((k : Int)).toNat = k := by omega
      have HM : Hid (m.length - ((k : Int) + 1).toNat < m.length - ((k : Int)).toNat) := Lib.hid (by omega)
      have HLT := Lib.hid hlt
      obtain ⟨b1, off, rfl, hb1, hc⟩ := Ints.cells (HA.out.below hbel) hlt
      have ck := hc k hlt
      have hx0 := H00.out _ (getD_mem (d := (0 : Int)) hlt)
      obtain ⟨x, hx⟩ : ∃ x : Nat, m.getD k 0 = (x : Int) := ⟨(m.getD k 0).toNat, by omega⟩
      have HYx : Hid (decide ((x : Int) ∈ l) = true → P (k + 1) = P k ++ [(k : Int)]) := Lib.hid fun h => HY.out k (by rw [hx]; exact h)
      have HNx : Hid (decide ((x : Int) ∈ l) = false → P (k + 1) = P k) := Lib.hid fun h => HN.out k (by rw [hx]; exact h)
      have HHK := Lib.hid (HHS.out x wr hbel)
      rw [hx] at ck
      clear hc hx0 hx HY HN
      clear hown hbel
      cases hz : decide ((x : Int) ∈ l)
      case false =>
        have HN2 := Lib.hid (HNx.out hz)
        rw [hz] at HHK
        clear hz
        go_wp2_with fail
        refine HHK.out.mono ?_
        rintro e w9 ⟨rfl, hb9⟩
        have HW9 := Lib.hid (OwnE.below HW.out hb9 (Nat.le_refl _))
        have HG9 := Lib.hid (HG.out.trans (hb9.mono hsz))
        have hsz9 : w.heap.size ≤ w9.heap.size := Nat.le_trans hsz hb9.size
        clear hb9 HW HG
        go_wp2_with fail
        go_roundw
        case rel => exact ⟨k + 1, HLT.out, by go_num, by rw [HN2.out]; exact HW9.out, HG9.out⟩
        case measure => exact HM.out
      case true =>
        have HY2 := Lib.hid (HYx.out hz)
        rw [hz] at HHK
        clear hz
        go_wp2_with fail
        refine HHK.out.mono ?_
        rintro e w9 ⟨rfl, hb9⟩
        have HW9 := Lib.hid (OwnE.below HW.out hb9 (Nat.le_refl _))
        have HG9 := Lib.hid (HG.out.trans (hb9.mono hsz))
        have hsz9 : w.heap.size ≤ w9.heap.size := Nat.le_trans hsz hb9.size
        clear hb9 HW HG
        go_wp2_with (at_builtin; refine wpList_append_int (w := w9.alloc _) rfl _ _ rfl w.heap.size _ (P k) rfl ?y1 w9.heap.size 1 ((k : Int)) rfl ?y2 ?y3 ?y4 ?_)
        case y1 => exact HW9.out.alloc _
        case y2 => exact cell_new _ _ _
        case y3 => omega
        case y4 => simp; omega
        intro v2 w2 hown2 _ hb2
        have HW2 := Lib.hid (OwnE.cast HY2.out.symm hown2)
        have HB2 := Lib.hid ((HG9.out.alloc hsz9 _).trans hb2)
        clear hown2 hb2
        go_wp2_with fail
        go_roundw
        case rel => exact ⟨k + 1, HLT.out, by go_num, HW2.out, HB2.out⟩
        case measure => exact HM.out
    · have e : k = m.length := by omega
      subst e
      clear hown hbel
      go_wp2_with fail
      go_ret
      exact ⟨_, rfl, by rw [HRR.out]; exact HW.out, HG.out⟩

end Go.Proofs.YthnhacncnhknnaaDoor

/-
  Parts of graphs, the program: Valid, checkBoth. Printed by mkg2.py.
-/
namespace Go.Proofs.YthnhacncnhknnaaDoor
open Go.RowKit Go.Shelf

set_option maxRecDepth 100000 in
set_option maxHeartbeats 4000000 in
theorem validG_any : ValidC 40 := by
  intro g p An cn Ae ce Pn pn Pe pe w hg hp
  have hS0 : SR w _ ((w.alloc (.cells #[.slice An g.ns.length cn, .slice Ae g.es.length ce] 25)).alloc (.cells #[.slice Pn p.ns.length pn, .slice Pe p.es.length pe] 27)) := SR.push (SR.push (SR.nil w) rfl _ _ _) (by simp) _ _ _
  have HV := Lib.hid (fun (u : World) (hu : Below w.heap.size w u) => validP_any g An cn Ae ce u (hg.up hu))
  have HA1 := Lib.hid (fun (u : World) (hu : Below w.heap.size w u) => ascP_any p.ns g.ns.length Pn u.heap.size pn u (by have := hp.ln; unfold maxLen; omega) (Reads.up hp.ns hu))
  have HA2 := Lib.hid (fun (u : World) (hu : Below w.heap.size w u) => ascP_any p.es g.es.length Pe u.heap.size pe u (by have := hp.le; unfold maxLen; omega) (Reads.up hp.es hu))
  have HHS := Lib.hid (fun (hs : Asc p.ns) (x : Nat) (u : World) (hu : Below w.heap.size w u) => hasG_any p.ns x Pn u.heap.size pn u (by have := hp.ln; omega) (Reads.up hp.ns hu) hs)
  have HPE := Lib.hid (fun (u : World) (hu : Below w.heap.size w u) => Reads.up hp.es hu)
  have HGE := Lib.hid (fun (u : World) (hu : Below w.heap.size w u) => Reads.up hg.es hu)
  have HX : Hid (partE g p = if validE g ≠ 0 then validE g else if ascE p.ns g.ns.length ≠ 0 then ascE p.ns g.ns.length else if ascE p.es g.es.length ≠ 0 then ascE p.es g.es.length else fstN (pdAt g p) 0 (p.es.length - 0)) := Lib.hid rfl
  have HFR := Lib.hid (fun (hv : validE g = 0) (i : Nat) (hi : i < g.es.length) => fr_eq hv hi)
  have HZ1 : Hid (ascE p.ns g.ns.length = 0 → Asc p.ns) := Lib.hid fun h => (asc_zero h).2
  have HZ : Hid (ascE p.es g.es.length = 0 → ∀ x ∈ p.es, 0 ≤ x ∧ x < g.es.length) := Lib.hid fun h => (asc_zero h).1
  have HHIT := Lib.hid (fun k (h : k < p.es.length) hf => fstN_hit (f := pdAt g p) h hf)
  have HPASS := Lib.hid (fun k (h : k < p.es.length) hf => fstN_pass (f := pdAt g p) h hf)
  have HEND := Lib.hid (fun k (h : p.es.length ≤ k) => fstN_end (f := pdAt g p) h)
  have HD1 := Lib.hid (fun k h => pd_hit (g := g) (p := p) (k := k) h)
  have HD0 := Lib.hid (fun k h => pd_pass (g := g) (p := p) (k := k) h)
  have HLL : Hid (p.ns.length ≤ 1000 ∧ p.es.length ≤ 1000) := Lib.hid ⟨hp.ln, hp.le⟩
  have HS0 := Lib.hid hS0
  clear hg hp hS0
  generalize partE g p = R at HX ⊢
  generalize ascE p.ns g.ns.length = e1 at *
  generalize ascE p.es g.es.length = e2 at *
  generalize pdAt g p = F at *
  generalize validE g = e0 at *
  go_enter Tryd.func40, Tryd.ntmps40
  obtain ⟨c0, c1⟩ := HS0.out.cell (i := 0) rfl
  obtain ⟨c2, c3⟩ := HS0.out.cell (i := 1) rfl
  simp only [Nat.add_zero] at c0 c1
  go_wp2_with fail
  refine (HV.out _ HS0.out.1).mono ?_
  rintro e w0 ⟨rfl, hb0⟩
  have HS1 := Lib.hid (HS0.out.up hb0)
  clear hb0 HS0 HV c0 c1 c2 c3
  obtain ⟨c0, c1⟩ := HS1.out.cell (i := 0) rfl
  obtain ⟨c2, c3⟩ := HS1.out.cell (i := 1) rfl
  simp only [Nat.add_zero] at c0 c1
  by_cases h0 : e0 = 0
  case neg =>
    have HR := Lib.hid (show R = e0 by rw [HX.out, if_pos h0])
    have t1 : ((e0 : Int) != 0) = true := by simp; omega
    clear h0
    go_wp2_with fail
    go_ret
    exact ⟨ret_int (by rw [HR.out]), HS1.out.1⟩
  have HFR2 := Lib.hid (HFR.out h0)
  have HX1 := Lib.hid (show R = if e1 ≠ 0 then e1 else if e2 ≠ 0 then e2 else fstN F 0 (p.es.length - 0) by rw [HX.out, if_neg (by omega)])
  have t1 : ((e0 : Int) != 0) = false := by simp; omega
  clear h0 HX HFR
  go_wp2_with fail
  refine (HA1.out _ HS1.out.1).mono ?_
  rintro e w1 ⟨rfl, rfl⟩
  clear HA1
  by_cases h1 : e1 = 0
  case neg =>
    have HR := Lib.hid (show R = e1 by rw [HX1.out, if_pos h1])
    have t2 : ((e1 : Int) != 0) = true := by simp; omega
    clear h1
    go_wp2_with fail
    go_ret
    exact ⟨ret_int (by rw [HR.out]), HS1.out.1⟩
  have HX2 := Lib.hid (show R = if e2 ≠ 0 then e2 else fstN F 0 (p.es.length - 0) by rw [HX1.out, if_neg (by omega)])
  have HHS2 := Lib.hid (HHS.out (HZ1.out h1))
  have t2 : ((e1 : Int) != 0) = false := by simp; omega
  clear h1 HX1 HHS HZ1
  go_wp2_with fail
  refine (HA2.out _ HS1.out.1).mono ?_
  rintro e w2 ⟨rfl, rfl⟩
  clear HA2
  by_cases h2 : e2 = 0
  case neg =>
    have HR := Lib.hid (show R = e2 by rw [HX2.out, if_pos h2])
    have t3 : ((e2 : Int) != 0) = true := by simp; omega
    clear h2
    go_wp2_with fail
    go_ret
    exact ⟨ret_int (by rw [HR.out]), HS1.out.1⟩
  have HX3 := Lib.hid (show R = fstN F 0 (p.es.length - 0) by rw [HX2.out, if_neg (by omega)])
  have HZ2 := Lib.hid (HZ.out h2)
  have t3 : ((e2 : Int) != 0) = false := by simp; omega
  clear h2 HX2 HZ
  go_wp2_with fail
  clear t1 t2 t3 c0 c1 c2 c3
  go_loopw [36] (fun v wr => ∃ k : Nat, k ≤ p.es.length ∧ v = .int .i64 (k : Int) ∧ SR w [(.slice An g.ns.length cn, .slice Ae g.es.length ce, 25), (.slice Pn p.ns.length pn, .slice Pe p.es.length pe, 27)] wr ∧ R = fstN F k (p.es.length - k)) (fun v _ => p.es.length - (intOf v).toNat)
  case atStart => exact ⟨0, Nat.zero_le _, rfl, HS1.out, HX3.out⟩
  case round =>
    clear HX3 HS1
    obtain ⟨k, hk, rfl, hsr, hr⟩ := hrel
    have HS := Lib.hid hsr
    have HR := Lib.hid hr
    clear hsr hr
    obtain ⟨c0, c1⟩ := HS.out.cell (i := 0) rfl
    obtain ⟨c2, c3⟩ := HS.out.cell (i := 1) rfl
    simp only [Nat.add_zero] at c0 c1
    by_cases hlt : k < p.es.length
    · obtain ⟨b, off, hPe, hb, hc⟩ := Ints.cells (HPE.out _ HS.out.1) hlt
      have ck := hc k hlt
      have hx := HZ2.out _ (getD_mem (d := (0 : Int)) hlt)
      obtain ⟨q, hq⟩ : ∃ q : Nat, p.es.getD k 0 = (q : Int) := ⟨(p.es.getD k 0).toNat, by omega⟩
      have HDK1 := Lib.hid (HD1.out k)
      have HDK0 := Lib.hid (HD0.out k)
      have HHK := Lib.hid (HHIT.out k hlt)
      have HPK := Lib.hid (HPASS.out k hlt)
      rw [hq] at ck hx HDK1 HDK0
      rw [Int.toNat_natCast] at HDK1 HDK0
      have hqk : q < g.es.length := by omega
      obtain ⟨b2, off2, hAe, hb2, hd⟩ := Eds.cells (HGE.out _ HS.out.1) hqk
      obtain ⟨d0, d1, d2⟩ := hd q hqk
      obtain ⟨f1, _, f2, _⟩ := HFR2.out q hqk
      subst hPe hAe
      have i0 : (0 : Int) ≤ (k : Int) := by omega
      have i1 : (k : Int) < (p.es.length : Int) := by omega
      have i3 : p.es.length ≤ 1000 := HLL.out.2
      have i2 : ((k : Int)).toNat = k := by omega
      have j0 : (0 : Int) ≤ (q : Int) := by omega
      have j1 : (q : Int) < (g.es.length : Int) := by omega
      have j2 : ((q : Int)).toNat = q := by omega
      have HLT := Lib.hid hlt
      have HM : Hid (p.es.length - ((k : Int) + 1).toNat < p.es.length - ((k : Int)).toNat) := Lib.hid (by omega)
      rw [f1] at d1 HDK1 HDK0
      rw [f2] at d2 HDK1 HDK0
      generalize frN g q = fr at *
      generalize toN g q = tt at *
      clear hc hd hx hq hlt f1 f2 d0
      have HQ1 := Lib.hid (HHS2.out fr)
      have HQ2 := Lib.hid (HHS2.out tt)
      have HY : Hid (decide ((fr : Int) ∈ p.ns) = true → decide ((tt : Int) ∈ p.ns) = true → R = fstN F (k + 1) (p.es.length - (k + 1))) := Lib.hid fun h1 h2 => by rw [HR.out, HPK.out (HDK0.out ⟨of_decide_eq_true h1, of_decide_eq_true h2⟩)]
      have HN1 : Hid (decide ((fr : Int) ∈ p.ns) = false → R = 14) := Lib.hid fun h1 => by
        have e := HDK1.out fun h => of_decide_eq_false h1 h.1
        rw [HR.out, HHK.out (by rw [e]; omega), e]
      have HN2 : Hid (decide ((tt : Int) ∈ p.ns) = false → R = 14) := Lib.hid fun h1 => by
        have e := HDK1.out fun h => of_decide_eq_false h1 h.2
        rw [HR.out, HHK.out (by rw [e]; omega), e]
      generalize decide ((fr : Int) ∈ p.ns) = z1 at *
      generalize decide ((tt : Int) ∈ p.ns) = z2 at *
      clear HDK1 HDK0 HHK HPK HR
      go_wp2_with fail
      have HMM : Hid (∀ u, Below wr.drew.heap.size wr.drew u → (fun u : World => u.cell? ⟨w.heap.size, 1, none⟩ = some (.slice (some ⟨b2, off2, none⟩) g.es.length ce) ∧ u.cell? ⟨w.heap.size + 1, 0, none⟩ = some (.slice Pn p.ns.length pn) ∧ u.cell? ⟨b2, off2 + q * 3 + 1, none⟩ = some (.int .i64 (fr : Int)) ∧ u.cell? ⟨b2, off2 + q * 3 + 2, none⟩ = some (.int .i64 (tt : Int))) u) := Lib.hid fun u hu => ⟨cell_up hu c1, cell_up hu c2, cell_up hu d1, cell_up hu d2⟩
      have HSD := Lib.hid (HS.out.up (below_d wr))
      have WD0 := Lib.hid (Below.refl wr.drew.heap.size wr.drew)
      clear c0 c1 c2 c3 ck d1 d2 HS
      refine wp_region_noPanic ?_
      refine wp_region_held_drew (S := (fun u : World => u.cell? ⟨w.heap.size, 1, none⟩ = some (.slice (some ⟨b2, off2, none⟩) g.es.length ce) ∧ u.cell? ⟨w.heap.size + 1, 0, none⟩ = some (.slice Pn p.ns.length pn) ∧ u.cell? ⟨b2, off2 + q * 3 + 1, none⟩ = some (.int .i64 (fr : Int)) ∧ u.cell? ⟨b2, off2 + q * 3 + 2, none⟩ = some (.int .i64 (tt : Int)))) (by kernel_rfl) (HMM.out _ WD0.out) (fun hHeld => ?_)
      generalize wr.drew = wd at *
      refine wpAnyH_take (i := 0) (v := ?_) (oper_at (r := _) rfl) (by kernel_rfl) (by kernel_rfl) (by kernel_rfl) (fun _ _ _ h => h) (Or.inl ⟨by rfl, ?_⟩) (by assumption) ?_
      rotate_left
      · intro w hSw; try dsimp only at hSw
        go_simp
        try with_reducible rfl
      try simp only [Act.put, List.setIfInBounds_toArray, List.set_cons_zero, List.set_cons_succ]
      refine wpAnyH_take (i := 1) (v := ?_) (oper_at (r := _) rfl) (by kernel_rfl) (by kernel_rfl) (by kernel_rfl) (fun _ _ _ h => h) (Or.inl ⟨by rfl, ?_⟩) (by assumption) ?_
      rotate_left
      · intro w hSw; try dsimp only at hSw
        go_simp
        try with_reducible rfl
      try simp only [Act.put, List.setIfInBounds_toArray, List.set_cons_zero, List.set_cons_succ]
      refine wpAnyH_take (i := 2) (v := ?_) (oper_at (r := _) rfl) (by kernel_rfl) (by kernel_rfl) (by kernel_rfl) (fun _ _ _ h => h) (Or.inl ⟨by rfl, ?_⟩) (by assumption) ?_
      rotate_left
      · intro w hSw; try dsimp only at hSw
        go_simp
        try with_reducible rfl
      try simp only [Act.put, List.setIfInBounds_toArray, List.set_cons_zero, List.set_cons_succ]
      refine wpAnyH_take (i := 3) (v := ?_) (oper_at (r := _) rfl) (by kernel_rfl) (by kernel_rfl) (by kernel_rfl) (fun _ _ _ h => h) (Or.inl ⟨by rfl, ?_⟩) (by assumption) ?_
      rotate_left
      · intro w hSw; try dsimp only at hSw
        go_simp
        try with_reducible rfl
      try simp only [Act.put, List.setIfInBounds_toArray, List.set_cons_zero, List.set_cons_succ]
      refine wpAnyH_take (i := 4) (v := ?_) (oper_at (r := _) rfl) (by kernel_rfl) (by kernel_rfl) (by kernel_rfl) (fun _ _ _ h => h) (Or.inl ⟨by rfl, ?_⟩) (by assumption) ?_
      rotate_left
      · intro w hSw; try dsimp only at hSw
        go_simp
        try with_reducible rfl
      try simp only [Act.put, List.setIfInBounds_toArray, List.set_cons_zero, List.set_cons_succ]
      refine wpAnyH_take (i := 5) (v := ?_) (oper_at (r := _) rfl) (by kernel_rfl) (by kernel_rfl) (by kernel_rfl) (fun _ _ _ h => h) (Or.inl ⟨by rfl, ?_⟩) (by assumption) ?_
      rotate_left
      · intro w hSw; try dsimp only at hSw
        go_simp
        try with_reducible rfl
      try simp only [Act.put, List.setIfInBounds_toArray, List.set_cons_zero, List.set_cons_succ]
      refine wpAnyH_take (i := 6) (v := ?_) (oper_at (r := _) rfl) (by kernel_rfl) (by kernel_rfl) (by kernel_rfl) (fun _ _ _ h => h) (Or.inl ⟨by rfl, ?_⟩) (by assumption) ?_
      rotate_left
      · intro w hSw; try dsimp only at hSw
        go_simp
        try with_reducible rfl
      try simp only [Act.put, List.setIfInBounds_toArray, List.set_cons_zero, List.set_cons_succ]
      refine wpAnyH_take (i := 7) (v := ?_) (oper_at (r := _) rfl) (by kernel_rfl) (by kernel_rfl) (by kernel_rfl) (fun _ _ _ h => h) (Or.inl ⟨by rfl, ?_⟩) (by assumption) ?_
      rotate_left
      · intro w hSw; try dsimp only at hSw
        go_simp
        try with_reducible rfl
      try simp only [Act.put, List.setIfInBounds_toArray, List.set_cons_zero, List.set_cons_succ]
      refine wpAnyH_ready (rs := [8]) (by kernel_rfl) (by simp) ?_
      refine AllReadyH.cons (oper_at (r := _) rfl) (fun K hK => ?_) AllReadyH.nil
      go_simp
      refine (HQ1.out _ HSD.out.1).mono ?_
      rintro e x2 ⟨rfl, hb2⟩
      have HS2 := Lib.hid (HSD.out.up hb2)
      have WD2 := Lib.hid hb2
      clear hb2 HSD WD0
      go_wp2_with fail
      refine hK.out _ _ (HMM.out _ WD2.out) (fun _ => ?_)
      clear hK K
      try simp only [Act.put, List.setIfInBounds_toArray, List.set_cons_zero, List.set_cons_succ]
      cases z1
      case false =>
        have HE := Lib.hid (HN1.out rfl)
        clear HN1 HN2 HY
        refine wpAnyH_take (i := 9) (v := ?_) (oper_at (r := _) rfl) (by kernel_rfl) (by kernel_rfl) (by kernel_rfl) (fun _ _ _ h => h) (Or.inl ⟨by rfl, ?_⟩) (by assumption) ?_
        rotate_left
        · intro w hSw; try dsimp only at hSw
          go_simp
          try with_reducible rfl
        try simp only [Act.put, List.setIfInBounds_toArray, List.set_cons_zero, List.set_cons_succ]
        refine wpAnyH_take (i := 10) (v := ?_) (oper_at (r := _) rfl) (by kernel_rfl) (by kernel_rfl) (by kernel_rfl) (fun _ _ _ h => h) (Or.inl ⟨by rfl, ?_⟩) (by assumption) ?_
        rotate_left
        · intro w hSw; try dsimp only at hSw
          go_simp
          try with_reducible rfl
        try simp only [Act.put, List.setIfInBounds_toArray, List.set_cons_zero, List.set_cons_succ]
        refine wpAnyH_take (i := 11) (v := undef) (oper_at (r := _) rfl) (by kernel_rfl) (by kernel_rfl) (by kernel_rfl) (fun _ _ _ h => h) (Or.inr ⟨by rfl, rfl⟩) (by assumption) ?_
        try simp only [Act.put, List.setIfInBounds_toArray, List.set_cons_zero, List.set_cons_succ]
        refine wpAnyH_take (i := 12) (v := undef) (oper_at (r := _) rfl) (by kernel_rfl) (by kernel_rfl) (by kernel_rfl) (fun _ _ _ h => h) (Or.inr ⟨by rfl, rfl⟩) (by assumption) ?_
        try simp only [Act.put, List.setIfInBounds_toArray, List.set_cons_zero, List.set_cons_succ]
        refine wpAnyH_take (i := 13) (v := undef) (oper_at (r := _) rfl) (by kernel_rfl) (by kernel_rfl) (by kernel_rfl) (fun _ _ _ h => h) (Or.inr ⟨by rfl, rfl⟩) (by assumption) ?_
        try simp only [Act.put, List.setIfInBounds_toArray, List.set_cons_zero, List.set_cons_succ]
        refine wpAnyH_take (i := 14) (v := undef) (oper_at (r := _) rfl) (by kernel_rfl) (by kernel_rfl) (by kernel_rfl) (fun _ _ _ h => h) (Or.inr ⟨by rfl, rfl⟩) (by assumption) ?_
        try simp only [Act.put, List.setIfInBounds_toArray, List.set_cons_zero, List.set_cons_succ]
        refine wpAnyH_take (i := 15) (v := undef) (oper_at (r := _) rfl) (by kernel_rfl) (by kernel_rfl) (by kernel_rfl) (fun _ _ _ h => h) (Or.inr ⟨by rfl, rfl⟩) (by assumption) ?_
        try simp only [Act.put, List.setIfInBounds_toArray, List.set_cons_zero, List.set_cons_succ]
        refine wpAnyH_take (i := 16) (v := undef) (oper_at (r := _) rfl) (by kernel_rfl) (by kernel_rfl) (by kernel_rfl) (fun _ _ _ h => h) (Or.inr ⟨by rfl, rfl⟩) (by assumption) ?_
        try simp only [Act.put, List.setIfInBounds_toArray, List.set_cons_zero, List.set_cons_succ]
        refine wpAnyH_take (i := 17) (v := undef) (oper_at (r := _) rfl) (by kernel_rfl) (by kernel_rfl) (by kernel_rfl) (fun _ _ _ h => h) (Or.inr ⟨by rfl, rfl⟩) (by assumption) ?_
        try simp only [Act.put, List.setIfInBounds_toArray, List.set_cons_zero, List.set_cons_succ]
        refine wpAnyH_take (i := 18) (v := undef) (oper_at (r := _) rfl) (by kernel_rfl) (by kernel_rfl) (by kernel_rfl) (fun _ _ _ h => h) (Or.inr ⟨by rfl, rfl⟩) (by assumption) ?_
        try simp only [Act.put, List.setIfInBounds_toArray, List.set_cons_zero, List.set_cons_succ]
        refine wpAnyH_ready (rs := [19]) (by kernel_rfl) (by simp) ?_
        refine AllReadyH.cons (oper_at (r := _) rfl) (fun K hK => ?_) AllReadyH.nil
        rw [if_neg (by rw [show Region.wanted _ _ = false from rfl]; exact Bool.false_ne_true)]
        refine hK.out _ _ (HMM.out _ WD2.out) (fun _ => ?_)
        clear hK K
        try simp only [Act.put, List.setIfInBounds_toArray, List.set_cons_zero, List.set_cons_succ]
        refine wpAnyH_take (i := 20) (v := undef) (oper_at (r := _) rfl) (by kernel_rfl) (by kernel_rfl) (by kernel_rfl) (fun _ _ _ h => h) (Or.inr ⟨by rfl, rfl⟩) (by assumption) ?_
        try simp only [Act.put, List.setIfInBounds_toArray, List.set_cons_zero, List.set_cons_succ]
        refine wpAnyH_take (i := 21) (v := ?_) (oper_at (r := _) rfl) (by kernel_rfl) (by kernel_rfl) (by kernel_rfl) (fun _ _ _ h => h) (Or.inl ⟨by rfl, ?_⟩) (by assumption) ?_
        rotate_left
        · intro w hSw; try dsimp only at hSw
          go_simp
          try with_reducible rfl
        try simp only [Act.put, List.setIfInBounds_toArray, List.set_cons_zero, List.set_cons_succ]
        refine wpAnyH_done (by kernel_rfl) ?_ _
        refine NoPanic.normal ?_
        go_wp2_with fail
        go_ret
        exact ⟨ret_int (by rw [HE.out]; rfl), HS2.out.1⟩
      case true =>
        have HYa := Lib.hid (HY.out rfl)
        clear HY HN1
        refine wpAnyH_take (i := 9) (v := ?_) (oper_at (r := _) rfl) (by kernel_rfl) (by kernel_rfl) (by kernel_rfl) (fun _ _ _ h => h) (Or.inl ⟨by rfl, ?_⟩) (by assumption) ?_
        rotate_left
        · intro w hSw; try dsimp only at hSw
          go_simp
          try with_reducible rfl
        try simp only [Act.put, List.setIfInBounds_toArray, List.set_cons_zero, List.set_cons_succ]
        refine wpAnyH_take (i := 10) (v := ?_) (oper_at (r := _) rfl) (by kernel_rfl) (by kernel_rfl) (by kernel_rfl) (fun _ _ _ h => h) (Or.inl ⟨by rfl, ?_⟩) (by assumption) ?_
        rotate_left
        · intro w hSw; try dsimp only at hSw
          go_simp
          try with_reducible rfl
        try simp only [Act.put, List.setIfInBounds_toArray, List.set_cons_zero, List.set_cons_succ]
        refine wpAnyH_take (i := 11) (v := ?_) (oper_at (r := _) rfl) (by kernel_rfl) (by kernel_rfl) (by kernel_rfl) (fun _ _ _ h => h) (Or.inl ⟨by rfl, ?_⟩) (by assumption) ?_
        rotate_left
        · intro w hSw; try dsimp only at hSw
          go_simp
          try with_reducible rfl
        try simp only [Act.put, List.setIfInBounds_toArray, List.set_cons_zero, List.set_cons_succ]
        refine wpAnyH_take (i := 12) (v := ?_) (oper_at (r := _) rfl) (by kernel_rfl) (by kernel_rfl) (by kernel_rfl) (fun _ _ _ h => h) (Or.inl ⟨by rfl, ?_⟩) (by assumption) ?_
        rotate_left
        · intro w hSw; try dsimp only at hSw
          go_simp
          try with_reducible rfl
        try simp only [Act.put, List.setIfInBounds_toArray, List.set_cons_zero, List.set_cons_succ]
        refine wpAnyH_take (i := 13) (v := ?_) (oper_at (r := _) rfl) (by kernel_rfl) (by kernel_rfl) (by kernel_rfl) (fun _ _ _ h => h) (Or.inl ⟨by rfl, ?_⟩) (by assumption) ?_
        rotate_left
        · intro w hSw; try dsimp only at hSw
          go_simp
          try with_reducible rfl
        try simp only [Act.put, List.setIfInBounds_toArray, List.set_cons_zero, List.set_cons_succ]
        refine wpAnyH_take (i := 14) (v := ?_) (oper_at (r := _) rfl) (by kernel_rfl) (by kernel_rfl) (by kernel_rfl) (fun _ _ _ h => h) (Or.inl ⟨by rfl, ?_⟩) (by assumption) ?_
        rotate_left
        · intro w hSw; try dsimp only at hSw
          go_simp
          try with_reducible rfl
        try simp only [Act.put, List.setIfInBounds_toArray, List.set_cons_zero, List.set_cons_succ]
        refine wpAnyH_take (i := 15) (v := ?_) (oper_at (r := _) rfl) (by kernel_rfl) (by kernel_rfl) (by kernel_rfl) (fun _ _ _ h => h) (Or.inl ⟨by rfl, ?_⟩) (by assumption) ?_
        rotate_left
        · intro w hSw; try dsimp only at hSw
          go_simp
          try with_reducible rfl
        try simp only [Act.put, List.setIfInBounds_toArray, List.set_cons_zero, List.set_cons_succ]
        refine wpAnyH_take (i := 16) (v := ?_) (oper_at (r := _) rfl) (by kernel_rfl) (by kernel_rfl) (by kernel_rfl) (fun _ _ _ h => h) (Or.inl ⟨by rfl, ?_⟩) (by assumption) ?_
        rotate_left
        · intro w hSw; try dsimp only at hSw
          go_simp
          try with_reducible rfl
        try simp only [Act.put, List.setIfInBounds_toArray, List.set_cons_zero, List.set_cons_succ]
        refine wpAnyH_take (i := 17) (v := ?_) (oper_at (r := _) rfl) (by kernel_rfl) (by kernel_rfl) (by kernel_rfl) (fun _ _ _ h => h) (Or.inl ⟨by rfl, ?_⟩) (by assumption) ?_
        rotate_left
        · intro w hSw; try dsimp only at hSw
          go_simp
          try with_reducible rfl
        try simp only [Act.put, List.setIfInBounds_toArray, List.set_cons_zero, List.set_cons_succ]
        refine wpAnyH_take (i := 18) (v := ?_) (oper_at (r := _) rfl) (by kernel_rfl) (by kernel_rfl) (by kernel_rfl) (fun _ _ _ h => h) (Or.inl ⟨by rfl, ?_⟩) (by assumption) ?_
        rotate_left
        · intro w hSw; try dsimp only at hSw
          go_simp
          try with_reducible rfl
        try simp only [Act.put, List.setIfInBounds_toArray, List.set_cons_zero, List.set_cons_succ]
        refine wpAnyH_ready (rs := [19]) (by kernel_rfl) (by simp) ?_
        refine AllReadyH.cons (oper_at (r := _) rfl) (fun K hK => ?_) AllReadyH.nil
        go_simp
        refine (HQ2.out _ HS2.out.1).mono ?_
        rintro e x3 ⟨rfl, hb3⟩
        have HS3 := Lib.hid (HS2.out.up hb3)
        have WD3 := Lib.hid (WD2.out.trans (hb3.mono WD2.out.size))
        clear hb3 HS2 WD2
        go_wp2_with fail
        refine hK.out _ _ (HMM.out _ WD3.out) (fun _ => ?_)
        clear hK K
        try simp only [Act.put, List.setIfInBounds_toArray, List.set_cons_zero, List.set_cons_succ]
        cases z2
        case false =>
          have HE := Lib.hid (HN2.out rfl)
          clear HN2 HYa
          refine wpAnyH_take (i := 20) (v := ?_) (oper_at (r := _) rfl) (by kernel_rfl) (by kernel_rfl) (by kernel_rfl) (fun _ _ _ h => h) (Or.inl ⟨by rfl, ?_⟩) (by assumption) ?_
          rotate_left
          · intro w hSw; try dsimp only at hSw
            go_simp
            try with_reducible rfl
          try simp only [Act.put, List.setIfInBounds_toArray, List.set_cons_zero, List.set_cons_succ]
          refine wpAnyH_take (i := 21) (v := ?_) (oper_at (r := _) rfl) (by kernel_rfl) (by kernel_rfl) (by kernel_rfl) (fun _ _ _ h => h) (Or.inl ⟨by rfl, ?_⟩) (by assumption) ?_
          rotate_left
          · intro w hSw; try dsimp only at hSw
            go_simp
            try with_reducible rfl
          try simp only [Act.put, List.setIfInBounds_toArray, List.set_cons_zero, List.set_cons_succ]
          refine wpAnyH_done (by kernel_rfl) ?_ _
          refine NoPanic.normal ?_
          go_wp2_with fail
          go_ret
          exact ⟨ret_int (by rw [HE.out]; rfl), HS3.out.1⟩
        case true =>
          have HE := Lib.hid (HYa.out rfl)
          clear HN2 HYa
          refine wpAnyH_take (i := 20) (v := ?_) (oper_at (r := _) rfl) (by kernel_rfl) (by kernel_rfl) (by kernel_rfl) (fun _ _ _ h => h) (Or.inl ⟨by rfl, ?_⟩) (by assumption) ?_
          rotate_left
          · intro w hSw; try dsimp only at hSw
            go_simp
            try with_reducible rfl
          try simp only [Act.put, List.setIfInBounds_toArray, List.set_cons_zero, List.set_cons_succ]
          refine wpAnyH_take (i := 21) (v := ?_) (oper_at (r := _) rfl) (by kernel_rfl) (by kernel_rfl) (by kernel_rfl) (fun _ _ _ h => h) (Or.inl ⟨by rfl, ?_⟩) (by assumption) ?_
          rotate_left
          · intro w hSw; try dsimp only at hSw
            go_simp
            try with_reducible rfl
          try simp only [Act.put, List.setIfInBounds_toArray, List.set_cons_zero, List.set_cons_succ]
          refine wpAnyH_done (by kernel_rfl) ?_ _
          refine NoPanic.normal ?_
          go_wp2_with fail
          go_roundw
          case rel => exact ⟨k + 1, HLT.out, by go_num, HS3.out, HE.out⟩
          case measure => exact HM.out
    · have HN : Hid (R = 0) := Lib.hid (by rw [HR.out]; exact HEND.out k (by omega))
      go_wp2_with fail
      go_ret
      exact ⟨ret_int (by rw [HN.out]; rfl), HS.out.1⟩

set_option maxRecDepth 100000 in
set_option maxHeartbeats 4000000 in
theorem bothG_any (g : Gr) (p q : Mo) (An : Option Addr) (cn : Nat) (Ae : Option Addr) (ce : Nat) (Pn : Option Addr) (pn : Nat) (Pe : Option Addr) (pe : Nat) (Qn : Option Addr) (qn : Nat) (Qe : Option Addr) (qe : Nat) (w : World) (hg : GrAt w An cn Ae ce g) (hp : PtAt w Pn Pe p) (hq : PtAt w Qn Qe q) :
    Calls Tryd.prog 52 #[gval An g.ns.length cn Ae g.es.length ce, gval Pn p.ns.length pn Pe p.es.length pe, gval Qn q.ns.length qn Qe q.es.length qe] w fun e w' => e = .returned (.int .i64 (twoE g p q : Nat)) ∧ Below w.heap.size w w' := by
  have hS0 : SR w _ (((w.alloc (.cells #[.slice An g.ns.length cn, .slice Ae g.es.length ce] 25)).alloc (.cells #[.slice Pn p.ns.length pn, .slice Pe p.es.length pe] 27)).alloc (.cells #[.slice Qn q.ns.length qn, .slice Qe q.es.length qe] 27)) := SR.push (SR.push (SR.push (SR.nil w) rfl _ _ _) (by simp) _ _ _) (by simp) _ _ _
  have HV := Lib.hid (fun (u : World) (hu : Below w.heap.size w u) => validG_any g p An cn Ae ce Pn pn Pe pe u (hg.up hu) (hp.up hu))
  have HR := Lib.hid (fun (u : World) (hu : Below w.heap.size w u) => validG_any g q An cn Ae ce Qn qn Qe qe u (hg.up hu) (hq.up hu))
  have HX : Hid (twoE g p q = if partE g p ≠ 0 then partE g p else partE g q) := Lib.hid (by
    unfold twoE
    by_cases h : partE g p = 0
    · rw [if_neg (fun hn => hn h), if_neg (fun hn => hn h)]
      unfold partE
      rw [if_neg (fun hn => hn (part_zero.1 h).1)]
    · rw [if_pos h, if_pos h])
  have HS0 := Lib.hid hS0
  clear hg hp hq hS0
  generalize twoE g p q = R at *
  generalize partE g p = v at *
  generalize partE g q = r at *
  go_enter Tryd.func52, Tryd.ntmps52
  obtain ⟨c0, c1⟩ := HS0.out.cell (i := 0) rfl
  obtain ⟨c2, c3⟩ := HS0.out.cell (i := 1) rfl
  obtain ⟨c4, c5⟩ := HS0.out.cell (i := 2) rfl
  simp only [Nat.add_zero] at c0 c1
  go_wp2_with fail
  refine (HV.out _ HS0.out.1).mono ?_
  rintro e w1 ⟨rfl, hb1⟩
  have HS1 := Lib.hid (HS0.out.up hb1)
  clear hb1 HS0 HV c0 c1 c2 c3 c4 c5
  obtain ⟨c0, c1⟩ := HS1.out.cell (i := 0) rfl
  obtain ⟨c4, c5⟩ := HS1.out.cell (i := 2) rfl
  simp only [Nat.add_zero] at c0 c1
  by_cases h1 : v = 0
  case neg =>
    have HE := Lib.hid (show R = v by rw [HX.out, if_pos h1])
    have t1 : ((v : Int) != 0) = true := by simp; omega
    clear h1
    go_wp2_with fail
    go_ret
    exact ⟨ret_int (by rw [HE.out]), HS1.out.1⟩
  have HE := Lib.hid (show R = r by rw [HX.out, if_neg (by omega)])
  have t1 : ((v : Int) != 0) = false := by simp; omega
  clear h1 HX
  go_wp2_with fail
  refine (HR.out _ HS1.out.1).mono ?_
  rintro e w2 ⟨rfl, hb2⟩
  have HB2 := Lib.hid (HS1.out.1.trans (hb2.mono HS1.out.1.size))
  clear hb2 c0 c1 c4 c5 t1
  go_wp2_with fail
  go_ret
  exact ⟨ret_int (by rw [HE.out]), HB2.out⟩

end Go.Proofs.YthnhacncnhknnaaDoor
