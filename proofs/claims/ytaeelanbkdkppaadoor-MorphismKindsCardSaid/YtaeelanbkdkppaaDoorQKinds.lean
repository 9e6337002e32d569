import Derived.Test.YtaeelanbkdkppaaDoorV12
import Derived.Test.YtaeelanbkdkppaaDoorChecked
import Derived.Test.YtaeelanbkdkppaaDoorRows
import Derived.Test.YtaeelanbkdkppaaDoorTie
import Derived.Test.YtaeelanbkdkppaaDoorCards
import Derived.SizedLaws
/-
  MorphismKinds. Printed by mkl6.py.
-/
namespace Go.Proofs.YtaeelanbkdkppaaDoor
open Go.RowKit Go.Shelf

set_option maxRecDepth 100000 in
set_option maxHeartbeats 4000000 in
theorem lawKinds (d : Dr) (An : Option Addr) (cn : Nat) (Ae : Option Addr) (ce : Nat) (x : List Nat) (Ax : Option Addr) (cx : Nat) (y : List Nat) (Ay : Option Addr) (cy : Nat) (w : World) (h00 : 0 < w.heap.size) (hT : TabW w) (hD : DrAt w An cn Ae ce d) (hX : Reads EBy w w.heap.size Ax x ∧ ∀ i, x.getD i 0 < 256) (hxl : x.length ≤ maxLen) (hY : Reads EBy w w.heap.size Ay y ∧ ∀ i, y.getD i 0 < 256) (hyl : y.length ≤ maxLen) :
    Calls Tryd.prog 9 #[gval An d.ns.length cn Ae d.es.length ce, .slice Ax x.length cx, .slice Ay y.length cy] w fun e w' => e = .returned (.bool true) ∧ Below w.heap.size w w' := by
  have HAW := Lib.hid (awk h00 hT)
  have HCH := Lib.hid (fun (lx : x.length ≤ 20) (ly : y.length ≤ 20) (u : World) (hu : Below w.heap.size w u) => chain_any d An cn Ae ce x Ax cx y Ay cy u (hD.up hu) (Reads.up hX.1 hu) hX.2 (by omega) (Reads.up hY.1 hu) hY.2 (by omega))
  have HXB := Lib.hid hX
  have HYB := Lib.hid hY
  have HS0 : Hid (SV w [([.slice An d.ns.length cn, .slice Ae d.es.length ce], 56)] _) := Lib.hid (SV.push (SV.nil w) rfl [.slice An d.ns.length cn, .slice Ae d.es.length ce] 56)
  clear hT h00 hD hX hY
  generalize madeG d = g at *
  unfold maxLen at hxl hyl
  go_enter Tryd.func9, Tryd.ntmps9
  go_wp2_with fail
  refine (HAW.out _ HS0.out.1).mono ?_
  rintro e w1 ⟨rfl, hb1⟩
  have HS1 := Lib.hid (HS0.out.up hb1)
  clear hb1 HS0
  by_cases lx : x.length ≤ 20
  case neg =>
    have t1 : (20 : Int) < (x.length : Int) := by omega
    clear lx
    go_wp2_with fail
    refine (HAW.out _ HS1.out.1).mono ?_
    rintro e w9 ⟨rfl, hb9⟩
    go_wp2_with fail
    go_ret
    exact ⟨rfl, HS1.out.1.trans (hb9.mono HS1.out.1.size)⟩
  have t1 : ¬ (20 : Int) < (x.length : Int) := by omega
  by_cases ly : y.length ≤ 20
  case neg =>
    have t2 : (20 : Int) < (y.length : Int) := by omega
    clear lx ly
    go_wp2_with fail
    refine (HAW.out _ HS1.out.1).mono ?_
    rintro e w9 ⟨rfl, hb9⟩
    go_wp2_with fail
    go_ret
    exact ⟨rfl, HS1.out.1.trans (hb9.mono HS1.out.1.size)⟩
  have t2 : ¬ (20 : Int) < (y.length : Int) := by omega
  have HCG := Lib.hid (HCH.out lx ly)
  have HXL := Lib.hid (And.intro lx ly)
  have c0 := HS1.out.cell (i := 0) (j := 0) rfl rfl
  have c1 := HS1.out.cell (i := 0) (j := 1) rfl rfl
  simp only [Nat.add_zero] at c0 c1
  clear HAW HCH lx ly hxl hyl
  go_wp2_with fail
  refine (HCG.out _ HS1.out.1).mono ?_
  rintro e w2 ⟨⟨A1, k1, A2, k2, X, Y, rfl, hG, hAX, hAY, hkX, hkY, hl8⟩, hb2⟩
  simp only [Ar.val]
  have HS2 := Lib.hid (HS1.out.up hb2)
  have HK2 : Hid (KP A1 k1 A2 k2 g X Y w2) := Lib.hid ⟨hG, hAX, hAY⟩
  have HKX := Lib.hid hkX
  have HKY := Lib.hid hkY
  have HL8 := Lib.hid hl8
  clear hG hAX hAY hkX hkY hl8 hb2 HS1 HCG c0 c1 t1 t2
  go_upto_region 4 with fail
  obtain ⟨V, hV⟩ : ∃ V, V = ((w2.alloc (.cells #[.slice A1 g.ns.length k1, .slice A2 g.es.length k2] 25)).alloc (.cells #[.slice X.An X.g.ns.length X.cn, .slice X.Ae X.g.es.length X.ce, .slice X.Mn X.m.ns.length X.mn, .slice X.Me X.m.es.length X.me] 29)).alloc (.cells #[.slice Y.An Y.g.ns.length Y.cn, .slice Y.Ae Y.g.es.length Y.ce, .slice Y.Mn Y.m.ns.length Y.mn, .slice Y.Me Y.m.es.length Y.me] 29) := ⟨_, rfl⟩
  have hb0 : Below w2.heap.size w2 (w2.alloc (.cells #[.slice A1 g.ns.length k1, .slice A2 g.es.length k2] 25)) := (Below.refl _ _).alloc (Nat.le_refl _) _
  have hbV : Below w2.heap.size w2 V := by rw [hV]; exact (hb0.alloc (by simp) _).alloc (by simp; omega) _
  have HS3 := Lib.hid (HS2.out.up hbV)
  have HK3 := Lib.hid (HK2.out.up hbV)
  have HGA : Hid (BX w2.heap.size (.slice A1 g.ns.length k1) (.slice A2 g.es.length k2) 25 V) := Lib.hid (show V.heap[w2.heap.size]? = _ by rw [hV]; simp only [at_alloc, size_alloc]; repeat (first | rfl | (split; · (first | rfl | omega))))
  have HGP : Hid (V.heap[w2.heap.size + 1]? = some (.cells #[.slice X.An X.g.ns.length X.cn, .slice X.Ae X.g.es.length X.ce, .slice X.Mn X.m.ns.length X.mn, .slice X.Me X.m.es.length X.me] 29 (0, 0))) := Lib.hid (by rw [hV]; simp only [at_alloc, size_alloc]; repeat (first | rfl | (split; · (first | rfl | omega))))
  have HGQ : Hid (V.heap[w2.heap.size + 1 + 1]? = some (.cells #[.slice Y.An Y.g.ns.length Y.cn, .slice Y.Ae Y.g.es.length Y.ce, .slice Y.Mn Y.m.ns.length Y.mn, .slice Y.Me Y.m.es.length Y.me] 29 (0, 0))) := Lib.hid (by rw [hV]; simp only [at_alloc, size_alloc]; repeat (first | rfl | (split; · (first | rfl | omega))))
  have HWV : Hid (Below w.heap.size w V) := Lib.hid (HS2.out.1.trans (hbV.mono HS2.out.1.size))
  rw [← hV]
  obtain ⟨ga, hga⟩ : ∃ k, k = w2.heap.size := ⟨_, rfl⟩
  rw [← hga] at HGA HGP HGQ
  rw [← hga]
  clear hV hb0 hbV HS2 HK2 hga HS3 HXB HYB
  have q0 : V.cell? ⟨ga + 1 + 1, 0, none⟩ = some (.slice Y.An Y.g.ns.length Y.cn) := cell_of_row _ _ 0 _ _ _ HGQ.out
  have q1 : V.cell? ⟨ga + 1 + 1, 1, none⟩ = some (.slice Y.Ae Y.g.es.length Y.ce) := cell_of_row _ _ 1 _ _ _ HGQ.out
  have HCP := Lib.hid (copied_any Y.g Y.An Y.cn Y.Ae Y.ce V (by obtain ⟨v1, v2, _⟩ := valid_zero HKY.out.vb; exact ⟨by omega, by omega⟩) HK3.out.y.gr)
  go_wp2_with fail
  refine HCP.out.mono ?_
  rintro e w3 ⟨⟨vn, ve, rfl, hn, he⟩, hb3⟩
  obtain ⟨Bn, kn, rfl⟩ := hn.slice
  obtain ⟨Be, ke, rfl⟩ := he.slice
  have HN3 := Lib.hid hn
  have HE3 := Lib.hid he
  have HB3 := Lib.hid hb3
  clear hn he hb3 q0 q1 HCP
  go_upto_region 5 with fail
  have hb : Below w3.heap.size w3 (w3.alloc (.cells #[.slice Bn Y.g.ns.length kn, .slice Be Y.g.es.length ke] 25)) := (Below.refl _ _).alloc (Nat.le_refl _) _
  have HN4 := Lib.hid (HN3.out.below hb (Nat.le_refl _))
  have HE4 := Lib.hid (HE3.out.below hb (Nat.le_refl _))
  have HB4 := Lib.hid (HB3.out.trans (hb.mono HB3.out.size))
  have HM4 : Hid (BX w3.heap.size (.slice Bn Y.g.ns.length kn) (.slice Be Y.g.es.length ke) 25 (w3.alloc (.cells #[.slice Bn Y.g.ns.length kn, .slice Be Y.g.es.length ke] 25))) := Lib.hid (heap_alloc_new _ _)
  have HGM : Hid (V.heap.size ≤ w3.heap.size) := Lib.hid HB3.out.size
  generalize w3.alloc (.cells #[.slice Bn Y.g.ns.length kn, .slice Be Y.g.es.length ke] 25) = w4 at *
  generalize w3.heap.size = gm at *
  clear hb HN3 HE3 HB3
  have HL40 : Hid (Y.g.ns.length ≤ 40 ∧ Y.g.es.length ≤ 80) := Lib.hid (by obtain ⟨v1, v2, _⟩ := valid_zero HKY.out.vb; exact ⟨v1, v2⟩)
  have HSL : Hid (∀ u ∈ (#[(.slice Bn Y.g.ns.length kn : Value), .slice Be Y.g.es.length ke] : Array Value).toList, ∃ a n c, u = .slice a n c) := Lib.hid fun u hu => by simp at hu; rcases hu with rfl | rfl <;> exact ⟨_, _, _, rfl⟩
  go_upto_if 44 with (fail)
  go_cut [] (fun wc => ∃ (N : Gr) (Nn : Option Addr) (nn : Nat) (Ne : Option Addr) (ne : Nat), BX gm (.slice Nn N.ns.length nn) (.slice Ne N.es.length ne) 25 wc ∧ GrAt wc Nn nn Ne ne N ∧ MorOk X.g N Y.m ∧ Below V.heap.size V wc)
  case first =>
    by_cases hz : ((y.length : Int) % 2 == 0) = true
    case neg =>
      have hz : ((y.length : Int) % 2 == 0) = false := by simpa using hz
      go_wp2_with fail
      go_meet
      obtain ⟨A5, c5, e5, r5, l5, m5⟩ := HN4.out.reads_cap
      injection e5 with e5 _ e6
      subst e5 e6
      obtain ⟨A7, c7, e7, r7, l7, m7⟩ := HE4.out.reads_cap
      injection e7 with e7 _ e8
      subst e7 e8
      exact ⟨Y.g, Bn, kn, Be, ke, HM4.out, ⟨r5, r7, ⟨l5, m5⟩, ⟨l7, m7⟩⟩, HKY.out, HB4.out⟩
    case pos =>
      obtain ⟨b0, b1⟩ := HM4.out.cells
      go_wp2_with (at_builtin; refine wpList_append_Z (E := EInt) (w := w4.alloc _) rfl _ _ 22 3 rfl Tryd.underlying22 infoInt rfl (by decide) (by decide) V.heap.size _ Y.g.ns rfl ?y1 (some ⟨w4.heap.size, 0, none⟩) 1 _ (w4.heap.size + 1) [1] rfl rfl ?y2 ?y3 ?y4 ?y5 ?_)
      case y1 => exact HN4.out.below (below_a _ _) (Nat.le_refl _)
      case y2 => exact reads_lit (heap_alloc_new _ _) rfl (by simp)
      case y3 => have := HL40.out; omega
      case y5 => have := HB4.out.size; simp; omega
      intro v5 w5 hn5 hg5
      have HM5 : Hid (BX gm (.slice Bn Y.g.ns.length kn) (.slice Be Y.g.es.length ke) 25 w5) := Lib.hid (hg5.2 gm _ _ (by decide) (HM4.out.up (below_a _ _)))
      have he5 := hg5.rowZ (by decide) (HE4.out.below (below_a w4 (.cells #[.int .i64 1] 3 (0, 0))) (Nat.le_refl _))
      have hb5 : Below V.heap.size V w5 := (HB4.out.trans ((below_a _ _).mono HB4.out.size)).trans hg5.1
      obtain ⟨A5, c5, rfl, r5, l5, m5⟩ := hn5.reads_cap
      obtain ⟨A7, c7, e7, r7, l7, m7⟩ := he5.reads_cap
      injection e7 with e7 _ e8
      subst e7 e8
      have HR5 := Lib.hid (And.intro r5 (And.intro l5 m5))
      have HR7 := Lib.hid (And.intro r7 (And.intro l7 m7))
      have HB5 := Lib.hid hb5
      have fr0 := HM5.out.free 0
      obtain ⟨b0, b1⟩ := HM5.out.cells
      clear hn5 he5 hb5 hg5 r5 l5 m5 r7 l7 m7
      go_wp2_with fail
      go_meet
      obtain ⟨r5, l5, m5⟩ := HR5.out
      obtain ⟨r7, l7, m7⟩ := HR7.out
      have hM6 : BX gm (.slice A5 (Y.g.ns.length + 1) c5) (.slice Be Y.g.es.length ke) 25 (w5.setCell ⟨gm, 0, none⟩ (.slice A5 (Y.g.ns.length + 1) c5)) := heap_setCell_same w5 gm 0 _ _ _ HM5.out
      have e6 : (moreG Y.g).ns.length = Y.g.ns.length + 1 := by simp [moreG]
      refine ⟨moreG Y.g, A5, c5, Be, ke, by rw [e6]; exact hM6, ⟨?_, ?_, ⟨l5, m5⟩, ⟨l7, m7⟩⟩, more_ok HKY.out (by have := HL8.out; omega), HB5.out.setCell (p := ⟨gm, 0, none⟩) HGM.out _⟩
      · rw [show (w5.setCell ⟨gm, 0, none⟩ (.slice A5 (Y.g.ns.length + 1) c5)).heap.size = w5.heap.size by simp]
        exact reads_box nsI r5 HM5.out HSL.out (fun i hi => heap_setCell_other _ _ _ _ hi)
      · rw [show (w5.setCell ⟨gm, 0, none⟩ (.slice A5 (Y.g.ns.length + 1) c5)).heap.size = w5.heap.size by simp]
        exact reads_box nsE r7 HM5.out HSL.out (fun i hi => heap_setCell_other _ _ _ _ hi)
  case rest =>
    obtain ⟨N, Nn, nn, Ne, ne, hM, hG, hok, hB⟩ := hcut
    have K0 := Lib.hid (HK3.out.up hB)
    have A0 := Lib.hid (HGA.out.up hB)
    have P0 := Lib.hid (heap_up hB HGP.out)
    have Q0 := Lib.hid (heap_up hB HGQ.out)
    have C0 := Lib.hid hM
    have N0 := Lib.hid hG
    have W0 := Lib.hid (HWV.out.trans (hB.mono HWV.out.size))
    have HKN := Lib.hid hok
    clear hM hG hok hB HK3 HGA HGP HGQ HN4 HE4 HB4 HM4 HSL HXL HL40 HGM
    have a0 : wc.cell? ⟨ga, 0, none⟩ = some (.slice A1 g.ns.length k1) := A0.out.cells.1
    have a1 : wc.cell? ⟨ga, 1, none⟩ = some (.slice A2 g.es.length k2) := A0.out.cells.2
    have p0 : wc.cell? ⟨ga + 1, 0, none⟩ = some (.slice X.An X.g.ns.length X.cn) := cell_of_row _ _ 0 _ _ _ P0.out
    have p1 : wc.cell? ⟨ga + 1, 1, none⟩ = some (.slice X.Ae X.g.es.length X.ce) := cell_of_row _ _ 1 _ _ _ P0.out
    have p2 : wc.cell? ⟨ga + 1, 2, none⟩ = some (.slice X.Mn X.m.ns.length X.mn) := cell_of_row _ _ 2 _ _ _ P0.out
    have p3 : wc.cell? ⟨ga + 1, 3, none⟩ = some (.slice X.Me X.m.es.length X.me) := cell_of_row _ _ 3 _ _ _ P0.out
    have q0 : wc.cell? ⟨ga + 1 + 1, 0, none⟩ = some (.slice Y.An Y.g.ns.length Y.cn) := cell_of_row _ _ 0 _ _ _ Q0.out
    have q1 : wc.cell? ⟨ga + 1 + 1, 1, none⟩ = some (.slice Y.Ae Y.g.es.length Y.ce) := cell_of_row _ _ 1 _ _ _ Q0.out
    have q2 : wc.cell? ⟨ga + 1 + 1, 2, none⟩ = some (.slice Y.Mn Y.m.ns.length Y.mn) := cell_of_row _ _ 2 _ _ _ Q0.out
    have q3 : wc.cell? ⟨ga + 1 + 1, 3, none⟩ = some (.slice Y.Me Y.m.es.length Y.me) := cell_of_row _ _ 3 _ _ _ Q0.out
    have c0 : wc.cell? ⟨gm, 0, none⟩ = some (.slice Nn N.ns.length nn) := C0.out.cells.1
    have c1 : wc.cell? ⟨gm, 1, none⟩ = some (.slice Ne N.es.length ne) := C0.out.cells.2
    go_wp2_with fail
    refine (compose_gives HKX.out HKN.out A1 k1 A2 k2 X.An X.cn X.Ae X.ce Nn nn Ne ne X.Mn X.mn X.Me X.me Y.Mn Y.mn Y.Me Y.me _ K0.out.g K0.out.x.gr N0.out K0.out.x.m1 K0.out.x.m2 K0.out.y.m1 K0.out.y.m2).mono ?_
    rintro e v1 ⟨⟨X1, x1, Y1, y1, rfl, r1, r2, r3, r4⟩, hb⟩
    have W_v1 := Lib.hid (W0.out.trans (hb.mono W0.out.size))
    have K_v1 := Lib.hid (K0.out.up hb)
    have A_v1 := Lib.hid (A0.out.up hb)
    have P_v1 := Lib.hid (heap_up hb P0.out)
    have Q_v1 := Lib.hid (heap_up hb Q0.out)
    have C_v1 := Lib.hid (C0.out.up hb)
    have N_v1 := Lib.hid (N0.out.up hb)
    clear W0 K0 A0 P0 Q0 C0 N0
    have R1_v1 := Lib.hid r1
    have R2_v1 := Lib.hid r2
    have HL := Lib.hid (And.intro r3 r4)
    clear r1 r2 r3 r4 hb 
    go_upto_region 10 with fail
    have hb : Below v1.heap.size v1 (v1.alloc (.cells #[.slice X1 (compM X.m Y.m).ns.length x1, .slice Y1 (compM X.m Y.m).es.length y1] 27)) := (Below.refl _ _).alloc (Nat.le_refl _) _
    have hx : BX v1.heap.size (.slice X1 (compM X.m Y.m).ns.length x1) (.slice Y1 (compM X.m Y.m).es.length y1) 27 (v1.alloc (.cells #[.slice X1 (compM X.m Y.m).ns.length x1, .slice Y1 (compM X.m Y.m).es.length y1] 27)) := heap_alloc_new _ _
    have W_V1 := Lib.hid (W_v1.out.trans (hb.mono W_v1.out.size))
    have K_V1 := Lib.hid (K_v1.out.up hb)
    have A_V1 := Lib.hid (A_v1.out.up hb)
    have P_V1 := Lib.hid (heap_up hb P_v1.out)
    have Q_V1 := Lib.hid (heap_up hb Q_v1.out)
    have C_V1 := Lib.hid (C_v1.out.up hb)
    have N_V1 := Lib.hid (N_v1.out.up hb)
    have R11_V1 := Lib.hid (Reads.up R1_v1.out hb)
    have R21_V1 := Lib.hid (Reads.up R2_v1.out hb)
    clear W_v1 K_v1 A_v1 P_v1 Q_v1 C_v1 N_v1 R1_v1 R2_v1
    have B1_V1 := Lib.hid hx
    clear hb hx
    generalize v1.alloc (.cells #[.slice X1 (compM X.m Y.m).ns.length x1, .slice Y1 (compM X.m Y.m).es.length y1] 27) = V1 at *
    generalize v1.heap.size = g1 at *
    have HL1 := HL
    have HLX : Hid (X.m.ns.length ≤ 1000 ∧ X.m.es.length ≤ 1000) := Lib.hid (by have h1 := HKX.out.ln; have h2 := HKX.out.le; obtain ⟨v1, v2, _⟩ := valid_zero HKX.out.va; exact ⟨by omega, by omega⟩)
    have HLY : Hid (Y.m.ns.length ≤ 1000 ∧ Y.m.es.length ≤ 1000) := Lib.hid (by have h1 := HKY.out.ln; have h2 := HKY.out.le; obtain ⟨v1, v2, _⟩ := valid_zero HKY.out.va; exact ⟨by omega, by omega⟩)
    have HLC : Hid ((compM X.m Y.m).ns.length ≤ 1000 ∧ (compM X.m Y.m).es.length ≤ 1000) := Lib.hid (by have h0 := comp_ok HKX.out HKN.out; have h1 := h0.ln; have h2 := h0.le; obtain ⟨v1, v2, _⟩ := valid_zero HKX.out.va; exact ⟨by omega, by omega⟩)
    have HI1 := Lib.hid (fun (u : World) (hu : Below V1.heap.size V1 u) => injM_any g X.g X.m A1 k1 A2 k2 X.An X.cn X.Ae X.ce X.Mn X.mn X.Me X.me u (K_V1.out.g.up hu) (K_V1.out.x.gr.up hu) (Reads.up K_V1.out.x.m1 hu) (Reads.up K_V1.out.x.m2 hu) HLX.out.1 HLX.out.2)
    have HI2 := Lib.hid (fun (u : World) (hu : Below V1.heap.size V1 u) => injM_any X.g N Y.m X.An X.cn X.Ae X.ce Nn nn Ne ne Y.Mn Y.mn Y.Me Y.me u (K_V1.out.x.gr.up hu) (N_V1.out.up hu) (Reads.up K_V1.out.y.m1 hu) (Reads.up K_V1.out.y.m2 hu) HLY.out.1 HLY.out.2)
    have HI3 := Lib.hid (fun (u : World) (hu : Below V1.heap.size V1 u) => injM_any g N (compM X.m Y.m) A1 k1 A2 k2 Nn nn Ne ne X1 x1 Y1 y1 u (K_V1.out.g.up hu) (N_V1.out.up hu) (Reads.up R11_V1.out hu) (Reads.up R21_V1.out hu) HLC.out.1 HLC.out.2)
    have HJ1 := Lib.hid (fun (u : World) (hu : Below V1.heap.size V1 u) => surM_any g X.g X.m A1 k1 A2 k2 X.An X.cn X.Ae X.ce X.Mn X.mn X.Me X.me u (K_V1.out.g.up hu) (K_V1.out.x.gr.up hu) (Reads.up K_V1.out.x.m1 hu) (Reads.up K_V1.out.x.m2 hu) HLX.out.1 HLX.out.2)
    have HJ2 := Lib.hid (fun (u : World) (hu : Below V1.heap.size V1 u) => surM_any X.g N Y.m X.An X.cn X.Ae X.ce Nn nn Ne ne Y.Mn Y.mn Y.Me Y.me u (K_V1.out.x.gr.up hu) (N_V1.out.up hu) (Reads.up K_V1.out.y.m1 hu) (Reads.up K_V1.out.y.m2 hu) HLY.out.1 HLY.out.2)
    have HJ3 := Lib.hid (fun (u : World) (hu : Below V1.heap.size V1 u) => surM_any g N (compM X.m Y.m) A1 k1 A2 k2 Nn nn Ne ne X1 x1 Y1 y1 u (K_V1.out.g.up hu) (N_V1.out.up hu) (Reads.up R11_V1.out hu) (Reads.up R21_V1.out hu) HLC.out.1 HLC.out.2)
    have HKI := Lib.hid (And.intro (kin_inj HKX.out HKN.out) (kin_first (c := N) (n := Y.m) HKX.out))
    have HKJ := Lib.hid (And.intro (kin_sur HKX.out HKN.out) (kin_second HKX.out HKN.out))
    generalize injB g X.g X.m = i1 at *
    generalize injB X.g N Y.m = i2 at *
    generalize injB g N (compM X.m Y.m) = i3 at *
    generalize surB g X.g X.m = j1 at *
    generalize surB X.g N Y.m = j2 at *
    generalize surB g N (compM X.m Y.m) = j3 at *
    have HCE : Hid (∀ u, Below V1.heap.size V1 u → (fun u : World => u.cell? ⟨ga, 0, none⟩ = some (.slice A1 g.ns.length k1) ∧ u.cell? ⟨ga, 1, none⟩ = some (.slice A2 g.es.length k2) ∧ u.cell? ⟨ga + 1, 0, none⟩ = some (.slice X.An X.g.ns.length X.cn) ∧ u.cell? ⟨ga + 1, 1, none⟩ = some (.slice X.Ae X.g.es.length X.ce) ∧ u.cell? ⟨ga + 1, 2, none⟩ = some (.slice X.Mn X.m.ns.length X.mn) ∧ u.cell? ⟨ga + 1, 3, none⟩ = some (.slice X.Me X.m.es.length X.me) ∧ u.cell? ⟨ga + 1 + 1, 0, none⟩ = some (.slice Y.An Y.g.ns.length Y.cn) ∧ u.cell? ⟨ga + 1 + 1, 1, none⟩ = some (.slice Y.Ae Y.g.es.length Y.ce) ∧ u.cell? ⟨ga + 1 + 1, 2, none⟩ = some (.slice Y.Mn Y.m.ns.length Y.mn) ∧ u.cell? ⟨ga + 1 + 1, 3, none⟩ = some (.slice Y.Me Y.m.es.length Y.me) ∧ u.cell? ⟨gm, 0, none⟩ = some (.slice Nn N.ns.length nn) ∧ u.cell? ⟨gm, 1, none⟩ = some (.slice Ne N.es.length ne) ∧ u.cell? ⟨g1, 0, none⟩ = some (.slice X1 (compM X.m Y.m).ns.length x1) ∧ u.cell? ⟨g1, 1, none⟩ = some (.slice Y1 (compM X.m Y.m).es.length y1)) u) := Lib.hid fun u hu => ⟨cell_up hu (A_V1.out.cells.1), cell_up hu (A_V1.out.cells.2), cell_up hu (cell_of_row _ _ 0 _ _ _ P_V1.out), cell_up hu (cell_of_row _ _ 1 _ _ _ P_V1.out), cell_up hu (cell_of_row _ _ 2 _ _ _ P_V1.out), cell_up hu (cell_of_row _ _ 3 _ _ _ P_V1.out), cell_up hu (cell_of_row _ _ 0 _ _ _ Q_V1.out), cell_up hu (cell_of_row _ _ 1 _ _ _ Q_V1.out), cell_up hu (cell_of_row _ _ 2 _ _ _ Q_V1.out), cell_up hu (cell_of_row _ _ 3 _ _ _ Q_V1.out), cell_up hu (C_V1.out.cells.1), cell_up hu (C_V1.out.cells.2), cell_up hu (B1_V1.out.cells.1), cell_up hu (B1_V1.out.cells.2)⟩
    have HBW : Hid (Below w.heap.size w V1) := Lib.hid W_V1.out
    clear W_V1 K_V1 A_V1 P_V1 Q_V1 C_V1 N_V1 R11_V1 R21_V1 B1_V1 HL HL1 HLX HLY HLC HKX HKN HKY HWV HL8
    have HB0 : Hid (Below V1.heap.size V1 V1) := Lib.hid (Below.refl _ _)
    go_cut [13, 14] (fun u v wx => u = .bool i1 ∧ v = .bool i2 ∧ Below V1.heap.size V1 wx)
    case first =>
      go_wp2_with fail
      have HVD := Lib.hid (HB0.out.trans ((below_d V1).mono HB0.out.size))
      have WD0 := Lib.hid (Below.refl V1.drew.heap.size V1.drew)
      have HM : Hid (∀ u, Below V1.drew.heap.size V1.drew u → (fun u : World => u.cell? ⟨ga, 0, none⟩ = some (.slice A1 g.ns.length k1) ∧ u.cell? ⟨ga, 1, none⟩ = some (.slice A2 g.es.length k2) ∧ u.cell? ⟨ga + 1, 0, none⟩ = some (.slice X.An X.g.ns.length X.cn) ∧ u.cell? ⟨ga + 1, 1, none⟩ = some (.slice X.Ae X.g.es.length X.ce) ∧ u.cell? ⟨ga + 1, 2, none⟩ = some (.slice X.Mn X.m.ns.length X.mn) ∧ u.cell? ⟨ga + 1, 3, none⟩ = some (.slice X.Me X.m.es.length X.me) ∧ u.cell? ⟨ga + 1 + 1, 0, none⟩ = some (.slice Y.An Y.g.ns.length Y.cn) ∧ u.cell? ⟨ga + 1 + 1, 1, none⟩ = some (.slice Y.Ae Y.g.es.length Y.ce) ∧ u.cell? ⟨ga + 1 + 1, 2, none⟩ = some (.slice Y.Mn Y.m.ns.length Y.mn) ∧ u.cell? ⟨ga + 1 + 1, 3, none⟩ = some (.slice Y.Me Y.m.es.length Y.me) ∧ u.cell? ⟨gm, 0, none⟩ = some (.slice Nn N.ns.length nn) ∧ u.cell? ⟨gm, 1, none⟩ = some (.slice Ne N.es.length ne) ∧ u.cell? ⟨g1, 0, none⟩ = some (.slice X1 (compM X.m Y.m).ns.length x1) ∧ u.cell? ⟨g1, 1, none⟩ = some (.slice Y1 (compM X.m Y.m).es.length y1)) u) := Lib.hid fun u hu => HCE.out u (HVD.out.trans (hu.mono HVD.out.size))
      refine wp_region_noPanic ?_
      refine wp_region_held_drew (S := (fun u : World => u.cell? ⟨ga, 0, none⟩ = some (.slice A1 g.ns.length k1) ∧ u.cell? ⟨ga, 1, none⟩ = some (.slice A2 g.es.length k2) ∧ u.cell? ⟨ga + 1, 0, none⟩ = some (.slice X.An X.g.ns.length X.cn) ∧ u.cell? ⟨ga + 1, 1, none⟩ = some (.slice X.Ae X.g.es.length X.ce) ∧ u.cell? ⟨ga + 1, 2, none⟩ = some (.slice X.Mn X.m.ns.length X.mn) ∧ u.cell? ⟨ga + 1, 3, none⟩ = some (.slice X.Me X.m.es.length X.me) ∧ u.cell? ⟨ga + 1 + 1, 0, none⟩ = some (.slice Y.An Y.g.ns.length Y.cn) ∧ u.cell? ⟨ga + 1 + 1, 1, none⟩ = some (.slice Y.Ae Y.g.es.length Y.ce) ∧ u.cell? ⟨ga + 1 + 1, 2, none⟩ = some (.slice Y.Mn Y.m.ns.length Y.mn) ∧ u.cell? ⟨ga + 1 + 1, 3, none⟩ = some (.slice Y.Me Y.m.es.length Y.me) ∧ u.cell? ⟨gm, 0, none⟩ = some (.slice Nn N.ns.length nn) ∧ u.cell? ⟨gm, 1, none⟩ = some (.slice Ne N.es.length ne) ∧ u.cell? ⟨g1, 0, none⟩ = some (.slice X1 (compM X.m Y.m).ns.length x1) ∧ u.cell? ⟨g1, 1, none⟩ = some (.slice Y1 (compM X.m Y.m).es.length y1))) (by kernel_rfl) (HM.out _ WD0.out) (fun hHeld => ?_)
      generalize V1.drew = wd at *
      refine wpAnyH_take (i := 0) (v := ?_) (oper_at (r := _) rfl) (by kernel_rfl) (by kernel_rfl) (by kernel_rfl) (fun _ _ _ h => h) (Or.inl ⟨by rfl, ?_⟩) (by assumption) ?_
      rotate_left
      · intro w hSw; try dsimp only at hSw
        go_simp
        try with_reducible rfl
      try simp only [Act.put, List.setIfInBounds_toArray, List.set_cons_zero, List.set_cons_succ]
      refine wpAnyH_take (i := 1) (v := ?_) (oper_at (r := _) rfl) (by kernel_rfl) (by kernel_rfl) (by kernel_rfl) (fun _ _ _ h => h) (Or.inl ⟨by rfl, ?_⟩) (by assumption) ?_
      rotate_left
      · intro w hSw; try dsimp only at hSw
        go_simp
        try with_reducible rfl
      try simp only [Act.put, List.setIfInBounds_toArray, List.set_cons_zero, List.set_cons_succ]
      refine wpAnyH_take (i := 2) (v := ?_) (oper_at (r := _) rfl) (by kernel_rfl) (by kernel_rfl) (by kernel_rfl) (fun _ _ _ h => h) (Or.inl ⟨by rfl, ?_⟩) (by assumption) ?_
      rotate_left
      · intro w hSw; try dsimp only at hSw
        go_simp
        try with_reducible rfl
      try simp only [Act.put, List.setIfInBounds_toArray, List.set_cons_zero, List.set_cons_succ]
      refine wpAnyH_take (i := 3) (v := ?_) (oper_at (r := _) rfl) (by kernel_rfl) (by kernel_rfl) (by kernel_rfl) (fun _ _ _ h => h) (Or.inl ⟨by rfl, ?_⟩) (by assumption) ?_
      rotate_left
      · intro w hSw; try dsimp only at hSw
        go_simp
        try with_reducible rfl
      try simp only [Act.put, List.setIfInBounds_toArray, List.set_cons_zero, List.set_cons_succ]
      refine wpAnyH_take (i := 4) (v := ?_) (oper_at (r := _) rfl) (by kernel_rfl) (by kernel_rfl) (by kernel_rfl) (fun _ _ _ h => h) (Or.inl ⟨by rfl, ?_⟩) (by assumption) ?_
      rotate_left
      · intro w hSw; try dsimp only at hSw
        go_simp
        try with_reducible rfl
      try simp only [Act.put, List.setIfInBounds_toArray, List.set_cons_zero, List.set_cons_succ]
      refine wpAnyH_take (i := 6) (v := ?_) (oper_at (r := _) rfl) (by kernel_rfl) (by kernel_rfl) (by kernel_rfl) (fun _ _ _ h => h) (Or.inl ⟨by rfl, ?_⟩) (by assumption) ?_
      rotate_left
      · intro w hSw; try dsimp only at hSw
        go_simp
        try with_reducible rfl
      try simp only [Act.put, List.setIfInBounds_toArray, List.set_cons_zero, List.set_cons_succ]
      refine wpAnyH_take (i := 7) (v := ?_) (oper_at (r := _) rfl) (by kernel_rfl) (by kernel_rfl) (by kernel_rfl) (fun _ _ _ h => h) (Or.inl ⟨by rfl, ?_⟩) (by assumption) ?_
      rotate_left
      · intro w hSw; try dsimp only at hSw
        go_simp
        try with_reducible rfl
      try simp only [Act.put, List.setIfInBounds_toArray, List.set_cons_zero, List.set_cons_succ]
      refine wpAnyH_take (i := 8) (v := ?_) (oper_at (r := _) rfl) (by kernel_rfl) (by kernel_rfl) (by kernel_rfl) (fun _ _ _ h => h) (Or.inl ⟨by rfl, ?_⟩) (by assumption) ?_
      rotate_left
      · intro w hSw; try dsimp only at hSw
        go_simp
        try with_reducible rfl
      try simp only [Act.put, List.setIfInBounds_toArray, List.set_cons_zero, List.set_cons_succ]
      refine wpAnyH_take (i := 9) (v := ?_) (oper_at (r := _) rfl) (by kernel_rfl) (by kernel_rfl) (by kernel_rfl) (fun _ _ _ h => h) (Or.inl ⟨by rfl, ?_⟩) (by assumption) ?_
      rotate_left
      · intro w hSw; try dsimp only at hSw
        go_simp
        try with_reducible rfl
      try simp only [Act.put, List.setIfInBounds_toArray, List.set_cons_zero, List.set_cons_succ]
      refine wpAnyH_take (i := 10) (v := ?_) (oper_at (r := _) rfl) (by kernel_rfl) (by kernel_rfl) (by kernel_rfl) (fun _ _ _ h => h) (Or.inl ⟨by rfl, ?_⟩) (by assumption) ?_
      rotate_left
      · intro w hSw; try dsimp only at hSw
        go_simp
        try with_reducible rfl
      try simp only [Act.put, List.setIfInBounds_toArray, List.set_cons_zero, List.set_cons_succ]
      refine wpAnyH_ready (rs := [5]) (by kernel_rfl) (by simp) ?_
      refine AllReadyH.cons (oper_at (r := _) rfl) (fun K hK => ?_) AllReadyH.nil
      go_simp
      refine (HI1.out _ (HVD.out.trans (WD0.out.mono HVD.out.size))).mono ?_
      rintro e W1 ⟨rfl, hb⟩
      have WD_W1 := Lib.hid (WD0.out.trans (hb.mono WD0.out.size))
      clear WD0
      clear hb 
      go_wp2_with fail
      refine hK.out _ _ (HM.out _ WD_W1.out) (fun _ => ?_)
      clear hK K
      try simp only [Act.put, List.setIfInBounds_toArray, List.set_cons_zero, List.set_cons_succ]
      refine wpAnyH_ready (rs := [11]) (by kernel_rfl) (by simp) ?_
      refine AllReadyH.cons (oper_at (r := _) rfl) (fun K hK => ?_) AllReadyH.nil
      go_simp
      refine (HI2.out _ (HVD.out.trans (WD_W1.out.mono HVD.out.size))).mono ?_
      rintro e W2 ⟨rfl, hb⟩
      have WD_W2 := Lib.hid (WD_W1.out.trans (hb.mono WD_W1.out.size))
      clear WD_W1
      clear hb 
      go_wp2_with fail
      refine hK.out _ _ (HM.out _ WD_W2.out) (fun _ => ?_)
      clear hK K
      try simp only [Act.put, List.setIfInBounds_toArray, List.set_cons_zero, List.set_cons_succ]
      refine wpAnyH_take (i := 12) (v := ?_) (oper_at (r := _) rfl) (by kernel_rfl) (by kernel_rfl) (by kernel_rfl) (fun _ _ _ h => h) (Or.inl ⟨by rfl, ?_⟩) (by assumption) ?_
      rotate_left
      · intro w hSw; try dsimp only at hSw
        go_simp
        try with_reducible rfl
      try simp only [Act.put, List.setIfInBounds_toArray, List.set_cons_zero, List.set_cons_succ]
      refine wpAnyH_take (i := 13) (v := ?_) (oper_at (r := _) rfl) (by kernel_rfl) (by kernel_rfl) (by kernel_rfl) (fun _ _ _ h => h) (Or.inl ⟨by rfl, ?_⟩) (by assumption) ?_
      rotate_left
      · intro w hSw; try dsimp only at hSw
        go_simp
        try with_reducible rfl
      try simp only [Act.put, List.setIfInBounds_toArray, List.set_cons_zero, List.set_cons_succ]
      refine wpAnyH_done (by kernel_rfl) ?_ _
      refine NoPanic.normal ?_
      go_wp2_with fail
      go_meet
      exact ⟨rfl, rfl, (HVD.out.trans (WD_W2.out.mono HVD.out.size))⟩
    case rest =>
      obtain ⟨rfl, rfl, hB⟩ := hcut
      have HB1 := Lib.hid hB
      clear hB HB0
      go_upto_region 11 with fail
      go_cut [15, 16] (fun u v wx => u = .bool j1 ∧ v = .bool j2 ∧ Below V1.heap.size V1 wx)
      case first =>
        go_wp2_with fail
        have HVD := Lib.hid (HB1.out.trans ((below_d wc).mono HB1.out.size))
        have WD0 := Lib.hid (Below.refl wc.drew.heap.size wc.drew)
        have HM : Hid (∀ u, Below wc.drew.heap.size wc.drew u → (fun u : World => u.cell? ⟨ga, 0, none⟩ = some (.slice A1 g.ns.length k1) ∧ u.cell? ⟨ga, 1, none⟩ = some (.slice A2 g.es.length k2) ∧ u.cell? ⟨ga + 1, 0, none⟩ = some (.slice X.An X.g.ns.length X.cn) ∧ u.cell? ⟨ga + 1, 1, none⟩ = some (.slice X.Ae X.g.es.length X.ce) ∧ u.cell? ⟨ga + 1, 2, none⟩ = some (.slice X.Mn X.m.ns.length X.mn) ∧ u.cell? ⟨ga + 1, 3, none⟩ = some (.slice X.Me X.m.es.length X.me) ∧ u.cell? ⟨ga + 1 + 1, 0, none⟩ = some (.slice Y.An Y.g.ns.length Y.cn) ∧ u.cell? ⟨ga + 1 + 1, 1, none⟩ = some (.slice Y.Ae Y.g.es.length Y.ce) ∧ u.cell? ⟨ga + 1 + 1, 2, none⟩ = some (.slice Y.Mn Y.m.ns.length Y.mn) ∧ u.cell? ⟨ga + 1 + 1, 3, none⟩ = some (.slice Y.Me Y.m.es.length Y.me) ∧ u.cell? ⟨gm, 0, none⟩ = some (.slice Nn N.ns.length nn) ∧ u.cell? ⟨gm, 1, none⟩ = some (.slice Ne N.es.length ne) ∧ u.cell? ⟨g1, 0, none⟩ = some (.slice X1 (compM X.m Y.m).ns.length x1) ∧ u.cell? ⟨g1, 1, none⟩ = some (.slice Y1 (compM X.m Y.m).es.length y1)) u) := Lib.hid fun u hu => HCE.out u (HVD.out.trans (hu.mono HVD.out.size))
        refine wp_region_noPanic ?_
        refine wp_region_held_drew (S := (fun u : World => u.cell? ⟨ga, 0, none⟩ = some (.slice A1 g.ns.length k1) ∧ u.cell? ⟨ga, 1, none⟩ = some (.slice A2 g.es.length k2) ∧ u.cell? ⟨ga + 1, 0, none⟩ = some (.slice X.An X.g.ns.length X.cn) ∧ u.cell? ⟨ga + 1, 1, none⟩ = some (.slice X.Ae X.g.es.length X.ce) ∧ u.cell? ⟨ga + 1, 2, none⟩ = some (.slice X.Mn X.m.ns.length X.mn) ∧ u.cell? ⟨ga + 1, 3, none⟩ = some (.slice X.Me X.m.es.length X.me) ∧ u.cell? ⟨ga + 1 + 1, 0, none⟩ = some (.slice Y.An Y.g.ns.length Y.cn) ∧ u.cell? ⟨ga + 1 + 1, 1, none⟩ = some (.slice Y.Ae Y.g.es.length Y.ce) ∧ u.cell? ⟨ga + 1 + 1, 2, none⟩ = some (.slice Y.Mn Y.m.ns.length Y.mn) ∧ u.cell? ⟨ga + 1 + 1, 3, none⟩ = some (.slice Y.Me Y.m.es.length Y.me) ∧ u.cell? ⟨gm, 0, none⟩ = some (.slice Nn N.ns.length nn) ∧ u.cell? ⟨gm, 1, none⟩ = some (.slice Ne N.es.length ne) ∧ u.cell? ⟨g1, 0, none⟩ = some (.slice X1 (compM X.m Y.m).ns.length x1) ∧ u.cell? ⟨g1, 1, none⟩ = some (.slice Y1 (compM X.m Y.m).es.length y1))) (by kernel_rfl) (HM.out _ WD0.out) (fun hHeld => ?_)
        generalize wc.drew = we at *
        refine wpAnyH_take (i := 0) (v := ?_) (oper_at (r := _) rfl) (by kernel_rfl) (by kernel_rfl) (by kernel_rfl) (fun _ _ _ h => h) (Or.inl ⟨by rfl, ?_⟩) (by assumption) ?_
        rotate_left
        · intro w hSw; try dsimp only at hSw
          go_simp
          try with_reducible rfl
        try simp only [Act.put, List.setIfInBounds_toArray, List.set_cons_zero, List.set_cons_succ]
        refine wpAnyH_take (i := 1) (v := ?_) (oper_at (r := _) rfl) (by kernel_rfl) (by kernel_rfl) (by kernel_rfl) (fun _ _ _ h => h) (Or.inl ⟨by rfl, ?_⟩) (by assumption) ?_
        rotate_left
        · intro w hSw; try dsimp only at hSw
          go_simp
          try with_reducible rfl
        try simp only [Act.put, List.setIfInBounds_toArray, List.set_cons_zero, List.set_cons_succ]
        refine wpAnyH_take (i := 2) (v := ?_) (oper_at (r := _) rfl) (by kernel_rfl) (by kernel_rfl) (by kernel_rfl) (fun _ _ _ h => h) (Or.inl ⟨by rfl, ?_⟩) (by assumption) ?_
        rotate_left
        · intro w hSw; try dsimp only at hSw
          go_simp
          try with_reducible rfl
        try simp only [Act.put, List.setIfInBounds_toArray, List.set_cons_zero, List.set_cons_succ]
        refine wpAnyH_take (i := 3) (v := ?_) (oper_at (r := _) rfl) (by kernel_rfl) (by kernel_rfl) (by kernel_rfl) (fun _ _ _ h => h) (Or.inl ⟨by rfl, ?_⟩) (by assumption) ?_
        rotate_left
        · intro w hSw; try dsimp only at hSw
          go_simp
          try with_reducible rfl
        try simp only [Act.put, List.setIfInBounds_toArray, List.set_cons_zero, List.set_cons_succ]
        refine wpAnyH_take (i := 4) (v := ?_) (oper_at (r := _) rfl) (by kernel_rfl) (by kernel_rfl) (by kernel_rfl) (fun _ _ _ h => h) (Or.inl ⟨by rfl, ?_⟩) (by assumption) ?_
        rotate_left
        · intro w hSw; try dsimp only at hSw
          go_simp
          try with_reducible rfl
        try simp only [Act.put, List.setIfInBounds_toArray, List.set_cons_zero, List.set_cons_succ]
        refine wpAnyH_take (i := 6) (v := ?_) (oper_at (r := _) rfl) (by kernel_rfl) (by kernel_rfl) (by kernel_rfl) (fun _ _ _ h => h) (Or.inl ⟨by rfl, ?_⟩) (by assumption) ?_
        rotate_left
        · intro w hSw; try dsimp only at hSw
          go_simp
          try with_reducible rfl
        try simp only [Act.put, List.setIfInBounds_toArray, List.set_cons_zero, List.set_cons_succ]
        refine wpAnyH_take (i := 7) (v := ?_) (oper_at (r := _) rfl) (by kernel_rfl) (by kernel_rfl) (by kernel_rfl) (fun _ _ _ h => h) (Or.inl ⟨by rfl, ?_⟩) (by assumption) ?_
        rotate_left
        · intro w hSw; try dsimp only at hSw
          go_simp
          try with_reducible rfl
        try simp only [Act.put, List.setIfInBounds_toArray, List.set_cons_zero, List.set_cons_succ]
        refine wpAnyH_take (i := 8) (v := ?_) (oper_at (r := _) rfl) (by kernel_rfl) (by kernel_rfl) (by kernel_rfl) (fun _ _ _ h => h) (Or.inl ⟨by rfl, ?_⟩) (by assumption) ?_
        rotate_left
        · intro w hSw; try dsimp only at hSw
          go_simp
          try with_reducible rfl
        try simp only [Act.put, List.setIfInBounds_toArray, List.set_cons_zero, List.set_cons_succ]
        refine wpAnyH_take (i := 9) (v := ?_) (oper_at (r := _) rfl) (by kernel_rfl) (by kernel_rfl) (by kernel_rfl) (fun _ _ _ h => h) (Or.inl ⟨by rfl, ?_⟩) (by assumption) ?_
        rotate_left
        · intro w hSw; try dsimp only at hSw
          go_simp
          try with_reducible rfl
        try simp only [Act.put, List.setIfInBounds_toArray, List.set_cons_zero, List.set_cons_succ]
        refine wpAnyH_take (i := 10) (v := ?_) (oper_at (r := _) rfl) (by kernel_rfl) (by kernel_rfl) (by kernel_rfl) (fun _ _ _ h => h) (Or.inl ⟨by rfl, ?_⟩) (by assumption) ?_
        rotate_left
        · intro w hSw; try dsimp only at hSw
          go_simp
          try with_reducible rfl
        try simp only [Act.put, List.setIfInBounds_toArray, List.set_cons_zero, List.set_cons_succ]
        refine wpAnyH_ready (rs := [5]) (by kernel_rfl) (by simp) ?_
        refine AllReadyH.cons (oper_at (r := _) rfl) (fun K hK => ?_) AllReadyH.nil
        go_simp
        refine (HJ1.out _ (HVD.out.trans (WD0.out.mono HVD.out.size))).mono ?_
        rintro e W3 ⟨rfl, hb⟩
        have WD_W3 := Lib.hid (WD0.out.trans (hb.mono WD0.out.size))
        clear WD0
        clear hb 
        go_wp2_with fail
        refine hK.out _ _ (HM.out _ WD_W3.out) (fun _ => ?_)
        clear hK K
        try simp only [Act.put, List.setIfInBounds_toArray, List.set_cons_zero, List.set_cons_succ]
        refine wpAnyH_ready (rs := [11]) (by kernel_rfl) (by simp) ?_
        refine AllReadyH.cons (oper_at (r := _) rfl) (fun K hK => ?_) AllReadyH.nil
        go_simp
        refine (HJ2.out _ (HVD.out.trans (WD_W3.out.mono HVD.out.size))).mono ?_
        rintro e W4 ⟨rfl, hb⟩
        have WD_W4 := Lib.hid (WD_W3.out.trans (hb.mono WD_W3.out.size))
        clear WD_W3
        clear hb 
        go_wp2_with fail
        refine hK.out _ _ (HM.out _ WD_W4.out) (fun _ => ?_)
        clear hK K
        try simp only [Act.put, List.setIfInBounds_toArray, List.set_cons_zero, List.set_cons_succ]
        refine wpAnyH_take (i := 12) (v := ?_) (oper_at (r := _) rfl) (by kernel_rfl) (by kernel_rfl) (by kernel_rfl) (fun _ _ _ h => h) (Or.inl ⟨by rfl, ?_⟩) (by assumption) ?_
        rotate_left
        · intro w hSw; try dsimp only at hSw
          go_simp
          try with_reducible rfl
        try simp only [Act.put, List.setIfInBounds_toArray, List.set_cons_zero, List.set_cons_succ]
        refine wpAnyH_take (i := 13) (v := ?_) (oper_at (r := _) rfl) (by kernel_rfl) (by kernel_rfl) (by kernel_rfl) (fun _ _ _ h => h) (Or.inl ⟨by rfl, ?_⟩) (by assumption) ?_
        rotate_left
        · intro w hSw; try dsimp only at hSw
          go_simp
          try with_reducible rfl
        try simp only [Act.put, List.setIfInBounds_toArray, List.set_cons_zero, List.set_cons_succ]
        refine wpAnyH_done (by kernel_rfl) ?_ _
        refine NoPanic.normal ?_
        go_wp2_with fail
        go_meet
        exact ⟨rfl, rfl, (HVD.out.trans (WD_W4.out.mono HVD.out.size))⟩
      case rest =>
        obtain ⟨rfl, rfl, hB⟩ := hcut
        have HB2 := Lib.hid hB
        clear hB HB1 HI1 HI2 HJ1 HJ2
        obtain ⟨k1, k2⟩ := HKI.out
        obtain ⟨k3, k4⟩ := HKJ.out
        cases i1
        case false =>
          cases i2
          case false =>
            cases i3
            case false =>
              clear k1 k2 HKI
              cases j1
              case false =>
                cases j2
                case false =>
                  cases j3
                  case false =>
                    clear k3 k4 HKJ
                    obtain ⟨a0, a1, p0, p1, p2, p3, q0, q1, q2, q3, c0, c1, m0, m1⟩ := HCE.out _ HB2.out
                    clear p0 p1 p2 p3 q0 q1 q2 q3
                    go_wp2_with fail
                    refine (HI3.out _ HB2.out).mono ?_
                    rintro e wq0 ⟨rfl, hb⟩
                    have HQ0 := Lib.hid (HB2.out.trans (hb.mono HB2.out.size))
                    clear hb HB2 a0 a1 c0 c1 m0 m1
                    obtain ⟨a0, a1, p0, p1, p2, p3, q0, q1, q2, q3, c0, c1, m0, m1⟩ := HCE.out _ HQ0.out
                    clear p0 p1 p2 p3 q0 q1 q2 q3
                    go_wp2_with fail
                    refine (HJ3.out _ HQ0.out).mono ?_
                    rintro e wq1 ⟨rfl, hb⟩
                    have HQ1 := Lib.hid (HQ0.out.trans (hb.mono HQ0.out.size))
                    clear hb HQ0 a0 a1 c0 c1 m0 m1
                    go_wp2_with fail
                    go_ret
                    exact ⟨rfl, HBW.out.trans (HQ1.out.mono HBW.out.size)⟩
                  case true =>
                    exact absurd (k4 rfl) (by decide)
                case true =>
                  cases j3
                  case false =>
                    clear k3 k4 HKJ
                    obtain ⟨a0, a1, p0, p1, p2, p3, q0, q1, q2, q3, c0, c1, m0, m1⟩ := HCE.out _ HB2.out
                    clear p0 p1 p2 p3 q0 q1 q2 q3
                    go_wp2_with fail
                    refine (HI3.out _ HB2.out).mono ?_
                    rintro e wq0 ⟨rfl, hb⟩
                    have HQ0 := Lib.hid (HB2.out.trans (hb.mono HB2.out.size))
                    clear hb HB2 a0 a1 c0 c1 m0 m1
                    obtain ⟨a0, a1, p0, p1, p2, p3, q0, q1, q2, q3, c0, c1, m0, m1⟩ := HCE.out _ HQ0.out
                    clear p0 p1 p2 p3 q0 q1 q2 q3
                    go_wp2_with fail
                    refine (HJ3.out _ HQ0.out).mono ?_
                    rintro e wq1 ⟨rfl, hb⟩
                    have HQ1 := Lib.hid (HQ0.out.trans (hb.mono HQ0.out.size))
                    clear hb HQ0 a0 a1 c0 c1 m0 m1
                    go_wp2_with fail
                    go_ret
                    exact ⟨rfl, HBW.out.trans (HQ1.out.mono HBW.out.size)⟩
                  case true =>
                    clear k3 k4 HKJ
                    obtain ⟨a0, a1, p0, p1, p2, p3, q0, q1, q2, q3, c0, c1, m0, m1⟩ := HCE.out _ HB2.out
                    clear p0 p1 p2 p3 q0 q1 q2 q3
                    go_wp2_with fail
                    refine (HI3.out _ HB2.out).mono ?_
                    rintro e wq0 ⟨rfl, hb⟩
                    have HQ0 := Lib.hid (HB2.out.trans (hb.mono HB2.out.size))
                    clear hb HB2 a0 a1 c0 c1 m0 m1
                    obtain ⟨a0, a1, p0, p1, p2, p3, q0, q1, q2, q3, c0, c1, m0, m1⟩ := HCE.out _ HQ0.out
                    clear p0 p1 p2 p3 q0 q1 q2 q3
                    go_wp2_with fail
                    refine (HJ3.out _ HQ0.out).mono ?_
                    rintro e wq1 ⟨rfl, hb⟩
                    have HQ1 := Lib.hid (HQ0.out.trans (hb.mono HQ0.out.size))
                    clear hb HQ0 a0 a1 c0 c1 m0 m1
                    go_wp2_with fail
                    go_ret
                    exact ⟨rfl, HBW.out.trans (HQ1.out.mono HBW.out.size)⟩
              case true =>
                cases j2
                case false =>
                  cases j3
                  case false =>
                    clear k3 k4 HKJ
                    obtain ⟨a0, a1, p0, p1, p2, p3, q0, q1, q2, q3, c0, c1, m0, m1⟩ := HCE.out _ HB2.out
                    clear p0 p1 p2 p3 q0 q1 q2 q3
                    go_wp2_with fail
                    refine (HI3.out _ HB2.out).mono ?_
                    rintro e wq0 ⟨rfl, hb⟩
                    have HQ0 := Lib.hid (HB2.out.trans (hb.mono HB2.out.size))
                    clear hb HB2 a0 a1 c0 c1 m0 m1
                    obtain ⟨a0, a1, p0, p1, p2, p3, q0, q1, q2, q3, c0, c1, m0, m1⟩ := HCE.out _ HQ0.out
                    clear p0 p1 p2 p3 q0 q1 q2 q3
                    go_wp2_with fail
                    refine (HJ3.out _ HQ0.out).mono ?_
                    rintro e wq1 ⟨rfl, hb⟩
                    have HQ1 := Lib.hid (HQ0.out.trans (hb.mono HQ0.out.size))
                    clear hb HQ0 a0 a1 c0 c1 m0 m1
                    go_wp2_with fail
                    go_ret
                    exact ⟨rfl, HBW.out.trans (HQ1.out.mono HBW.out.size)⟩
                  case true =>
                    exact absurd (k4 rfl) (by decide)
                case true =>
                  cases j3
                  case false =>
                    exact absurd (k3 rfl rfl) (by decide)
                  case true =>
                    clear k3 k4 HKJ
                    obtain ⟨a0, a1, p0, p1, p2, p3, q0, q1, q2, q3, c0, c1, m0, m1⟩ := HCE.out _ HB2.out
                    clear p0 p1 p2 p3 q0 q1 q2 q3
                    go_wp2_with fail
                    refine (HI3.out _ HB2.out).mono ?_
                    rintro e wq0 ⟨rfl, hb⟩
                    have HQ0 := Lib.hid (HB2.out.trans (hb.mono HB2.out.size))
                    clear hb HB2 a0 a1 c0 c1 m0 m1
                    obtain ⟨a0, a1, p0, p1, p2, p3, q0, q1, q2, q3, c0, c1, m0, m1⟩ := HCE.out _ HQ0.out
                    clear p0 p1 p2 p3 q0 q1 q2 q3
                    go_wp2_with fail
                    refine (HJ3.out _ HQ0.out).mono ?_
                    rintro e wq1 ⟨rfl, hb⟩
                    have HQ1 := Lib.hid (HQ0.out.trans (hb.mono HQ0.out.size))
                    clear hb HQ0 a0 a1 c0 c1 m0 m1
                    obtain ⟨a0, a1, p0, p1, p2, p3, q0, q1, q2, q3, c0, c1, m0, m1⟩ := HCE.out _ HQ1.out
                    clear p0 p1 p2 p3 q0 q1 q2 q3
                    go_wp2_with fail
                    refine (HJ3.out _ HQ1.out).mono ?_
                    rintro e wq2 ⟨rfl, hb⟩
                    have HQ2 := Lib.hid (HQ1.out.trans (hb.mono HQ1.out.size))
                    clear hb HQ1 a0 a1 c0 c1 m0 m1
                    go_wp2_with fail
                    go_ret
                    exact ⟨rfl, HBW.out.trans (HQ2.out.mono HBW.out.size)⟩
            case true =>
              exact absurd (k2 rfl) (by decide)
          case true =>
            cases i3
            case false =>
              clear k1 k2 HKI
              cases j1
              case false =>
                cases j2
                case false =>
                  cases j3
                  case false =>
                    clear k3 k4 HKJ
                    obtain ⟨a0, a1, p0, p1, p2, p3, q0, q1, q2, q3, c0, c1, m0, m1⟩ := HCE.out _ HB2.out
                    clear p0 p1 p2 p3 q0 q1 q2 q3
                    go_wp2_with fail
                    refine (HI3.out _ HB2.out).mono ?_
                    rintro e wq0 ⟨rfl, hb⟩
                    have HQ0 := Lib.hid (HB2.out.trans (hb.mono HB2.out.size))
                    clear hb HB2 a0 a1 c0 c1 m0 m1
                    obtain ⟨a0, a1, p0, p1, p2, p3, q0, q1, q2, q3, c0, c1, m0, m1⟩ := HCE.out _ HQ0.out
                    clear p0 p1 p2 p3 q0 q1 q2 q3
                    go_wp2_with fail
                    refine (HJ3.out _ HQ0.out).mono ?_
                    rintro e wq1 ⟨rfl, hb⟩
                    have HQ1 := Lib.hid (HQ0.out.trans (hb.mono HQ0.out.size))
                    clear hb HQ0 a0 a1 c0 c1 m0 m1
                    go_wp2_with fail
                    go_ret
                    exact ⟨rfl, HBW.out.trans (HQ1.out.mono HBW.out.size)⟩
                  case true =>
                    exact absurd (k4 rfl) (by decide)
                case true =>
                  cases j3
                  case false =>
                    clear k3 k4 HKJ
                    obtain ⟨a0, a1, p0, p1, p2, p3, q0, q1, q2, q3, c0, c1, m0, m1⟩ := HCE.out _ HB2.out
                    clear p0 p1 p2 p3 q0 q1 q2 q3
                    go_wp2_with fail
                    refine (HI3.out _ HB2.out).mono ?_
                    rintro e wq0 ⟨rfl, hb⟩
                    have HQ0 := Lib.hid (HB2.out.trans (hb.mono HB2.out.size))
                    clear hb HB2 a0 a1 c0 c1 m0 m1
                    obtain ⟨a0, a1, p0, p1, p2, p3, q0, q1, q2, q3, c0, c1, m0, m1⟩ := HCE.out _ HQ0.out
                    clear p0 p1 p2 p3 q0 q1 q2 q3
                    go_wp2_with fail
                    refine (HJ3.out _ HQ0.out).mono ?_
                    rintro e wq1 ⟨rfl, hb⟩
                    have HQ1 := Lib.hid (HQ0.out.trans (hb.mono HQ0.out.size))
                    clear hb HQ0 a0 a1 c0 c1 m0 m1
                    go_wp2_with fail
                    go_ret
                    exact ⟨rfl, HBW.out.trans (HQ1.out.mono HBW.out.size)⟩
                  case true =>
                    clear k3 k4 HKJ
                    obtain ⟨a0, a1, p0, p1, p2, p3, q0, q1, q2, q3, c0, c1, m0, m1⟩ := HCE.out _ HB2.out
                    clear p0 p1 p2 p3 q0 q1 q2 q3
                    go_wp2_with fail
                    refine (HI3.out _ HB2.out).mono ?_
                    rintro e wq0 ⟨rfl, hb⟩
                    have HQ0 := Lib.hid (HB2.out.trans (hb.mono HB2.out.size))
                    clear hb HB2 a0 a1 c0 c1 m0 m1
                    obtain ⟨a0, a1, p0, p1, p2, p3, q0, q1, q2, q3, c0, c1, m0, m1⟩ := HCE.out _ HQ0.out
                    clear p0 p1 p2 p3 q0 q1 q2 q3
                    go_wp2_with fail
                    refine (HJ3.out _ HQ0.out).mono ?_
                    rintro e wq1 ⟨rfl, hb⟩
                    have HQ1 := Lib.hid (HQ0.out.trans (hb.mono HQ0.out.size))
                    clear hb HQ0 a0 a1 c0 c1 m0 m1
                    go_wp2_with fail
                    go_ret
                    exact ⟨rfl, HBW.out.trans (HQ1.out.mono HBW.out.size)⟩
              case true =>
                cases j2
                case false =>
                  cases j3
                  case false =>
                    clear k3 k4 HKJ
                    obtain ⟨a0, a1, p0, p1, p2, p3, q0, q1, q2, q3, c0, c1, m0, m1⟩ := HCE.out _ HB2.out
                    clear p0 p1 p2 p3 q0 q1 q2 q3
                    go_wp2_with fail
                    refine (HI3.out _ HB2.out).mono ?_
                    rintro e wq0 ⟨rfl, hb⟩
                    have HQ0 := Lib.hid (HB2.out.trans (hb.mono HB2.out.size))
                    clear hb HB2 a0 a1 c0 c1 m0 m1
                    obtain ⟨a0, a1, p0, p1, p2, p3, q0, q1, q2, q3, c0, c1, m0, m1⟩ := HCE.out _ HQ0.out
                    clear p0 p1 p2 p3 q0 q1 q2 q3
                    go_wp2_with fail
                    refine (HJ3.out _ HQ0.out).mono ?_
                    rintro e wq1 ⟨rfl, hb⟩
                    have HQ1 := Lib.hid (HQ0.out.trans (hb.mono HQ0.out.size))
                    clear hb HQ0 a0 a1 c0 c1 m0 m1
                    go_wp2_with fail
                    go_ret
                    exact ⟨rfl, HBW.out.trans (HQ1.out.mono HBW.out.size)⟩
                  case true =>
                    exact absurd (k4 rfl) (by decide)
                case true =>
                  cases j3
                  case false =>
                    exact absurd (k3 rfl rfl) (by decide)
                  case true =>
                    clear k3 k4 HKJ
                    obtain ⟨a0, a1, p0, p1, p2, p3, q0, q1, q2, q3, c0, c1, m0, m1⟩ := HCE.out _ HB2.out
                    clear p0 p1 p2 p3 q0 q1 q2 q3
                    go_wp2_with fail
                    refine (HI3.out _ HB2.out).mono ?_
                    rintro e wq0 ⟨rfl, hb⟩
                    have HQ0 := Lib.hid (HB2.out.trans (hb.mono HB2.out.size))
                    clear hb HB2 a0 a1 c0 c1 m0 m1
                    obtain ⟨a0, a1, p0, p1, p2, p3, q0, q1, q2, q3, c0, c1, m0, m1⟩ := HCE.out _ HQ0.out
                    clear p0 p1 p2 p3 q0 q1 q2 q3
                    go_wp2_with fail
                    refine (HJ3.out _ HQ0.out).mono ?_
                    rintro e wq1 ⟨rfl, hb⟩
                    have HQ1 := Lib.hid (HQ0.out.trans (hb.mono HQ0.out.size))
                    clear hb HQ0 a0 a1 c0 c1 m0 m1
                    obtain ⟨a0, a1, p0, p1, p2, p3, q0, q1, q2, q3, c0, c1, m0, m1⟩ := HCE.out _ HQ1.out
                    clear p0 p1 p2 p3 q0 q1 q2 q3
                    go_wp2_with fail
                    refine (HJ3.out _ HQ1.out).mono ?_
                    rintro e wq2 ⟨rfl, hb⟩
                    have HQ2 := Lib.hid (HQ1.out.trans (hb.mono HQ1.out.size))
                    clear hb HQ1 a0 a1 c0 c1 m0 m1
                    go_wp2_with fail
                    go_ret
                    exact ⟨rfl, HBW.out.trans (HQ2.out.mono HBW.out.size)⟩
            case true =>
              exact absurd (k2 rfl) (by decide)
        case true =>
          cases i2
          case false =>
            cases i3
            case false =>
              clear k1 k2 HKI
              cases j1
              case false =>
                cases j2
                case false =>
                  cases j3
                  case false =>
                    clear k3 k4 HKJ
                    obtain ⟨a0, a1, p0, p1, p2, p3, q0, q1, q2, q3, c0, c1, m0, m1⟩ := HCE.out _ HB2.out
                    clear p0 p1 p2 p3 q0 q1 q2 q3
                    go_wp2_with fail
                    refine (HI3.out _ HB2.out).mono ?_
                    rintro e wq0 ⟨rfl, hb⟩
                    have HQ0 := Lib.hid (HB2.out.trans (hb.mono HB2.out.size))
                    clear hb HB2 a0 a1 c0 c1 m0 m1
                    obtain ⟨a0, a1, p0, p1, p2, p3, q0, q1, q2, q3, c0, c1, m0, m1⟩ := HCE.out _ HQ0.out
                    clear p0 p1 p2 p3 q0 q1 q2 q3
                    go_wp2_with fail
                    refine (HJ3.out _ HQ0.out).mono ?_
                    rintro e wq1 ⟨rfl, hb⟩
                    have HQ1 := Lib.hid (HQ0.out.trans (hb.mono HQ0.out.size))
                    clear hb HQ0 a0 a1 c0 c1 m0 m1
                    go_wp2_with fail
                    go_ret
                    exact ⟨rfl, HBW.out.trans (HQ1.out.mono HBW.out.size)⟩
                  case true =>
                    exact absurd (k4 rfl) (by decide)
                case true =>
                  cases j3
                  case false =>
                    clear k3 k4 HKJ
                    obtain ⟨a0, a1, p0, p1, p2, p3, q0, q1, q2, q3, c0, c1, m0, m1⟩ := HCE.out _ HB2.out
                    clear p0 p1 p2 p3 q0 q1 q2 q3
                    go_wp2_with fail
                    refine (HI3.out _ HB2.out).mono ?_
                    rintro e wq0 ⟨rfl, hb⟩
                    have HQ0 := Lib.hid (HB2.out.trans (hb.mono HB2.out.size))
                    clear hb HB2 a0 a1 c0 c1 m0 m1
                    obtain ⟨a0, a1, p0, p1, p2, p3, q0, q1, q2, q3, c0, c1, m0, m1⟩ := HCE.out _ HQ0.out
                    clear p0 p1 p2 p3 q0 q1 q2 q3
                    go_wp2_with fail
                    refine (HJ3.out _ HQ0.out).mono ?_
                    rintro e wq1 ⟨rfl, hb⟩
                    have HQ1 := Lib.hid (HQ0.out.trans (hb.mono HQ0.out.size))
                    clear hb HQ0 a0 a1 c0 c1 m0 m1
                    go_wp2_with fail
                    go_ret
                    exact ⟨rfl, HBW.out.trans (HQ1.out.mono HBW.out.size)⟩
                  case true =>
                    clear k3 k4 HKJ
                    obtain ⟨a0, a1, p0, p1, p2, p3, q0, q1, q2, q3, c0, c1, m0, m1⟩ := HCE.out _ HB2.out
                    clear p0 p1 p2 p3 q0 q1 q2 q3
                    go_wp2_with fail
                    refine (HI3.out _ HB2.out).mono ?_
                    rintro e wq0 ⟨rfl, hb⟩
                    have HQ0 := Lib.hid (HB2.out.trans (hb.mono HB2.out.size))
                    clear hb HB2 a0 a1 c0 c1 m0 m1
                    obtain ⟨a0, a1, p0, p1, p2, p3, q0, q1, q2, q3, c0, c1, m0, m1⟩ := HCE.out _ HQ0.out
                    clear p0 p1 p2 p3 q0 q1 q2 q3
                    go_wp2_with fail
                    refine (HJ3.out _ HQ0.out).mono ?_
                    rintro e wq1 ⟨rfl, hb⟩
                    have HQ1 := Lib.hid (HQ0.out.trans (hb.mono HQ0.out.size))
                    clear hb HQ0 a0 a1 c0 c1 m0 m1
                    go_wp2_with fail
                    go_ret
                    exact ⟨rfl, HBW.out.trans (HQ1.out.mono HBW.out.size)⟩
              case true =>
                cases j2
                case false =>
                  cases j3
                  case false =>
                    clear k3 k4 HKJ
                    obtain ⟨a0, a1, p0, p1, p2, p3, q0, q1, q2, q3, c0, c1, m0, m1⟩ := HCE.out _ HB2.out
                    clear p0 p1 p2 p3 q0 q1 q2 q3
                    go_wp2_with fail
                    refine (HI3.out _ HB2.out).mono ?_
                    rintro e wq0 ⟨rfl, hb⟩
                    have HQ0 := Lib.hid (HB2.out.trans (hb.mono HB2.out.size))
                    clear hb HB2 a0 a1 c0 c1 m0 m1
                    obtain ⟨a0, a1, p0, p1, p2, p3, q0, q1, q2, q3, c0, c1, m0, m1⟩ := HCE.out _ HQ0.out
                    clear p0 p1 p2 p3 q0 q1 q2 q3
                    go_wp2_with fail
                    refine (HJ3.out _ HQ0.out).mono ?_
                    rintro e wq1 ⟨rfl, hb⟩
                    have HQ1 := Lib.hid (HQ0.out.trans (hb.mono HQ0.out.size))
                    clear hb HQ0 a0 a1 c0 c1 m0 m1
                    go_wp2_with fail
                    go_ret
                    exact ⟨rfl, HBW.out.trans (HQ1.out.mono HBW.out.size)⟩
                  case true =>
                    exact absurd (k4 rfl) (by decide)
                case true =>
                  cases j3
                  case false =>
                    exact absurd (k3 rfl rfl) (by decide)
                  case true =>
                    clear k3 k4 HKJ
                    obtain ⟨a0, a1, p0, p1, p2, p3, q0, q1, q2, q3, c0, c1, m0, m1⟩ := HCE.out _ HB2.out
                    clear p0 p1 p2 p3 q0 q1 q2 q3
                    go_wp2_with fail
                    refine (HI3.out _ HB2.out).mono ?_
                    rintro e wq0 ⟨rfl, hb⟩
                    have HQ0 := Lib.hid (HB2.out.trans (hb.mono HB2.out.size))
                    clear hb HB2 a0 a1 c0 c1 m0 m1
                    obtain ⟨a0, a1, p0, p1, p2, p3, q0, q1, q2, q3, c0, c1, m0, m1⟩ := HCE.out _ HQ0.out
                    clear p0 p1 p2 p3 q0 q1 q2 q3
                    go_wp2_with fail
                    refine (HJ3.out _ HQ0.out).mono ?_
                    rintro e wq1 ⟨rfl, hb⟩
                    have HQ1 := Lib.hid (HQ0.out.trans (hb.mono HQ0.out.size))
                    clear hb HQ0 a0 a1 c0 c1 m0 m1
                    obtain ⟨a0, a1, p0, p1, p2, p3, q0, q1, q2, q3, c0, c1, m0, m1⟩ := HCE.out _ HQ1.out
                    clear p0 p1 p2 p3 q0 q1 q2 q3
                    go_wp2_with fail
                    refine (HJ3.out _ HQ1.out).mono ?_
                    rintro e wq2 ⟨rfl, hb⟩
                    have HQ2 := Lib.hid (HQ1.out.trans (hb.mono HQ1.out.size))
                    clear hb HQ1 a0 a1 c0 c1 m0 m1
                    go_wp2_with fail
                    go_ret
                    exact ⟨rfl, HBW.out.trans (HQ2.out.mono HBW.out.size)⟩
            case true =>
              clear k1 k2 HKI
              cases j1
              case false =>
                cases j2
                case false =>
                  cases j3
                  case false =>
                    clear k3 k4 HKJ
                    obtain ⟨a0, a1, p0, p1, p2, p3, q0, q1, q2, q3, c0, c1, m0, m1⟩ := HCE.out _ HB2.out
                    clear p0 p1 p2 p3 q0 q1 q2 q3
                    go_wp2_with fail
                    refine (HI3.out _ HB2.out).mono ?_
                    rintro e wq0 ⟨rfl, hb⟩
                    have HQ0 := Lib.hid (HB2.out.trans (hb.mono HB2.out.size))
                    clear hb HB2 a0 a1 c0 c1 m0 m1
                    obtain ⟨a0, a1, p0, p1, p2, p3, q0, q1, q2, q3, c0, c1, m0, m1⟩ := HCE.out _ HQ0.out
                    clear p0 p1 p2 p3 q0 q1 q2 q3
                    go_wp2_with fail
                    refine (HJ3.out _ HQ0.out).mono ?_
                    rintro e wq1 ⟨rfl, hb⟩
                    have HQ1 := Lib.hid (HQ0.out.trans (hb.mono HQ0.out.size))
                    clear hb HQ0 a0 a1 c0 c1 m0 m1
                    go_wp2_with fail
                    go_ret
                    exact ⟨rfl, HBW.out.trans (HQ1.out.mono HBW.out.size)⟩
                  case true =>
                    exact absurd (k4 rfl) (by decide)
                case true =>
                  cases j3
                  case false =>
                    clear k3 k4 HKJ
                    obtain ⟨a0, a1, p0, p1, p2, p3, q0, q1, q2, q3, c0, c1, m0, m1⟩ := HCE.out _ HB2.out
                    clear p0 p1 p2 p3 q0 q1 q2 q3
                    go_wp2_with fail
                    refine (HI3.out _ HB2.out).mono ?_
                    rintro e wq0 ⟨rfl, hb⟩
                    have HQ0 := Lib.hid (HB2.out.trans (hb.mono HB2.out.size))
                    clear hb HB2 a0 a1 c0 c1 m0 m1
                    obtain ⟨a0, a1, p0, p1, p2, p3, q0, q1, q2, q3, c0, c1, m0, m1⟩ := HCE.out _ HQ0.out
                    clear p0 p1 p2 p3 q0 q1 q2 q3
                    go_wp2_with fail
                    refine (HJ3.out _ HQ0.out).mono ?_
                    rintro e wq1 ⟨rfl, hb⟩
                    have HQ1 := Lib.hid (HQ0.out.trans (hb.mono HQ0.out.size))
                    clear hb HQ0 a0 a1 c0 c1 m0 m1
                    go_wp2_with fail
                    go_ret
                    exact ⟨rfl, HBW.out.trans (HQ1.out.mono HBW.out.size)⟩
                  case true =>
                    clear k3 k4 HKJ
                    obtain ⟨a0, a1, p0, p1, p2, p3, q0, q1, q2, q3, c0, c1, m0, m1⟩ := HCE.out _ HB2.out
                    clear p0 p1 p2 p3 q0 q1 q2 q3
                    go_wp2_with fail
                    refine (HI3.out _ HB2.out).mono ?_
                    rintro e wq0 ⟨rfl, hb⟩
                    have HQ0 := Lib.hid (HB2.out.trans (hb.mono HB2.out.size))
                    clear hb HB2 a0 a1 c0 c1 m0 m1
                    obtain ⟨a0, a1, p0, p1, p2, p3, q0, q1, q2, q3, c0, c1, m0, m1⟩ := HCE.out _ HQ0.out
                    clear p0 p1 p2 p3 q0 q1 q2 q3
                    go_wp2_with fail
                    refine (HJ3.out _ HQ0.out).mono ?_
                    rintro e wq1 ⟨rfl, hb⟩
                    have HQ1 := Lib.hid (HQ0.out.trans (hb.mono HQ0.out.size))
                    clear hb HQ0 a0 a1 c0 c1 m0 m1
                    go_wp2_with fail
                    go_ret
                    exact ⟨rfl, HBW.out.trans (HQ1.out.mono HBW.out.size)⟩
              case true =>
                cases j2
                case false =>
                  cases j3
                  case false =>
                    clear k3 k4 HKJ
                    obtain ⟨a0, a1, p0, p1, p2, p3, q0, q1, q2, q3, c0, c1, m0, m1⟩ := HCE.out _ HB2.out
                    clear p0 p1 p2 p3 q0 q1 q2 q3
                    go_wp2_with fail
                    refine (HI3.out _ HB2.out).mono ?_
                    rintro e wq0 ⟨rfl, hb⟩
                    have HQ0 := Lib.hid (HB2.out.trans (hb.mono HB2.out.size))
                    clear hb HB2 a0 a1 c0 c1 m0 m1
                    obtain ⟨a0, a1, p0, p1, p2, p3, q0, q1, q2, q3, c0, c1, m0, m1⟩ := HCE.out _ HQ0.out
                    clear p0 p1 p2 p3 q0 q1 q2 q3
                    go_wp2_with fail
                    refine (HJ3.out _ HQ0.out).mono ?_
                    rintro e wq1 ⟨rfl, hb⟩
                    have HQ1 := Lib.hid (HQ0.out.trans (hb.mono HQ0.out.size))
                    clear hb HQ0 a0 a1 c0 c1 m0 m1
                    go_wp2_with fail
                    go_ret
                    exact ⟨rfl, HBW.out.trans (HQ1.out.mono HBW.out.size)⟩
                  case true =>
                    exact absurd (k4 rfl) (by decide)
                case true =>
                  cases j3
                  case false =>
                    exact absurd (k3 rfl rfl) (by decide)
                  case true =>
                    clear k3 k4 HKJ
                    obtain ⟨a0, a1, p0, p1, p2, p3, q0, q1, q2, q3, c0, c1, m0, m1⟩ := HCE.out _ HB2.out
                    clear p0 p1 p2 p3 q0 q1 q2 q3
                    go_wp2_with fail
                    refine (HI3.out _ HB2.out).mono ?_
                    rintro e wq0 ⟨rfl, hb⟩
                    have HQ0 := Lib.hid (HB2.out.trans (hb.mono HB2.out.size))
                    clear hb HB2 a0 a1 c0 c1 m0 m1
                    obtain ⟨a0, a1, p0, p1, p2, p3, q0, q1, q2, q3, c0, c1, m0, m1⟩ := HCE.out _ HQ0.out
                    clear p0 p1 p2 p3 q0 q1 q2 q3
                    go_wp2_with fail
                    refine (HJ3.out _ HQ0.out).mono ?_
                    rintro e wq1 ⟨rfl, hb⟩
                    have HQ1 := Lib.hid (HQ0.out.trans (hb.mono HQ0.out.size))
                    clear hb HQ0 a0 a1 c0 c1 m0 m1
                    obtain ⟨a0, a1, p0, p1, p2, p3, q0, q1, q2, q3, c0, c1, m0, m1⟩ := HCE.out _ HQ1.out
                    clear p0 p1 p2 p3 q0 q1 q2 q3
                    go_wp2_with fail
                    refine (HJ3.out _ HQ1.out).mono ?_
                    rintro e wq2 ⟨rfl, hb⟩
                    have HQ2 := Lib.hid (HQ1.out.trans (hb.mono HQ1.out.size))
                    clear hb HQ1 a0 a1 c0 c1 m0 m1
                    go_wp2_with fail
                    go_ret
                    exact ⟨rfl, HBW.out.trans (HQ2.out.mono HBW.out.size)⟩
          case true =>
            cases i3
            case false =>
              exact absurd (k1 rfl rfl) (by decide)
            case true =>
              clear k1 k2 HKI
              cases j1
              case false =>
                cases j2
                case false =>
                  cases j3
                  case false =>
                    clear k3 k4 HKJ
                    obtain ⟨a0, a1, p0, p1, p2, p3, q0, q1, q2, q3, c0, c1, m0, m1⟩ := HCE.out _ HB2.out
                    clear p0 p1 p2 p3 q0 q1 q2 q3
                    go_wp2_with fail
                    refine (HI3.out _ HB2.out).mono ?_
                    rintro e wq0 ⟨rfl, hb⟩
                    have HQ0 := Lib.hid (HB2.out.trans (hb.mono HB2.out.size))
                    clear hb HB2 a0 a1 c0 c1 m0 m1
                    obtain ⟨a0, a1, p0, p1, p2, p3, q0, q1, q2, q3, c0, c1, m0, m1⟩ := HCE.out _ HQ0.out
                    clear p0 p1 p2 p3 q0 q1 q2 q3
                    go_wp2_with fail
                    refine (HI3.out _ HQ0.out).mono ?_
                    rintro e wq1 ⟨rfl, hb⟩
                    have HQ1 := Lib.hid (HQ0.out.trans (hb.mono HQ0.out.size))
                    clear hb HQ0 a0 a1 c0 c1 m0 m1
                    obtain ⟨a0, a1, p0, p1, p2, p3, q0, q1, q2, q3, c0, c1, m0, m1⟩ := HCE.out _ HQ1.out
                    clear p0 p1 p2 p3 q0 q1 q2 q3
                    go_wp2_with fail
                    refine (HJ3.out _ HQ1.out).mono ?_
                    rintro e wq2 ⟨rfl, hb⟩
                    have HQ2 := Lib.hid (HQ1.out.trans (hb.mono HQ1.out.size))
                    clear hb HQ1 a0 a1 c0 c1 m0 m1
                    go_wp2_with fail
                    go_ret
                    exact ⟨rfl, HBW.out.trans (HQ2.out.mono HBW.out.size)⟩
                  case true =>
                    exact absurd (k4 rfl) (by decide)
                case true =>
                  cases j3
                  case false =>
                    clear k3 k4 HKJ
                    obtain ⟨a0, a1, p0, p1, p2, p3, q0, q1, q2, q3, c0, c1, m0, m1⟩ := HCE.out _ HB2.out
                    clear p0 p1 p2 p3 q0 q1 q2 q3
                    go_wp2_with fail
                    refine (HI3.out _ HB2.out).mono ?_
                    rintro e wq0 ⟨rfl, hb⟩
                    have HQ0 := Lib.hid (HB2.out.trans (hb.mono HB2.out.size))
                    clear hb HB2 a0 a1 c0 c1 m0 m1
                    obtain ⟨a0, a1, p0, p1, p2, p3, q0, q1, q2, q3, c0, c1, m0, m1⟩ := HCE.out _ HQ0.out
                    clear p0 p1 p2 p3 q0 q1 q2 q3
                    go_wp2_with fail
                    refine (HI3.out _ HQ0.out).mono ?_
                    rintro e wq1 ⟨rfl, hb⟩
                    have HQ1 := Lib.hid (HQ0.out.trans (hb.mono HQ0.out.size))
                    clear hb HQ0 a0 a1 c0 c1 m0 m1
                    obtain ⟨a0, a1, p0, p1, p2, p3, q0, q1, q2, q3, c0, c1, m0, m1⟩ := HCE.out _ HQ1.out
                    clear p0 p1 p2 p3 q0 q1 q2 q3
                    go_wp2_with fail
                    refine (HJ3.out _ HQ1.out).mono ?_
                    rintro e wq2 ⟨rfl, hb⟩
                    have HQ2 := Lib.hid (HQ1.out.trans (hb.mono HQ1.out.size))
                    clear hb HQ1 a0 a1 c0 c1 m0 m1
                    go_wp2_with fail
                    go_ret
                    exact ⟨rfl, HBW.out.trans (HQ2.out.mono HBW.out.size)⟩
                  case true =>
                    clear k3 k4 HKJ
                    obtain ⟨a0, a1, p0, p1, p2, p3, q0, q1, q2, q3, c0, c1, m0, m1⟩ := HCE.out _ HB2.out
                    clear p0 p1 p2 p3 q0 q1 q2 q3
                    go_wp2_with fail
                    refine (HI3.out _ HB2.out).mono ?_
                    rintro e wq0 ⟨rfl, hb⟩
                    have HQ0 := Lib.hid (HB2.out.trans (hb.mono HB2.out.size))
                    clear hb HB2 a0 a1 c0 c1 m0 m1
                    obtain ⟨a0, a1, p0, p1, p2, p3, q0, q1, q2, q3, c0, c1, m0, m1⟩ := HCE.out _ HQ0.out
                    clear p0 p1 p2 p3 q0 q1 q2 q3
                    go_wp2_with fail
                    refine (HI3.out _ HQ0.out).mono ?_
                    rintro e wq1 ⟨rfl, hb⟩
                    have HQ1 := Lib.hid (HQ0.out.trans (hb.mono HQ0.out.size))
                    clear hb HQ0 a0 a1 c0 c1 m0 m1
                    obtain ⟨a0, a1, p0, p1, p2, p3, q0, q1, q2, q3, c0, c1, m0, m1⟩ := HCE.out _ HQ1.out
                    clear p0 p1 p2 p3 q0 q1 q2 q3
                    go_wp2_with fail
                    refine (HJ3.out _ HQ1.out).mono ?_
                    rintro e wq2 ⟨rfl, hb⟩
                    have HQ2 := Lib.hid (HQ1.out.trans (hb.mono HQ1.out.size))
                    clear hb HQ1 a0 a1 c0 c1 m0 m1
                    go_wp2_with fail
                    go_ret
                    exact ⟨rfl, HBW.out.trans (HQ2.out.mono HBW.out.size)⟩
              case true =>
                cases j2
                case false =>
                  cases j3
                  case false =>
                    clear k3 k4 HKJ
                    obtain ⟨a0, a1, p0, p1, p2, p3, q0, q1, q2, q3, c0, c1, m0, m1⟩ := HCE.out _ HB2.out
                    clear p0 p1 p2 p3 q0 q1 q2 q3
                    go_wp2_with fail
                    refine (HI3.out _ HB2.out).mono ?_
                    rintro e wq0 ⟨rfl, hb⟩
                    have HQ0 := Lib.hid (HB2.out.trans (hb.mono HB2.out.size))
                    clear hb HB2 a0 a1 c0 c1 m0 m1
                    obtain ⟨a0, a1, p0, p1, p2, p3, q0, q1, q2, q3, c0, c1, m0, m1⟩ := HCE.out _ HQ0.out
                    clear p0 p1 p2 p3 q0 q1 q2 q3
                    go_wp2_with fail
                    refine (HI3.out _ HQ0.out).mono ?_
                    rintro e wq1 ⟨rfl, hb⟩
                    have HQ1 := Lib.hid (HQ0.out.trans (hb.mono HQ0.out.size))
                    clear hb HQ0 a0 a1 c0 c1 m0 m1
                    obtain ⟨a0, a1, p0, p1, p2, p3, q0, q1, q2, q3, c0, c1, m0, m1⟩ := HCE.out _ HQ1.out
                    clear p0 p1 p2 p3 q0 q1 q2 q3
                    go_wp2_with fail
                    refine (HJ3.out _ HQ1.out).mono ?_
                    rintro e wq2 ⟨rfl, hb⟩
                    have HQ2 := Lib.hid (HQ1.out.trans (hb.mono HQ1.out.size))
                    clear hb HQ1 a0 a1 c0 c1 m0 m1
                    go_wp2_with fail
                    go_ret
                    exact ⟨rfl, HBW.out.trans (HQ2.out.mono HBW.out.size)⟩
                  case true =>
                    exact absurd (k4 rfl) (by decide)
                case true =>
                  cases j3
                  case false =>
                    exact absurd (k3 rfl rfl) (by decide)
                  case true =>
                    clear k3 k4 HKJ
                    obtain ⟨a0, a1, p0, p1, p2, p3, q0, q1, q2, q3, c0, c1, m0, m1⟩ := HCE.out _ HB2.out
                    clear p0 p1 p2 p3 q0 q1 q2 q3
                    go_wp2_with fail
                    refine (HI3.out _ HB2.out).mono ?_
                    rintro e wq0 ⟨rfl, hb⟩
                    have HQ0 := Lib.hid (HB2.out.trans (hb.mono HB2.out.size))
                    clear hb HB2 a0 a1 c0 c1 m0 m1
                    obtain ⟨a0, a1, p0, p1, p2, p3, q0, q1, q2, q3, c0, c1, m0, m1⟩ := HCE.out _ HQ0.out
                    clear p0 p1 p2 p3 q0 q1 q2 q3
                    go_wp2_with fail
                    refine (HI3.out _ HQ0.out).mono ?_
                    rintro e wq1 ⟨rfl, hb⟩
                    have HQ1 := Lib.hid (HQ0.out.trans (hb.mono HQ0.out.size))
                    clear hb HQ0 a0 a1 c0 c1 m0 m1
                    obtain ⟨a0, a1, p0, p1, p2, p3, q0, q1, q2, q3, c0, c1, m0, m1⟩ := HCE.out _ HQ1.out
                    clear p0 p1 p2 p3 q0 q1 q2 q3
                    go_wp2_with fail
                    refine (HJ3.out _ HQ1.out).mono ?_
                    rintro e wq2 ⟨rfl, hb⟩
                    have HQ2 := Lib.hid (HQ1.out.trans (hb.mono HQ1.out.size))
                    clear hb HQ1 a0 a1 c0 c1 m0 m1
                    obtain ⟨a0, a1, p0, p1, p2, p3, q0, q1, q2, q3, c0, c1, m0, m1⟩ := HCE.out _ HQ2.out
                    clear p0 p1 p2 p3 q0 q1 q2 q3
                    go_wp2_with fail
                    refine (HJ3.out _ HQ2.out).mono ?_
                    rintro e wq3 ⟨rfl, hb⟩
                    have HQ3 := Lib.hid (HQ2.out.trans (hb.mono HQ2.out.size))
                    clear hb HQ2 a0 a1 c0 c1 m0 m1
                    go_wp2_with fail
                    go_ret
                    exact ⟨rfl, HBW.out.trans (HQ3.out.mono HBW.out.size)⟩

end Go.Proofs.YtaeelanbkdkppaaDoor

/-
  The statement MorphismKinds: the law answers true for every input, and its arguments read as they did; its card.
-/
namespace Go.Proofs.YtaeelanbkdkppaaDoor.morphismKinds
open Go.ChangeShapes Go.WideShapes Go.ChangeAt Go.RowKit Go.Deep

set_option maxRecDepth 100000 in
theorem lifted (os : Os) (started : os.Started) (H : Type) (enc : TypeId × Value → H) :
    ReturnsInHanded {} Tryd.checked os 9 .any (fun w args => (Rows.morphismKindsSpec.pre enc Tryd.prog Tryd.f9 Rows.morphismKindsRow.domain false w args ∧ laidMetH Tryd.prog laidL w) ∧ sizedMet enc Tryd.prog Tryd.f9 (OpenSpec.ofChange Rows.morphismKindsSpec) false w args)
      (Rows.morphismKindsSpec.post enc Tryd.prog Tryd.f9 false true false false) := by
  refine returnsInHanded_of_change_and (C := Tryd.checked) (X := fun w _ => laidMetH Tryd.prog laidL w) (fun _ _ _ hh h => h.of_heap hh) ownNone started (by kernel_rfl) Tryd.func9
    (ChangeSpec.witness_shaped (enc := enc) (C := Tryd.checked) (os := os) (X := fun w _ => laidMetH Tryd.prog laidL w) false (World.laidAll Tryd.prog os laidL) #[.agg #[.slice none 0 0, .slice none 0 0], .slice none 0 0, .slice none 0 0] 8 (World.laidAll_os _ _ _)
      (shaped os _) (by kernel_rfl) (by kernel_rfl) (by kernel_rfl) (met os _)) ?_
  intro W base args ds gs before hval0 hW hcnd hsz0 hL _
  have hval : ∀ (j : Nat) t v, Tryd.f9.params[j]? = some t → args[j]? = some v → Value.okWide Tryd.prog W .any base t v := hval0
  have hsz : (DataW.weightsEach Tryd.prog (Tryd.f9.params.toList ++ Rows.morphismKindsSpec.plain.varTypes Tryd.prog) (ds ++ gs)).all (· ≤ reachBytes) = true := hsz0
  obtain ⟨hTab, h00⟩ := tab_of_laid hL
  have hW' := hW
  obtain ⟨p, q, hA0, hV, rfl, hfz, hnd⟩ := hW
  have hA : DataW.TrodAll enc Tryd.prog W 0 (fun _ => true) true Tryd.f9.params.toList args.toList ds p := hA0
  rw [Tryd.params9] at hA hval hsz
  obtain ⟨v0, v1, v2, d0, d1, d2, p0, p1, p2, rfl, rfl, rfl, h0, h1, h2⟩ := trodAll_three hA
  obtain ⟨rfl, rfl⟩ := trodVars_none hV
  clear hA0 hval0 hsz0 hL hcnd
  simp only [List.append_nil] at hW'
  have hlt : ∀ x ∈ p0 ++ p1 ++ p2, x.block < W.heap.size := fun x hx => by simpa using hW'.lt x (by simpa using hx)
  have k0 := h0
  obtain ⟨cs0, rfl, _⟩ := okWide_struct Tryd.underlying56 (hval 0 56 v0 rfl rfl)
  obtain ⟨f0, g0⟩ := h0
  obtain ⟨t0, An0, cn0, Ae0, ce0, e0, hT0⟩ := open_Dr g0
  obtain rfl := agg_of (e0)
  have k1 := h1
  obtain ⟨a1, len1, cap1, rfl⟩ := okWide_slice Tryd.underlying53 (hval 1 53 v1 rfl rfl)
  obtain ⟨f1, g1⟩ := h1
  obtain ⟨A1, xs1, c1, e1, hT1, hl1, hm1⟩ := open_b g1
  simp [Value.cells] at e1
  obtain ⟨rfl, rfl, rfl⟩ := e1
  have k2 := h2
  obtain ⟨a2, len2, cap2, rfl⟩ := okWide_slice Tryd.underlying53 (hval 2 53 v2 rfl rfl)
  obtain ⟨f2, g2⟩ := h2
  obtain ⟨A2, xs2, c2, e2, hT2, hl2, hm2⟩ := open_b g2
  simp [Value.cells] at e2
  obtain ⟨rfl, rfl, rfl⟩ := e2
  refine (lawKinds t0 An0 cn0 Ae0 ce0 xs1 a1 cap1 xs2 a2 cap2 W h00 hTab hT0 hT1 (Nat.le_trans hl1 hm1) hT2 (Nat.le_trans hl2 hm2)).mono fun e W' ⟨he, hg⟩ => ?_
  subst he
  exact ⟨_, rfl, _, _, _, [], p0 ++ p1 ++ p2, [], hW', trodAll_cons_mk (shut_bool Tryd.underlying4 _) trodAll_mk0, (by rw [List.append_assoc p0 p1 p2]; exact trodAll_mk3 (Below.trod laidOut (by kernel_rfl) (of_decide_eq_true (by kernel_rfl)) k0 hg (fun x hx => hlt x (List.mem_append_left _ (List.mem_append_left _ hx)))) (Below.trod laidOut (by kernel_rfl) (of_decide_eq_true (by kernel_rfl)) k1 hg (fun x hx => hlt x (List.mem_append_left _ (List.mem_append_right _ hx)))) (Below.trod laidOut (by kernel_rfl) (of_decide_eq_true (by kernel_rfl)) k2 hg (fun x hx => hlt x (List.mem_append_right _ hx)))), rfl, hg.frame _, fun h => by cases h⟩

theorem f_holds : Rows.MorphismKindsSaid :=
  OpenClaim.holds_of_wide 9 Tryd.f9 rfl rfl rfl rfl rfl rfl rfl ⟨rfl, rfl, rfl, rfl, rfl⟩ rfl rfl rfl rfl rfl (by kernel_rfl) Tryd.func9 (by kernel_rfl)
    (of_decide_eq_true (by kernel_rfl)) (by unfold Func.isWrapper; first | (rw [if_pos (by decide +kernel)]; kernel_rfl) | (rw [if_neg (by decide +kernel)]; exact ⟨rfl, rfl⟩))
    (fun os started H enc _ => lifted os started H enc)

theorem proved : Rows.MorphismKindsCardSaid :=
  Claim7.holds_tied_plain_at .later [] [.data] true (true, "be0e74ecbec61e216f1dec99b2fe76d9649797ab71005ecd4978206190a01235") false
    f_holds (fun _ h => by cases h) (by kernel_rfl) (fun _ h => by cases h) morphismKinds_row_tie rfl ⟨rfl, rfl⟩ (by kernel_rfl) rfl
    (fun f fn hf hfn => by
      obtain rfl : f = 9 := Option.some.inj ((show Tryd.prog.funcNamed "scarfjoint/scarfjointlaw06.MorphismKinds" = some 9 by kernel_rfl).symm.trans hf) |>.symm
      obtain rfl : fn = Tryd.f9 := (Option.some.inj (Tryd.func9.symm.trans hfn)).symm
      exact ⟨by kernel_rfl, fun j t ht => by
        rw [Tryd.params9] at ht
        have hm : t ∈ [56, 53, 53] := List.mem_of_getElem? (by simpa using ht)
        have hs : ∀ t ∈ [56, 53, 53], Tryd.prog.wantsStandIn t = false := by
          intro t ht
          simp only [List.mem_cons, List.not_mem_nil, or_false] at ht
          rcases ht with rfl | rfl | rfl <;> kernel_rfl
        exact hs t hm⟩)
    (by kernel_rfl)

end Go.Proofs.YtaeelanbkdkppaaDoor.morphismKinds

