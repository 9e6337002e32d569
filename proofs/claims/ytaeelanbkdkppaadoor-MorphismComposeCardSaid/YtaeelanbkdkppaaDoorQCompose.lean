import Derived.Test.YtaeelanbkdkppaaDoorZ15
import Derived.Test.YtaeelanbkdkppaaDoorChecked
import Derived.Test.YtaeelanbkdkppaaDoorRows
import Derived.Test.YtaeelanbkdkppaaDoorTie
import Derived.Test.YtaeelanbkdkppaaDoorCards
import Derived.SizedLaws
/-
  MorphismCompose. Printed by mkl6.py.
-/
namespace Go.Proofs.YtaeelanbkdkppaaDoor
open Go.RowKit Go.Shelf

set_option maxRecDepth 100000 in
set_option maxHeartbeats 4000000 in
theorem lawCompose (a : Gr) (An : Option Addr) (cn : Nat) (Ae : Option Addr) (ce : Nat) (x y : Ar) (w : World) (h00 : 0 < w.heap.size) (hT : TabW w) (hTa : GrAt w An cn Ae ce a) (hx : ArAt w x) (hy : ArAt w y) :
    Calls Tryd.prog 5 #[gval An a.ns.length cn Ae a.es.length ce, x.val, y.val] w fun e w' => e = .returned (.bool true) ∧ Below w.heap.size w w' := by
  have HAW := Lib.hid (awk h00 hT)
  have HFW := Lib.hid (fun (u : World) (hu : Below w.heap.size w u) k c (hB : ArsAt u k [x, y]) => fewL_any a [x, y] An cn Ae ce k c u (by simp) (hTa.up hu) (fun z hz => by
    rcases List.mem_cons.1 hz with rfl | hz
    · exact hx.up hu
    · rw [List.mem_singleton.1 hz]; exact hy.up hu) hB)
  have HQ : Hid (∀ h : ([x, y].all fewA && fewB a) = true, (x.m.ns.length ≤ 1000 ∧ x.m.es.length ≤ 1000) ∧ (y.m.ns.length ≤ 1000 ∧ y.m.es.length ≤ 1000)) := Lib.hid fun h => by
    simp at h
    exact ⟨fewA_len h.1.1, fewA_len h.1.2⟩
  generalize ([x, y].all fewA && fewB a) = Q at *
  have HARS := Lib.hid (fun (W : World) => ars_two W x y 29)
  obtain ⟨b, m, Bn, dn, Be, de, Mn, mn, Me, me⟩ := x
  obtain ⟨hTb, hm1, hm2, -, -⟩ := hx
  obtain ⟨c, n, Cn, kn, Ce, ke, Nn, nn, Ne, ne⟩ := y
  obtain ⟨hTc, hn1, hn2, -, -⟩ := hy
  dsimp only [Ar.val] at *
  have HCM := Lib.hid (fun (l1 : m.ns.length ≤ 1000) (l2 : m.es.length ≤ 1000) (k1 : n.ns.length ≤ 1000) (k2 : n.es.length ≤ 1000) (u : World) (hu : Below w.heap.size w u) Xn xn Xe xe (r1 : Ints u u.heap.size Xn m.ns) (r2 : Ints u u.heap.size Xe m.es) Yn yn Ye ye (s1 : Ints u u.heap.size Yn n.ns) (s2 : Ints u u.heap.size Ye n.es) => givesM (composeM_any a b c m n An cn Ae ce Bn dn Be de Cn kn Ce ke Xn xn Xe xe Yn yn Ye ye u (hTa.up hu) (hTb.up hu) (hTc.up hu) r1 r2 l1 l2 s1 s2 k1 k2))
  have HCR := Lib.hid (fun (l1 : m.ns.length ≤ 1000) (l2 : m.es.length ≤ 1000) (k1 : n.ns.length ≤ 1000) (k2 : n.es.length ≤ 1000) (u : World) (hu : Below w.heap.size w u) => givesM (composeR_any a b c m n An cn Ae ce Bn dn Be de Cn kn Ce ke Mn mn Me me Nn nn Ne ne u (hTa.up hu) (hTb.up hu) (hTc.up hu) (Reads.up hm1 hu) (Reads.up hm2 hu) l1 l2 (Reads.up hn1 hu) (Reads.up hn2 hu) k1 k2))
  have HC1 := Lib.hid (fun (l1 : m.ns.length ≤ 1000) (l2 : m.es.length ≤ 1000) (u : World) (hu : Below w.heap.size w u) => copied2 m Mn mn Me me u (Reads.up hm1 hu) (Reads.up hm2 hu) l1 l2)
  have HC2 := Lib.hid (fun (l1 : n.ns.length ≤ 1000) (l2 : n.es.length ≤ 1000) (u : World) (hu : Below w.heap.size w u) => copied2 n Nn nn Ne ne u (Reads.up hn1 hu) (Reads.up hn2 hu) l1 l2)
  have HS0 : Hid (SV w [([.slice An a.ns.length cn, .slice Ae a.es.length ce], 25), ([.slice Bn b.ns.length dn, .slice Be b.es.length de, .slice Mn m.ns.length mn, .slice Me m.es.length me], 29), ([.slice Cn c.ns.length kn, .slice Ce c.es.length ke, .slice Nn n.ns.length nn, .slice Ne n.es.length ne], 29)] _) := Lib.hid (SV.push (SV.push (SV.push (SV.nil w) rfl [.slice An a.ns.length cn, .slice Ae a.es.length ce] 25) (by simp) [.slice Bn b.ns.length dn, .slice Be b.es.length de, .slice Mn m.ns.length mn, .slice Me m.es.length me] 29) (by simp) [.slice Cn c.ns.length kn, .slice Ce c.es.length ke, .slice Nn n.ns.length nn, .slice Ne n.es.length ne] 29)
  clear hT h00 hTa hTb hTc hm1 hm2 hn1 hn2
  generalize cmpR a b c m n = R at *
  generalize cmpE a b c m n = E at *
  go_enter Tryd.func5, Tryd.ntmps5
  go_wp2_with fail
  refine (HAW.out _ HS0.out.1).mono ?_
  rintro e w1 ⟨rfl, hb1⟩
  have HS1 := Lib.hid (HS0.out.up hb1)
  clear hb1 HS0
  have c0 := HS1.out.cell (i := 0) (j := 0) rfl rfl
  have c1 := HS1.out.cell (i := 0) (j := 1) rfl rfl
  simp only [Nat.add_zero] at c0 c1
  have d0 := HS1.out.cell (i := 1) (j := 0) rfl rfl
  have d1 := HS1.out.cell (i := 1) (j := 1) rfl rfl
  have d2 := HS1.out.cell (i := 1) (j := 2) rfl rfl
  have d3 := HS1.out.cell (i := 1) (j := 3) rfl rfl
  have e0 := HS1.out.cell (i := 2) (j := 0) rfl rfl
  have e1 := HS1.out.cell (i := 2) (j := 1) rfl rfl
  have e2 := HS1.out.cell (i := 2) (j := 2) rfl rfl
  have e3 := HS1.out.cell (i := 2) (j := 3) rfl rfl
  go_wp2_with fail
  have hb0 : Below w1.heap.size w1 (w1.alloc (.cells #[.slice Bn b.ns.length dn, .slice Be b.es.length de, .slice Mn m.ns.length mn, .slice Me m.es.length me, .slice Cn c.ns.length kn, .slice Ce c.es.length ke, .slice Nn n.ns.length nn, .slice Ne n.es.length ne] 29)) := (Below.refl _ _).alloc (Nat.le_refl _) _
  refine (HFW.out _ (HS1.out.1.trans (hb0.mono HS1.out.1.size)) _ 2 (HARS.out w1)).mono ?_
  rintro e w2 ⟨rfl, hb2⟩
  have HS2 := Lib.hid (HS1.out.up (hb0.trans (hb2.mono hb0.size)))
  clear hb0 hb2 HS1 c0 c1 d0 d1 d2 d3 e0 e1 e2 e3
  cases hQ : Q
  · clear hQ
    go_wp2_with fail
    refine (HAW.out _ HS2.out.1).mono ?_
    rintro e w3 ⟨rfl, hb3⟩
    go_wp2_with fail
    go_ret
    exact ⟨rfl, HS2.out.1.trans (hb3.mono HS2.out.1.size)⟩
  obtain ⟨⟨l1, l2⟩, k1, k2⟩ := HQ.out hQ
  have HCM := Lib.hid (HCM.out l1 l2 k1 k2)
  have HCR := Lib.hid (HCR.out l1 l2 k1 k2)
  have HC1 := Lib.hid (HC1.out l1 l2)
  have HC2 := Lib.hid (HC2.out k1 k2)
  clear hQ HQ l1 l2 k1 k2 HAW HFW HARS
  go_upto_region 3 with fail
  go_cut [7, 8] (fun u v wc => ∃ gx Xn xn Xe xe, u = .pointer (some ⟨gx, 0, none⟩) ∧ v = .int .i64 (E : Nat) ∧ BX gx (.slice Xn R.ns.length xn) (.slice Xe R.es.length xe) 27 wc ∧ Ints wc wc.heap.size Xn R.ns ∧ Ints wc wc.heap.size Xe R.es ∧ R2 R ∧ SV w [([.slice An a.ns.length cn, .slice Ae a.es.length ce], 25), ([.slice Bn b.ns.length dn, .slice Be b.es.length de, .slice Mn m.ns.length mn, .slice Me m.es.length me], 29), ([.slice Cn c.ns.length kn, .slice Ce c.es.length ke, .slice Nn n.ns.length nn, .slice Ne n.es.length ne], 29)] wc)
  case first =>
    go_wp2_with fail
    have SV_wd := Lib.hid (HS2.out.up (below_d w2))
    clear HS2
    have q0 : w2.drew.cell? ⟨w.heap.size, 0, none⟩ = some (.slice An a.ns.length cn) := SV_wd.out.cell (i := 0) (j := 0) rfl rfl
    have q1 : w2.drew.cell? ⟨w.heap.size, 1, none⟩ = some (.slice Ae a.es.length ce) := SV_wd.out.cell (i := 0) (j := 1) rfl rfl
    have q2 : w2.drew.cell? ⟨w.heap.size + 1, 0, none⟩ = some (.slice Bn b.ns.length dn) := SV_wd.out.cell (i := 1) (j := 0) rfl rfl
    have q3 : w2.drew.cell? ⟨w.heap.size + 1, 1, none⟩ = some (.slice Be b.es.length de) := SV_wd.out.cell (i := 1) (j := 1) rfl rfl
    have q4 : w2.drew.cell? ⟨w.heap.size + 1, 2, none⟩ = some (.slice Mn m.ns.length mn) := SV_wd.out.cell (i := 1) (j := 2) rfl rfl
    have q5 : w2.drew.cell? ⟨w.heap.size + 1, 3, none⟩ = some (.slice Me m.es.length me) := SV_wd.out.cell (i := 1) (j := 3) rfl rfl
    have q6 : w2.drew.cell? ⟨w.heap.size + 1 + 1, 0, none⟩ = some (.slice Cn c.ns.length kn) := SV_wd.out.cell (i := 2) (j := 0) rfl rfl
    have q7 : w2.drew.cell? ⟨w.heap.size + 1 + 1, 1, none⟩ = some (.slice Ce c.es.length ke) := SV_wd.out.cell (i := 2) (j := 1) rfl rfl
    have q8 : w2.drew.cell? ⟨w.heap.size + 1 + 1, 2, none⟩ = some (.slice Nn n.ns.length nn) := SV_wd.out.cell (i := 2) (j := 2) rfl rfl
    have q9 : w2.drew.cell? ⟨w.heap.size + 1 + 1, 3, none⟩ = some (.slice Ne n.es.length ne) := SV_wd.out.cell (i := 2) (j := 3) rfl rfl
    have HM_wd : Hid (∀ u, Below w2.drew.heap.size w2.drew u → (fun u : World => u.cell? ⟨w.heap.size, 0, none⟩ = some (.slice An a.ns.length cn) ∧ u.cell? ⟨w.heap.size, 1, none⟩ = some (.slice Ae a.es.length ce) ∧ u.cell? ⟨w.heap.size + 1, 0, none⟩ = some (.slice Bn b.ns.length dn) ∧ u.cell? ⟨w.heap.size + 1, 1, none⟩ = some (.slice Be b.es.length de) ∧ u.cell? ⟨w.heap.size + 1, 2, none⟩ = some (.slice Mn m.ns.length mn) ∧ u.cell? ⟨w.heap.size + 1, 3, none⟩ = some (.slice Me m.es.length me) ∧ u.cell? ⟨w.heap.size + 1 + 1, 0, none⟩ = some (.slice Cn c.ns.length kn) ∧ u.cell? ⟨w.heap.size + 1 + 1, 1, none⟩ = some (.slice Ce c.es.length ke) ∧ u.cell? ⟨w.heap.size + 1 + 1, 2, none⟩ = some (.slice Nn n.ns.length nn) ∧ u.cell? ⟨w.heap.size + 1 + 1, 3, none⟩ = some (.slice Ne n.es.length ne)) u) := Lib.hid fun u hb => ⟨cell_up hb q0, cell_up hb q1, cell_up hb q2, cell_up hb q3, cell_up hb q4, cell_up hb q5, cell_up hb q6, cell_up hb q7, cell_up hb q8, cell_up hb q9⟩
    clear q0 q1 q2 q3 q4 q5 q6 q7 q8 q9
    have WD_wd := Lib.hid (Below.refl w2.drew.heap.size w2.drew)
    refine wp_region_noPanic ?_
    refine wp_region_held_drew (S := (fun u : World => u.cell? ⟨w.heap.size, 0, none⟩ = some (.slice An a.ns.length cn) ∧ u.cell? ⟨w.heap.size, 1, none⟩ = some (.slice Ae a.es.length ce) ∧ u.cell? ⟨w.heap.size + 1, 0, none⟩ = some (.slice Bn b.ns.length dn) ∧ u.cell? ⟨w.heap.size + 1, 1, none⟩ = some (.slice Be b.es.length de) ∧ u.cell? ⟨w.heap.size + 1, 2, none⟩ = some (.slice Mn m.ns.length mn) ∧ u.cell? ⟨w.heap.size + 1, 3, none⟩ = some (.slice Me m.es.length me) ∧ u.cell? ⟨w.heap.size + 1 + 1, 0, none⟩ = some (.slice Cn c.ns.length kn) ∧ u.cell? ⟨w.heap.size + 1 + 1, 1, none⟩ = some (.slice Ce c.es.length ke) ∧ u.cell? ⟨w.heap.size + 1 + 1, 2, none⟩ = some (.slice Nn n.ns.length nn) ∧ u.cell? ⟨w.heap.size + 1 + 1, 3, none⟩ = some (.slice Ne n.es.length ne))) (by kernel_rfl) (HM_wd.out _ WD_wd.out) (fun hHeld => ?_)
    generalize w2.drew = wd at *
    have lsv : w.heap.size + 3 ≤ wd.heap.size := SV_wd.out.2.1
    refine wpAnyH_take (i := 0) (v := ?_) (oper_at (r := _) rfl) (by kernel_rfl) (by kernel_rfl) (by kernel_rfl) (fun _ _ _ h => h) (Or.inl ⟨by rfl, ?_⟩) (by assumption) ?_
    rotate_left
    · intro w hSw; try dsimp only at hSw
      go_simp
      try with_reducible rfl
    try simp only [Act.put, List.setIfInBounds_toArray, List.set_cons_zero, List.set_cons_succ]
    refine wpAnyH_take (i := 1) (v := ?_) (oper_at (r := _) rfl) (by kernel_rfl) (by kernel_rfl) (by kernel_rfl) (fun _ _ _ h => h) (Or.inl ⟨by rfl, ?_⟩) (by assumption) ?_
    rotate_left
    · intro w hSw; try dsimp only at hSw
      go_simp
      try with_reducible rfl
    try simp only [Act.put, List.setIfInBounds_toArray, List.set_cons_zero, List.set_cons_succ]
    refine wpAnyH_take (i := 2) (v := ?_) (oper_at (r := _) rfl) (by kernel_rfl) (by kernel_rfl) (by kernel_rfl) (fun _ _ _ h => h) (Or.inl ⟨by rfl, ?_⟩) (by assumption) ?_
    rotate_left
    · intro w hSw; try dsimp only at hSw
      go_simp
      try with_reducible rfl
    try simp only [Act.put, List.setIfInBounds_toArray, List.set_cons_zero, List.set_cons_succ]
    refine wpAnyH_take (i := 3) (v := ?_) (oper_at (r := _) rfl) (by kernel_rfl) (by kernel_rfl) (by kernel_rfl) (fun _ _ _ h => h) (Or.inl ⟨by rfl, ?_⟩) (by assumption) ?_
    rotate_left
    · intro w hSw; try dsimp only at hSw
      go_simp
      try with_reducible rfl
    try simp only [Act.put, List.setIfInBounds_toArray, List.set_cons_zero, List.set_cons_succ]
    refine wpAnyH_take (i := 4) (v := ?_) (oper_at (r := _) rfl) (by kernel_rfl) (by kernel_rfl) (by kernel_rfl) (fun _ _ _ h => h) (Or.inl ⟨by rfl, ?_⟩) (by assumption) ?_
    rotate_left
    · intro w hSw; try dsimp only at hSw
      go_simp
      try with_reducible rfl
    try simp only [Act.put, List.setIfInBounds_toArray, List.set_cons_zero, List.set_cons_succ]
    refine wpAnyH_take (i := 5) (v := ?_) (oper_at (r := _) rfl) (by kernel_rfl) (by kernel_rfl) (by kernel_rfl) (fun _ _ _ h => h) (Or.inl ⟨by rfl, ?_⟩) (by assumption) ?_
    rotate_left
    · intro w hSw; try dsimp only at hSw
      go_simp
      try with_reducible rfl
    try simp only [Act.put, List.setIfInBounds_toArray, List.set_cons_zero, List.set_cons_succ]
    refine wpAnyH_take (i := 6) (v := ?_) (oper_at (r := _) rfl) (by kernel_rfl) (by kernel_rfl) (by kernel_rfl) (fun _ _ _ h => h) (Or.inl ⟨by rfl, ?_⟩) (by assumption) ?_
    rotate_left
    · intro w hSw; try dsimp only at hSw
      go_simp
      try with_reducible rfl
    try simp only [Act.put, List.setIfInBounds_toArray, List.set_cons_zero, List.set_cons_succ]
    refine wpAnyH_take (i := 8) (v := ?_) (oper_at (r := _) rfl) (by kernel_rfl) (by kernel_rfl) (by kernel_rfl) (fun _ _ _ h => h) (Or.inl ⟨by rfl, ?_⟩) (by assumption) ?_
    rotate_left
    · intro w hSw; try dsimp only at hSw
      go_simp
      try with_reducible rfl
    try simp only [Act.put, List.setIfInBounds_toArray, List.set_cons_zero, List.set_cons_succ]
    refine wpAnyH_take (i := 9) (v := ?_) (oper_at (r := _) rfl) (by kernel_rfl) (by kernel_rfl) (by kernel_rfl) (fun _ _ _ h => h) (Or.inl ⟨by rfl, ?_⟩) (by assumption) ?_
    rotate_left
    · intro w hSw; try dsimp only at hSw
      go_simp
      try with_reducible rfl
    try simp only [Act.put, List.setIfInBounds_toArray, List.set_cons_zero, List.set_cons_succ]
    refine wpAnyH_ready (rs := [7, 15]) (by kernel_rfl) (by simp) ?_
    refine (AllReadyH.cons (oper_at (r := _) rfl) (fun K hK => ?_) (AllReadyH.cons (oper_at (r := _) rfl) (fun K hK => ?_) AllReadyH.nil))
    · skip
      go_simp
      refine (HC1.out _ SV_wd.out.1).mono ?_
      rintro e W1 ⟨⟨X1, x1, Y1, y1, rfl, r1, r2⟩, hb⟩
      have SV_W1 := Lib.hid (SV_wd.out.up hb)
      have WD_W1 := Lib.hid (WD_wd.out.trans (hb.mono WD_wd.out.size))
      clear SV_wd WD_wd
      have R1_W1 := Lib.hid r1
      have R2_W1 := Lib.hid r2
      clear hb r1 r2
      go_wp2_with fail
      refine hK.out _ _ (HM_wd.out _ WD_W1.out) (fun _ => ?_)
      clear hK K
      try simp only [Act.put, List.setIfInBounds_toArray, List.set_cons_zero, List.set_cons_succ]
      refine wpAnyH_ready (rs := [10, 15]) (by kernel_rfl) (by simp) ?_
      refine (AllReadyH.cons (oper_at (r := _) rfl) (fun K hK => ?_) (AllReadyH.cons (oper_at (r := _) rfl) (fun K hK => ?_) AllReadyH.nil))
      · skip
        go_simp
        refine (HC2.out _ SV_W1.out.1).mono ?_
        rintro e W2 ⟨⟨X2, x2, Y2, y2, rfl, r1, r2⟩, hb⟩
        have SV_W2 := Lib.hid (SV_W1.out.up hb)
        have WD_W2 := Lib.hid (WD_W1.out.trans (hb.mono WD_W1.out.size))
        have R1_W2 := Lib.hid (Reads.up R1_W1.out hb)
        have R2_W2 := Lib.hid (Reads.up R2_W1.out hb)
        clear SV_W1 WD_W1 R1_W1 R2_W1
        have R3_W2 := Lib.hid r1
        have R4_W2 := Lib.hid r2
        clear hb r1 r2
        go_wp2_with fail
        refine hK.out _ _ (HM_wd.out _ WD_W2.out) (fun _ => ?_)
        clear hK K
        try simp only [Act.put, List.setIfInBounds_toArray, List.set_cons_zero, List.set_cons_succ]
        refine wpAnyH_ready (rs := [11, 15]) (by kernel_rfl) (by simp) ?_
        refine (AllReadyH.cons (oper_at (r := _) rfl) (fun K hK => ?_) (AllReadyH.cons (oper_at (r := _) rfl) (fun K hK => ?_) AllReadyH.nil))
        · skip
          go_simp
          refine (HCM.out _ SV_W2.out.1 X1 x1 Y1 y1 R1_W2.out R2_W2.out X2 x2 Y2 y2 R3_W2.out R4_W2.out).mono ?_
          rintro e W3 ⟨⟨X3, x3, Y3, y3, rfl, r1, r2, r3, r4⟩, hb⟩
          have SV_W3 := Lib.hid (SV_W2.out.up hb)
          have WD_W3 := Lib.hid (WD_W2.out.trans (hb.mono WD_W2.out.size))
          have R1_W3 := Lib.hid (Reads.up R1_W2.out hb)
          have R2_W3 := Lib.hid (Reads.up R2_W2.out hb)
          have R3_W3 := Lib.hid (Reads.up R3_W2.out hb)
          have R4_W3 := Lib.hid (Reads.up R4_W2.out hb)
          clear SV_W2 WD_W2 R1_W2 R2_W2 R3_W2 R4_W2
          have R5_W3 := Lib.hid r1
          have R6_W3 := Lib.hid r2
          have LN_W3 := Lib.hid (And.intro r3 r4)
          clear hb r1 r2
          go_wp2_with fail
          refine hK.out _ _ (HM_wd.out _ WD_W3.out) (fun _ => ?_)
          clear hK K
          try simp only [Act.put, List.setIfInBounds_toArray, List.set_cons_zero, List.set_cons_succ]
          clear r3 r4
          refine wpAnyH_take (i := 12) (v := ?_) (oper_at (r := _) rfl) (by kernel_rfl) (by kernel_rfl) (by kernel_rfl) (fun _ _ _ h => h) (Or.inl ⟨by rfl, ?_⟩) (by assumption) ?_
          rotate_left
          · intro w hSw; try dsimp only at hSw
            go_simp
            try with_reducible rfl
          try simp only [Act.put, List.setIfInBounds_toArray, List.set_cons_zero, List.set_cons_succ]
          refine wpAnyH_take (i := 13) (v := ?_) (oper_at (r := _) rfl) (by kernel_rfl) (by kernel_rfl) (by kernel_rfl) (fun _ _ _ h => h) (Or.inl ⟨by rfl, ?_⟩) (by assumption) ?_
          rotate_left
          · intro w hSw; try dsimp only at hSw
            go_simp
            try with_reducible rfl
          try simp only [Act.put, List.setIfInBounds_toArray, List.set_cons_zero, List.set_cons_succ]
          refine wpAnyH_take (i := 14) (v := ?_) (oper_at (r := _) rfl) (by kernel_rfl) (by kernel_rfl) (by kernel_rfl) (fun _ _ _ h => h) (Or.inl ⟨by rfl, ?_⟩) (by assumption) ?_
          rotate_left
          · intro w hSw; try dsimp only at hSw
            go_simp
            try with_reducible rfl
          try simp only [Act.put, List.setIfInBounds_toArray, List.set_cons_zero, List.set_cons_succ]
          refine wpAnyH_ready (rs := [15]) (by kernel_rfl) (by simp) ?_
          refine AllReadyH.cons (oper_at (r := _) rfl) (fun K hK => ?_) AllReadyH.nil
          obtain ⟨gx, hg⟩ : ∃ g, g = W3.heap.size := ⟨_, rfl⟩
          have lgx : wd.heap.size ≤ gx := by rw [hg]; exact WD_W3.out.size
          have hx : BX gx (.slice none 0 0) (.slice none 0 0) 27 (W3.alloc (.cells #[.slice none 0 0, .slice none 0 0] 27)) := by rw [hg]; exact heap_alloc_new _ _
          have hb : Below W3.heap.size W3 (W3.alloc (.cells #[.slice none 0 0, .slice none 0 0] 27)) := (Below.refl _ _).alloc (Nat.le_refl _) _
          have SV_W4 := Lib.hid (SV_W3.out.up hb)
          have WD_W4 := Lib.hid (WD_W3.out.trans (hb.mono WD_W3.out.size))
          have R5_W4 := Lib.hid (Reads.up R5_W3.out hb)
          have R6_W4 := Lib.hid (Reads.up R6_W3.out hb)
          have LN_W4 := Lib.hid (LN_W3.out)
          clear SV_W3 WD_W3 R5_W3 R6_W3 LN_W3
          have B_W4 := Lib.hid hx
          clear hx hb
          go_simp
          refine hK.out _ _ (HM_wd.out _ WD_W4.out) (fun _ => ?_)
          clear hK K
          try simp only [Act.put, List.setIfInBounds_toArray, List.set_cons_zero, List.set_cons_succ]
          generalize W3.alloc (.cells #[.slice none 0 0, .slice none 0 0] 27) = W4 at *
          try rw [← hg]
          clear hg
          refine wpAnyH_ready (rs := [16]) (by kernel_rfl) (by simp) ?_
          refine AllReadyH.cons (oper_at (r := _) rfl) (fun K hK => ?_) AllReadyH.nil
          have fr0 := B_W4.out.free 0
          have fr1 := B_W4.out.free 1
          obtain ⟨e0, e1⟩ := B_W4.out.cells
          go_simp
          clear fr0 fr1 e0 e1
          have SV_W5 := Lib.hid (SV_W4.out.set (g := gx) (by simp; omega) (.slice X3 R.ns.length x3) (.slice Y3 R.es.length y3))
          have WD_W5 := Lib.hid ((WD_W4.out.setCell (p := ⟨gx, 0, none⟩) (by show wd.heap.size ≤ gx; omega) (.slice X3 R.ns.length x3)).setCell (p := ⟨gx, 1, none⟩) (by show wd.heap.size ≤ gx; omega) (.slice Y3 R.es.length y3))
          have R5_W5 := Lib.hid (ints_set' R5_W4.out B_W4.out (.slice X3 R.ns.length x3) (.slice Y3 R.es.length y3))
          have R6_W5 := Lib.hid (ints_set' R6_W4.out B_W4.out (.slice X3 R.ns.length x3) (.slice Y3 R.es.length y3))
          have LN_W5 := Lib.hid (LN_W4.out)
          have B_W5 := Lib.hid (B_W4.out.put (.slice X3 R.ns.length x3) (.slice Y3 R.es.length y3))
          clear SV_W4 WD_W4 R5_W4 R6_W4 LN_W4 B_W4
          refine hK.out _ _ (HM_wd.out _ WD_W5.out) (fun _ => ?_)
          clear hK K
          try simp only [Act.put, List.setIfInBounds_toArray, List.set_cons_zero, List.set_cons_succ]
          generalize (W4.setCell ⟨gx, 0, none⟩ (.slice X3 R.ns.length x3)).setCell ⟨gx, 1, none⟩ (.slice Y3 R.es.length y3) = W5 at *
          refine wpAnyH_take (i := 17) (v := ?_) (oper_at (r := _) rfl) (by kernel_rfl) (by kernel_rfl) (by kernel_rfl) (fun _ _ _ h => h) (Or.inl ⟨by rfl, ?_⟩) (by assumption) ?_
          rotate_left
          · intro w hSw; try dsimp only at hSw
            go_simp
            try with_reducible rfl
          try simp only [Act.put, List.setIfInBounds_toArray, List.set_cons_zero, List.set_cons_succ]
          refine wpAnyH_done (by kernel_rfl) ?_ _
          refine NoPanic.normal ?_
          go_wp2_with fail
          go_meet
          exact ⟨gx, X3, x3, Y3, y3, rfl, rfl, B_W5.out, R5_W5.out, R6_W5.out, LN_W5.out, SV_W5.out⟩
        · skip
          obtain ⟨gx, hg⟩ : ∃ g, g = W2.heap.size := ⟨_, rfl⟩
          have lgx : wd.heap.size ≤ gx := by rw [hg]; exact WD_W2.out.size
          have hx : BX gx (.slice none 0 0) (.slice none 0 0) 27 (W2.alloc (.cells #[.slice none 0 0, .slice none 0 0] 27)) := by rw [hg]; exact heap_alloc_new _ _
          have hb : Below W2.heap.size W2 (W2.alloc (.cells #[.slice none 0 0, .slice none 0 0] 27)) := (Below.refl _ _).alloc (Nat.le_refl _) _
          have SV_W6 := Lib.hid (SV_W2.out.up hb)
          have WD_W6 := Lib.hid (WD_W2.out.trans (hb.mono WD_W2.out.size))
          have R1_W6 := Lib.hid (Reads.up R1_W2.out hb)
          have R2_W6 := Lib.hid (Reads.up R2_W2.out hb)
          have R3_W6 := Lib.hid (Reads.up R3_W2.out hb)
          have R4_W6 := Lib.hid (Reads.up R4_W2.out hb)
          clear SV_W2 WD_W2 R1_W2 R2_W2 R3_W2 R4_W2
          have B_W6 := Lib.hid hx
          clear hx hb
          go_simp
          refine hK.out _ _ (HM_wd.out _ WD_W6.out) (fun _ => ?_)
          clear hK K
          try simp only [Act.put, List.setIfInBounds_toArray, List.set_cons_zero, List.set_cons_succ]
          generalize W2.alloc (.cells #[.slice none 0 0, .slice none 0 0] 27) = W6 at *
          try rw [← hg]
          clear hg
          refine wpAnyH_ready (rs := [11]) (by kernel_rfl) (by simp) ?_
          refine AllReadyH.cons (oper_at (r := _) rfl) (fun K hK => ?_) AllReadyH.nil
          go_simp
          refine (HCM.out _ SV_W6.out.1 X1 x1 Y1 y1 R1_W6.out R2_W6.out X2 x2 Y2 y2 R3_W6.out R4_W6.out).mono ?_
          rintro e W7 ⟨⟨X3, x3, Y3, y3, rfl, r1, r2, r3, r4⟩, hb⟩
          have SV_W7 := Lib.hid (SV_W6.out.up hb)
          have WD_W7 := Lib.hid (WD_W6.out.trans (hb.mono WD_W6.out.size))
          have R1_W7 := Lib.hid (Reads.up R1_W6.out hb)
          have R2_W7 := Lib.hid (Reads.up R2_W6.out hb)
          have R3_W7 := Lib.hid (Reads.up R3_W6.out hb)
          have R4_W7 := Lib.hid (Reads.up R4_W6.out hb)
          have B_W7 := Lib.hid (B_W6.out.up hb)
          clear SV_W6 WD_W6 R1_W6 R2_W6 R3_W6 R4_W6 B_W6
          have R5_W7 := Lib.hid r1
          have R6_W7 := Lib.hid r2
          have LN_W7 := Lib.hid (And.intro r3 r4)
          clear hb r1 r2
          go_wp2_with fail
          refine hK.out _ _ (HM_wd.out _ WD_W7.out) (fun _ => ?_)
          clear hK K
          try simp only [Act.put, List.setIfInBounds_toArray, List.set_cons_zero, List.set_cons_succ]
          clear r3 r4
          refine wpAnyH_take (i := 12) (v := ?_) (oper_at (r := _) rfl) (by kernel_rfl) (by kernel_rfl) (by kernel_rfl) (fun _ _ _ h => h) (Or.inl ⟨by rfl, ?_⟩) (by assumption) ?_
          rotate_left
          · intro w hSw; try dsimp only at hSw
            go_simp
            try with_reducible rfl
          try simp only [Act.put, List.setIfInBounds_toArray, List.set_cons_zero, List.set_cons_succ]
          refine wpAnyH_take (i := 13) (v := ?_) (oper_at (r := _) rfl) (by kernel_rfl) (by kernel_rfl) (by kernel_rfl) (fun _ _ _ h => h) (Or.inl ⟨by rfl, ?_⟩) (by assumption) ?_
          rotate_left
          · intro w hSw; try dsimp only at hSw
            go_simp
            try with_reducible rfl
          try simp only [Act.put, List.setIfInBounds_toArray, List.set_cons_zero, List.set_cons_succ]
          refine wpAnyH_take (i := 14) (v := ?_) (oper_at (r := _) rfl) (by kernel_rfl) (by kernel_rfl) (by kernel_rfl) (fun _ _ _ h => h) (Or.inl ⟨by rfl, ?_⟩) (by assumption) ?_
          rotate_left
          · intro w hSw; try dsimp only at hSw
            go_simp
            try with_reducible rfl
          try simp only [Act.put, List.setIfInBounds_toArray, List.set_cons_zero, List.set_cons_succ]
          refine wpAnyH_ready (rs := [16]) (by kernel_rfl) (by simp) ?_
          refine AllReadyH.cons (oper_at (r := _) rfl) (fun K hK => ?_) AllReadyH.nil
          have fr0 := B_W7.out.free 0
          have fr1 := B_W7.out.free 1
          obtain ⟨e0, e1⟩ := B_W7.out.cells
          go_simp
          clear fr0 fr1 e0 e1
          have SV_W8 := Lib.hid (SV_W7.out.set (g := gx) (by simp; omega) (.slice X3 R.ns.length x3) (.slice Y3 R.es.length y3))
          have WD_W8 := Lib.hid ((WD_W7.out.setCell (p := ⟨gx, 0, none⟩) (by show wd.heap.size ≤ gx; omega) (.slice X3 R.ns.length x3)).setCell (p := ⟨gx, 1, none⟩) (by show wd.heap.size ≤ gx; omega) (.slice Y3 R.es.length y3))
          have B_W8 := Lib.hid (B_W7.out.put (.slice X3 R.ns.length x3) (.slice Y3 R.es.length y3))
          have R5_W8 := Lib.hid (ints_set' R5_W7.out B_W7.out (.slice X3 R.ns.length x3) (.slice Y3 R.es.length y3))
          have R6_W8 := Lib.hid (ints_set' R6_W7.out B_W7.out (.slice X3 R.ns.length x3) (.slice Y3 R.es.length y3))
          have LN_W8 := Lib.hid (LN_W7.out)
          clear SV_W7 WD_W7 B_W7 R5_W7 R6_W7 LN_W7
          refine hK.out _ _ (HM_wd.out _ WD_W8.out) (fun _ => ?_)
          clear hK K
          try simp only [Act.put, List.setIfInBounds_toArray, List.set_cons_zero, List.set_cons_succ]
          generalize (W7.setCell ⟨gx, 0, none⟩ (.slice X3 R.ns.length x3)).setCell ⟨gx, 1, none⟩ (.slice Y3 R.es.length y3) = W8 at *
          refine wpAnyH_take (i := 17) (v := ?_) (oper_at (r := _) rfl) (by kernel_rfl) (by kernel_rfl) (by kernel_rfl) (fun _ _ _ h => h) (Or.inl ⟨by rfl, ?_⟩) (by assumption) ?_
          rotate_left
          · intro w hSw; try dsimp only at hSw
            go_simp
            try with_reducible rfl
          try simp only [Act.put, List.setIfInBounds_toArray, List.set_cons_zero, List.set_cons_succ]
          refine wpAnyH_done (by kernel_rfl) ?_ _
          refine NoPanic.normal ?_
          go_wp2_with fail
          go_meet
          exact ⟨gx, X3, x3, Y3, y3, rfl, rfl, B_W8.out, R5_W8.out, R6_W8.out, LN_W8.out, SV_W8.out⟩
      · skip
        obtain ⟨gx, hg⟩ : ∃ g, g = W1.heap.size := ⟨_, rfl⟩
        have lgx : wd.heap.size ≤ gx := by rw [hg]; exact WD_W1.out.size
        have hx : BX gx (.slice none 0 0) (.slice none 0 0) 27 (W1.alloc (.cells #[.slice none 0 0, .slice none 0 0] 27)) := by rw [hg]; exact heap_alloc_new _ _
        have hb : Below W1.heap.size W1 (W1.alloc (.cells #[.slice none 0 0, .slice none 0 0] 27)) := (Below.refl _ _).alloc (Nat.le_refl _) _
        have SV_W9 := Lib.hid (SV_W1.out.up hb)
        have WD_W9 := Lib.hid (WD_W1.out.trans (hb.mono WD_W1.out.size))
        have R1_W9 := Lib.hid (Reads.up R1_W1.out hb)
        have R2_W9 := Lib.hid (Reads.up R2_W1.out hb)
        clear SV_W1 WD_W1 R1_W1 R2_W1
        have B_W9 := Lib.hid hx
        clear hx hb
        go_simp
        refine hK.out _ _ (HM_wd.out _ WD_W9.out) (fun _ => ?_)
        clear hK K
        try simp only [Act.put, List.setIfInBounds_toArray, List.set_cons_zero, List.set_cons_succ]
        generalize W1.alloc (.cells #[.slice none 0 0, .slice none 0 0] 27) = W9 at *
        try rw [← hg]
        clear hg
        refine wpAnyH_ready (rs := [10]) (by kernel_rfl) (by simp) ?_
        refine AllReadyH.cons (oper_at (r := _) rfl) (fun K hK => ?_) AllReadyH.nil
        go_simp
        refine (HC2.out _ SV_W9.out.1).mono ?_
        rintro e W10 ⟨⟨X2, x2, Y2, y2, rfl, r1, r2⟩, hb⟩
        have SV_W10 := Lib.hid (SV_W9.out.up hb)
        have WD_W10 := Lib.hid (WD_W9.out.trans (hb.mono WD_W9.out.size))
        have R1_W10 := Lib.hid (Reads.up R1_W9.out hb)
        have R2_W10 := Lib.hid (Reads.up R2_W9.out hb)
        have B_W10 := Lib.hid (B_W9.out.up hb)
        clear SV_W9 WD_W9 R1_W9 R2_W9 B_W9
        have R3_W10 := Lib.hid r1
        have R4_W10 := Lib.hid r2
        clear hb r1 r2
        go_wp2_with fail
        refine hK.out _ _ (HM_wd.out _ WD_W10.out) (fun _ => ?_)
        clear hK K
        try simp only [Act.put, List.setIfInBounds_toArray, List.set_cons_zero, List.set_cons_succ]
        refine wpAnyH_ready (rs := [11]) (by kernel_rfl) (by simp) ?_
        refine AllReadyH.cons (oper_at (r := _) rfl) (fun K hK => ?_) AllReadyH.nil
        go_simp
        refine (HCM.out _ SV_W10.out.1 X1 x1 Y1 y1 R1_W10.out R2_W10.out X2 x2 Y2 y2 R3_W10.out R4_W10.out).mono ?_
        rintro e W11 ⟨⟨X3, x3, Y3, y3, rfl, r1, r2, r3, r4⟩, hb⟩
        have SV_W11 := Lib.hid (SV_W10.out.up hb)
        have WD_W11 := Lib.hid (WD_W10.out.trans (hb.mono WD_W10.out.size))
        have R1_W11 := Lib.hid (Reads.up R1_W10.out hb)
        have R2_W11 := Lib.hid (Reads.up R2_W10.out hb)
        have B_W11 := Lib.hid (B_W10.out.up hb)
        have R3_W11 := Lib.hid (Reads.up R3_W10.out hb)
        have R4_W11 := Lib.hid (Reads.up R4_W10.out hb)
        clear SV_W10 WD_W10 R1_W10 R2_W10 B_W10 R3_W10 R4_W10
        have R5_W11 := Lib.hid r1
        have R6_W11 := Lib.hid r2
        have LN_W11 := Lib.hid (And.intro r3 r4)
        clear hb r1 r2
        go_wp2_with fail
        refine hK.out _ _ (HM_wd.out _ WD_W11.out) (fun _ => ?_)
        clear hK K
        try simp only [Act.put, List.setIfInBounds_toArray, List.set_cons_zero, List.set_cons_succ]
        clear r3 r4
        refine wpAnyH_take (i := 12) (v := ?_) (oper_at (r := _) rfl) (by kernel_rfl) (by kernel_rfl) (by kernel_rfl) (fun _ _ _ h => h) (Or.inl ⟨by rfl, ?_⟩) (by assumption) ?_
        rotate_left
        · intro w hSw; try dsimp only at hSw
          go_simp
          try with_reducible rfl
        try simp only [Act.put, List.setIfInBounds_toArray, List.set_cons_zero, List.set_cons_succ]
        refine wpAnyH_take (i := 13) (v := ?_) (oper_at (r := _) rfl) (by kernel_rfl) (by kernel_rfl) (by kernel_rfl) (fun _ _ _ h => h) (Or.inl ⟨by rfl, ?_⟩) (by assumption) ?_
        rotate_left
        · intro w hSw; try dsimp only at hSw
          go_simp
          try with_reducible rfl
        try simp only [Act.put, List.setIfInBounds_toArray, List.set_cons_zero, List.set_cons_succ]
        refine wpAnyH_take (i := 14) (v := ?_) (oper_at (r := _) rfl) (by kernel_rfl) (by kernel_rfl) (by kernel_rfl) (fun _ _ _ h => h) (Or.inl ⟨by rfl, ?_⟩) (by assumption) ?_
        rotate_left
        · intro w hSw; try dsimp only at hSw
          go_simp
          try with_reducible rfl
        try simp only [Act.put, List.setIfInBounds_toArray, List.set_cons_zero, List.set_cons_succ]
        refine wpAnyH_ready (rs := [16]) (by kernel_rfl) (by simp) ?_
        refine AllReadyH.cons (oper_at (r := _) rfl) (fun K hK => ?_) AllReadyH.nil
        have fr0 := B_W11.out.free 0
        have fr1 := B_W11.out.free 1
        obtain ⟨e0, e1⟩ := B_W11.out.cells
        go_simp
        clear fr0 fr1 e0 e1
        have SV_W12 := Lib.hid (SV_W11.out.set (g := gx) (by simp; omega) (.slice X3 R.ns.length x3) (.slice Y3 R.es.length y3))
        have WD_W12 := Lib.hid ((WD_W11.out.setCell (p := ⟨gx, 0, none⟩) (by show wd.heap.size ≤ gx; omega) (.slice X3 R.ns.length x3)).setCell (p := ⟨gx, 1, none⟩) (by show wd.heap.size ≤ gx; omega) (.slice Y3 R.es.length y3))
        have B_W12 := Lib.hid (B_W11.out.put (.slice X3 R.ns.length x3) (.slice Y3 R.es.length y3))
        have R5_W12 := Lib.hid (ints_set' R5_W11.out B_W11.out (.slice X3 R.ns.length x3) (.slice Y3 R.es.length y3))
        have R6_W12 := Lib.hid (ints_set' R6_W11.out B_W11.out (.slice X3 R.ns.length x3) (.slice Y3 R.es.length y3))
        have LN_W12 := Lib.hid (LN_W11.out)
        clear SV_W11 WD_W11 B_W11 R5_W11 R6_W11 LN_W11
        refine hK.out _ _ (HM_wd.out _ WD_W12.out) (fun _ => ?_)
        clear hK K
        try simp only [Act.put, List.setIfInBounds_toArray, List.set_cons_zero, List.set_cons_succ]
        generalize (W11.setCell ⟨gx, 0, none⟩ (.slice X3 R.ns.length x3)).setCell ⟨gx, 1, none⟩ (.slice Y3 R.es.length y3) = W12 at *
        refine wpAnyH_take (i := 17) (v := ?_) (oper_at (r := _) rfl) (by kernel_rfl) (by kernel_rfl) (by kernel_rfl) (fun _ _ _ h => h) (Or.inl ⟨by rfl, ?_⟩) (by assumption) ?_
        rotate_left
        · intro w hSw; try dsimp only at hSw
          go_simp
          try with_reducible rfl
        try simp only [Act.put, List.setIfInBounds_toArray, List.set_cons_zero, List.set_cons_succ]
        refine wpAnyH_done (by kernel_rfl) ?_ _
        refine NoPanic.normal ?_
        go_wp2_with fail
        go_meet
        exact ⟨gx, X3, x3, Y3, y3, rfl, rfl, B_W12.out, R5_W12.out, R6_W12.out, LN_W12.out, SV_W12.out⟩
    · skip
      obtain ⟨gx, hg⟩ : ∃ g, g = wd.heap.size := ⟨_, rfl⟩
      have lgx : wd.heap.size ≤ gx := by rw [hg]; exact WD_wd.out.size
      have hx : BX gx (.slice none 0 0) (.slice none 0 0) 27 (wd.alloc (.cells #[.slice none 0 0, .slice none 0 0] 27)) := by rw [hg]; exact heap_alloc_new _ _
      have hb : Below wd.heap.size wd (wd.alloc (.cells #[.slice none 0 0, .slice none 0 0] 27)) := (Below.refl _ _).alloc (Nat.le_refl _) _
      have SV_W13 := Lib.hid (SV_wd.out.up hb)
      have WD_W13 := Lib.hid (WD_wd.out.trans (hb.mono WD_wd.out.size))
      clear SV_wd WD_wd
      have B_W13 := Lib.hid hx
      clear hx hb
      go_simp
      refine hK.out _ _ (HM_wd.out _ WD_W13.out) (fun _ => ?_)
      clear hK K
      try simp only [Act.put, List.setIfInBounds_toArray, List.set_cons_zero, List.set_cons_succ]
      generalize wd.alloc (.cells #[.slice none 0 0, .slice none 0 0] 27) = W13 at *
      try rw [← hg]
      clear hg
      refine wpAnyH_ready (rs := [7]) (by kernel_rfl) (by simp) ?_
      refine AllReadyH.cons (oper_at (r := _) rfl) (fun K hK => ?_) AllReadyH.nil
      go_simp
      refine (HC1.out _ SV_W13.out.1).mono ?_
      rintro e W14 ⟨⟨X1, x1, Y1, y1, rfl, r1, r2⟩, hb⟩
      have SV_W14 := Lib.hid (SV_W13.out.up hb)
      have WD_W14 := Lib.hid (WD_W13.out.trans (hb.mono WD_W13.out.size))
      have B_W14 := Lib.hid (B_W13.out.up hb)
      clear SV_W13 WD_W13 B_W13
      have R1_W14 := Lib.hid r1
      have R2_W14 := Lib.hid r2
      clear hb r1 r2
      go_wp2_with fail
      refine hK.out _ _ (HM_wd.out _ WD_W14.out) (fun _ => ?_)
      clear hK K
      try simp only [Act.put, List.setIfInBounds_toArray, List.set_cons_zero, List.set_cons_succ]
      refine wpAnyH_ready (rs := [10]) (by kernel_rfl) (by simp) ?_
      refine AllReadyH.cons (oper_at (r := _) rfl) (fun K hK => ?_) AllReadyH.nil
      go_simp
      refine (HC2.out _ SV_W14.out.1).mono ?_
      rintro e W15 ⟨⟨X2, x2, Y2, y2, rfl, r1, r2⟩, hb⟩
      have SV_W15 := Lib.hid (SV_W14.out.up hb)
      have WD_W15 := Lib.hid (WD_W14.out.trans (hb.mono WD_W14.out.size))
      have B_W15 := Lib.hid (B_W14.out.up hb)
      have R1_W15 := Lib.hid (Reads.up R1_W14.out hb)
      have R2_W15 := Lib.hid (Reads.up R2_W14.out hb)
      clear SV_W14 WD_W14 B_W14 R1_W14 R2_W14
      have R3_W15 := Lib.hid r1
      have R4_W15 := Lib.hid r2
      clear hb r1 r2
      go_wp2_with fail
      refine hK.out _ _ (HM_wd.out _ WD_W15.out) (fun _ => ?_)
      clear hK K
      try simp only [Act.put, List.setIfInBounds_toArray, List.set_cons_zero, List.set_cons_succ]
      refine wpAnyH_ready (rs := [11]) (by kernel_rfl) (by simp) ?_
      refine AllReadyH.cons (oper_at (r := _) rfl) (fun K hK => ?_) AllReadyH.nil
      go_simp
      refine (HCM.out _ SV_W15.out.1 X1 x1 Y1 y1 R1_W15.out R2_W15.out X2 x2 Y2 y2 R3_W15.out R4_W15.out).mono ?_
      rintro e W16 ⟨⟨X3, x3, Y3, y3, rfl, r1, r2, r3, r4⟩, hb⟩
      have SV_W16 := Lib.hid (SV_W15.out.up hb)
      have WD_W16 := Lib.hid (WD_W15.out.trans (hb.mono WD_W15.out.size))
      have B_W16 := Lib.hid (B_W15.out.up hb)
      have R1_W16 := Lib.hid (Reads.up R1_W15.out hb)
      have R2_W16 := Lib.hid (Reads.up R2_W15.out hb)
      have R3_W16 := Lib.hid (Reads.up R3_W15.out hb)
      have R4_W16 := Lib.hid (Reads.up R4_W15.out hb)
      clear SV_W15 WD_W15 B_W15 R1_W15 R2_W15 R3_W15 R4_W15
      have R5_W16 := Lib.hid r1
      have R6_W16 := Lib.hid r2
      have LN_W16 := Lib.hid (And.intro r3 r4)
      clear hb r1 r2
      go_wp2_with fail
      refine hK.out _ _ (HM_wd.out _ WD_W16.out) (fun _ => ?_)
      clear hK K
      try simp only [Act.put, List.setIfInBounds_toArray, List.set_cons_zero, List.set_cons_succ]
      clear r3 r4
      refine wpAnyH_take (i := 12) (v := ?_) (oper_at (r := _) rfl) (by kernel_rfl) (by kernel_rfl) (by kernel_rfl) (fun _ _ _ h => h) (Or.inl ⟨by rfl, ?_⟩) (by assumption) ?_
      rotate_left
      · intro w hSw; try dsimp only at hSw
        go_simp
        try with_reducible rfl
      try simp only [Act.put, List.setIfInBounds_toArray, List.set_cons_zero, List.set_cons_succ]
      refine wpAnyH_take (i := 13) (v := ?_) (oper_at (r := _) rfl) (by kernel_rfl) (by kernel_rfl) (by kernel_rfl) (fun _ _ _ h => h) (Or.inl ⟨by rfl, ?_⟩) (by assumption) ?_
      rotate_left
      · intro w hSw; try dsimp only at hSw
        go_simp
        try with_reducible rfl
      try simp only [Act.put, List.setIfInBounds_toArray, List.set_cons_zero, List.set_cons_succ]
      refine wpAnyH_take (i := 14) (v := ?_) (oper_at (r := _) rfl) (by kernel_rfl) (by kernel_rfl) (by kernel_rfl) (fun _ _ _ h => h) (Or.inl ⟨by rfl, ?_⟩) (by assumption) ?_
      rotate_left
      · intro w hSw; try dsimp only at hSw
        go_simp
        try with_reducible rfl
      try simp only [Act.put, List.setIfInBounds_toArray, List.set_cons_zero, List.set_cons_succ]
      refine wpAnyH_ready (rs := [16]) (by kernel_rfl) (by simp) ?_
      refine AllReadyH.cons (oper_at (r := _) rfl) (fun K hK => ?_) AllReadyH.nil
      have fr0 := B_W16.out.free 0
      have fr1 := B_W16.out.free 1
      obtain ⟨e0, e1⟩ := B_W16.out.cells
      go_simp
      clear fr0 fr1 e0 e1
      have SV_W17 := Lib.hid (SV_W16.out.set (g := gx) (by simp; omega) (.slice X3 R.ns.length x3) (.slice Y3 R.es.length y3))
      have WD_W17 := Lib.hid ((WD_W16.out.setCell (p := ⟨gx, 0, none⟩) (by show wd.heap.size ≤ gx; omega) (.slice X3 R.ns.length x3)).setCell (p := ⟨gx, 1, none⟩) (by show wd.heap.size ≤ gx; omega) (.slice Y3 R.es.length y3))
      have B_W17 := Lib.hid (B_W16.out.put (.slice X3 R.ns.length x3) (.slice Y3 R.es.length y3))
      have R5_W17 := Lib.hid (ints_set' R5_W16.out B_W16.out (.slice X3 R.ns.length x3) (.slice Y3 R.es.length y3))
      have R6_W17 := Lib.hid (ints_set' R6_W16.out B_W16.out (.slice X3 R.ns.length x3) (.slice Y3 R.es.length y3))
      have LN_W17 := Lib.hid (LN_W16.out)
      clear SV_W16 WD_W16 B_W16 R5_W16 R6_W16 LN_W16
      refine hK.out _ _ (HM_wd.out _ WD_W17.out) (fun _ => ?_)
      clear hK K
      try simp only [Act.put, List.setIfInBounds_toArray, List.set_cons_zero, List.set_cons_succ]
      generalize (W16.setCell ⟨gx, 0, none⟩ (.slice X3 R.ns.length x3)).setCell ⟨gx, 1, none⟩ (.slice Y3 R.es.length y3) = W17 at *
      refine wpAnyH_take (i := 17) (v := ?_) (oper_at (r := _) rfl) (by kernel_rfl) (by kernel_rfl) (by kernel_rfl) (fun _ _ _ h => h) (Or.inl ⟨by rfl, ?_⟩) (by assumption) ?_
      rotate_left
      · intro w hSw; try dsimp only at hSw
        go_simp
        try with_reducible rfl
      try simp only [Act.put, List.setIfInBounds_toArray, List.set_cons_zero, List.set_cons_succ]
      refine wpAnyH_done (by kernel_rfl) ?_ _
      refine NoPanic.normal ?_
      go_wp2_with fail
      go_meet
      exact ⟨gx, X3, x3, Y3, y3, rfl, rfl, B_W17.out, R5_W17.out, R6_W17.out, LN_W17.out, SV_W17.out⟩
  case rest =>
    obtain ⟨gx, X1, x1, Y1, y1, rfl, rfl, hB, hR1, hR2, hL, hS⟩ := hcut
    have B1 := Lib.hid hB
    have R11 := Lib.hid hR1
    have R21 := Lib.hid hR2
    have HL0 := Lib.hid hL
    have HS := Lib.hid hS
    clear hB hR1 hR2 hL hS HS2 HCM HC1 HC2
    have c0 := HS.out.cell (i := 0) (j := 0) rfl rfl
    have c1 := HS.out.cell (i := 0) (j := 1) rfl rfl
    simp only [Nat.add_zero] at c0 c1
    have d0 := HS.out.cell (i := 1) (j := 0) rfl rfl
    have d1 := HS.out.cell (i := 1) (j := 1) rfl rfl
    have d2 := HS.out.cell (i := 1) (j := 2) rfl rfl
    have d3 := HS.out.cell (i := 1) (j := 3) rfl rfl
    have e0 := HS.out.cell (i := 2) (j := 0) rfl rfl
    have e1 := HS.out.cell (i := 2) (j := 1) rfl rfl
    have e2 := HS.out.cell (i := 2) (j := 2) rfl rfl
    have e3 := HS.out.cell (i := 2) (j := 3) rfl rfl
    go_wp2_with fail
    refine (HCR.out _ HS.out.1).mono ?_
    rintro e v2 ⟨⟨X2, x2, Y2, y2, rfl, r1, r2, r3, r4⟩, hb⟩
    have SV_v2 := Lib.hid (HS.out.up hb)
    have B1_v2 := Lib.hid (B1.out.up hb)
    have R11_v2 := Lib.hid (Reads.up R11.out hb)
    have R21_v2 := Lib.hid (Reads.up R21.out hb)
    clear HS B1 R11 R21
    have R1_v2 := Lib.hid r1
    have R2_v2 := Lib.hid r2
    have HL := Lib.hid (And.intro r3 r4)
    clear r1 r2 r3 r4 hb c0 c1 d0 d1 d2 d3 e0 e1 e2 e3
    go_upto_region 5 with fail
    have hb : Below v2.heap.size v2 (v2.alloc (.cells #[.slice X2 R.ns.length x2, .slice Y2 R.es.length y2] 27)) := (Below.refl _ _).alloc (Nat.le_refl _) _
    have hx : BX v2.heap.size (.slice X2 R.ns.length x2) (.slice Y2 R.es.length y2) 27 (v2.alloc (.cells #[.slice X2 R.ns.length x2, .slice Y2 R.es.length y2] 27)) := heap_alloc_new _ _
    have SV_V2 := Lib.hid (SV_v2.out.up hb)
    have B1_V2 := Lib.hid (B1_v2.out.up hb)
    have R11_V2 := Lib.hid (Reads.up R11_v2.out hb)
    have R21_V2 := Lib.hid (Reads.up R21_v2.out hb)
    have R12_V2 := Lib.hid (Reads.up R1_v2.out hb)
    have R22_V2 := Lib.hid (Reads.up R2_v2.out hb)
    clear SV_v2 B1_v2 R11_v2 R21_v2 R1_v2 R2_v2
    have B2_V2 := Lib.hid hx
    clear hb hx
    generalize v2.alloc (.cells #[.slice X2 R.ns.length x2, .slice Y2 R.es.length y2] 27) = V2 at *
    generalize v2.heap.size = gy at *
    obtain ⟨c0, c1⟩ := B1_V2.out.cells
    obtain ⟨d0, d1⟩ := B2_V2.out.cells
    go_wp2_with fail
    refine (sameR_refl R X1 x1 Y1 y1 X2 x2 Y2 y2 _ HL.out R11_V2.out R21_V2.out R12_V2.out R22_V2.out).mono ?_
    rintro e w9 ⟨rfl, hb⟩
    go_wp2_with fail
    go_ret
    exact ⟨rfl, (SV_V2.out.up hb).1⟩

end Go.Proofs.YtaeelanbkdkppaaDoor

/-
  The statement MorphismCompose: the law answers true for every input, and its arguments read as they did; its card.
-/
namespace Go.Proofs.YtaeelanbkdkppaaDoor.morphismCompose
open Go.ChangeShapes Go.WideShapes Go.ChangeAt Go.RowKit Go.Deep

set_option maxRecDepth 100000 in
theorem lifted (os : Os) (started : os.Started) (H : Type) (enc : TypeId × Value → H) :
    ReturnsInHanded {} Tryd.checked os 5 .any (fun w args => (Rows.morphismComposeSpec.pre enc Tryd.prog Tryd.f5 Rows.morphismComposeRow.domain false w args ∧ laidMetH Tryd.prog laidL w) ∧ sizedMet enc Tryd.prog Tryd.f5 (OpenSpec.ofChange Rows.morphismComposeSpec) false w args)
      (Rows.morphismComposeSpec.post enc Tryd.prog Tryd.f5 false true false false) := by
  refine returnsInHanded_of_change_and (C := Tryd.checked) (X := fun w _ => laidMetH Tryd.prog laidL w) (fun _ _ _ hh h => h.of_heap hh) ownNone started (by kernel_rfl) Tryd.func5
    (ChangeSpec.witness_shaped (enc := enc) (C := Tryd.checked) (os := os) (X := fun w _ => laidMetH Tryd.prog laidL w) false (World.laidAll Tryd.prog os laidL) #[.agg #[.slice none 0 0, .slice none 0 0], .agg #[.slice none 0 0, .slice none 0 0, .slice none 0 0, .slice none 0 0], .agg #[.slice none 0 0, .slice none 0 0, .slice none 0 0, .slice none 0 0]] 8 (World.laidAll_os _ _ _)
      (shaped os _) (by kernel_rfl) (by kernel_rfl) (by kernel_rfl) (met os _)) ?_
  intro W base args ds gs before hval0 hW hcnd hsz0 hL _
  have hval : ∀ (j : Nat) t v, Tryd.f5.params[j]? = some t → args[j]? = some v → Value.okWide Tryd.prog W .any base t v := hval0
  have hsz : (DataW.weightsEach Tryd.prog (Tryd.f5.params.toList ++ Rows.morphismComposeSpec.plain.varTypes Tryd.prog) (ds ++ gs)).all (· ≤ reachBytes) = true := hsz0
  obtain ⟨hTab, h00⟩ := tab_of_laid hL
  have hW' := hW
  obtain ⟨p, q, hA0, hV, rfl, hfz, hnd⟩ := hW
  have hA : DataW.TrodAll enc Tryd.prog W 0 (fun _ => true) true Tryd.f5.params.toList args.toList ds p := hA0
  rw [Tryd.params5] at hA hval hsz
  obtain ⟨v0, v1, v2, d0, d1, d2, p0, p1, p2, rfl, rfl, rfl, h0, h1, h2⟩ := trodAll_three hA
  obtain ⟨rfl, rfl⟩ := trodVars_none hV
  clear hA0 hval0 hsz0 hL hcnd
  simp only [List.append_nil] at hW'
  have hlt : ∀ x ∈ p0 ++ p1 ++ p2, x.block < W.heap.size := fun x hx => by simpa using hW'.lt x (by simpa using hx)
  have k0 := h0
  obtain ⟨cs0, rfl, _⟩ := okWide_struct Tryd.underlying25 (hval 0 25 v0 rfl rfl)
  obtain ⟨f0, g0⟩ := h0
  obtain ⟨t0, An0, cn0, Ae0, ce0, e0, hT0⟩ := open_G g0
  obtain rfl := agg_of (e0)
  have k1 := h1
  obtain ⟨cs1, rfl, _⟩ := okWide_struct Tryd.underlying29 (hval 1 29 v1 rfl rfl)
  obtain ⟨f1, g1⟩ := h1
  obtain ⟨t1, e1, hT1⟩ := open_R g1 (fun n hn => by simpa using List.all_eq_true.1 hsz n (DataW.weights_mem_each (j := 1) rfl rfl n hn))
  obtain rfl := agg_of (e1)
  have k2 := h2
  obtain ⟨cs2, rfl, _⟩ := okWide_struct Tryd.underlying29 (hval 2 29 v2 rfl rfl)
  obtain ⟨f2, g2⟩ := h2
  obtain ⟨t2, e2, hT2⟩ := open_R g2 (fun n hn => by simpa using List.all_eq_true.1 hsz n (DataW.weights_mem_each (j := 2) rfl rfl n hn))
  obtain rfl := agg_of (e2)
  refine (lawCompose t0 An0 cn0 Ae0 ce0 t1 t2 W h00 hTab hT0 hT1 hT2).mono fun e W' ⟨he, hg⟩ => ?_
  subst he
  exact ⟨_, rfl, _, _, _, [], p0 ++ p1 ++ p2, [], hW', trodAll_cons_mk (shut_bool Tryd.underlying4 _) trodAll_mk0, (by rw [List.append_assoc p0 p1 p2]; exact trodAll_mk3 (Below.trod laidOut (by kernel_rfl) (of_decide_eq_true (by kernel_rfl)) k0 hg (fun x hx => hlt x (List.mem_append_left _ (List.mem_append_left _ hx)))) (Below.trod laidOut (by kernel_rfl) (of_decide_eq_true (by kernel_rfl)) k1 hg (fun x hx => hlt x (List.mem_append_left _ (List.mem_append_right _ hx)))) (Below.trod laidOut (by kernel_rfl) (of_decide_eq_true (by kernel_rfl)) k2 hg (fun x hx => hlt x (List.mem_append_right _ hx)))), rfl, hg.frame _, fun h => by cases h⟩

theorem f_holds : Rows.MorphismComposeSaid :=
  OpenClaim.holds_of_wide 5 Tryd.f5 rfl rfl rfl rfl rfl rfl rfl ⟨rfl, rfl, rfl, rfl, rfl⟩ rfl rfl rfl rfl rfl (by kernel_rfl) Tryd.func5 (by kernel_rfl)
    (of_decide_eq_true (by kernel_rfl)) (by unfold Func.isWrapper; first | (rw [if_pos (by decide +kernel)]; kernel_rfl) | (rw [if_neg (by decide +kernel)]; exact ⟨rfl, rfl⟩))
    (fun os started H enc _ => lifted os started H enc)

theorem proved : Rows.MorphismComposeCardSaid :=
  Claim7.holds_tied_plain_at .later [] [.data] true (true, "be0e74ecbec61e216f1dec99b2fe76d9649797ab71005ecd4978206190a01235") false
    f_holds (fun _ h => by cases h) (by kernel_rfl) (fun _ h => by cases h) morphismCompose_row_tie rfl ⟨rfl, rfl⟩ (by kernel_rfl) rfl
    (fun f fn hf hfn => by
      obtain rfl : f = 5 := Option.some.inj ((show Tryd.prog.funcNamed "scarfjoint/scarfjointlaw06.MorphismCompose" = some 5 by kernel_rfl).symm.trans hf) |>.symm
      obtain rfl : fn = Tryd.f5 := (Option.some.inj (Tryd.func5.symm.trans hfn)).symm
      exact ⟨by kernel_rfl, fun j t ht => by
        rw [Tryd.params5] at ht
        have hm : t ∈ [25, 29, 29] := List.mem_of_getElem? (by simpa using ht)
        have hs : ∀ t ∈ [25, 29, 29], Tryd.prog.wantsStandIn t = false := by
          intro t ht
          simp only [List.mem_cons, List.not_mem_nil, or_false] at ht
          rcases ht with rfl | rfl | rfl <;> kernel_rfl
        exact hs t hm⟩)
    (by kernel_rfl)

end Go.Proofs.YtaeelanbkdkppaaDoor.morphismCompose
