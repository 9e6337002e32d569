import Derived.Test.YtaeelanbkdkppaaDoorZ15
import Derived.Test.YtaeelanbkdkppaaDoorChecked
import Derived.Test.YtaeelanbkdkppaaDoorRows
import Derived.Test.YtaeelanbkdkppaaDoorTie
import Derived.Test.YtaeelanbkdkppaaDoorCards
import Derived.SizedLaws
/-
  MorphismValid. Printed by mkl6.py.
-/
namespace Go.Proofs.YtaeelanbkdkppaaDoor
open Go.RowKit Go.Shelf

set_option maxRecDepth 100000 in
set_option maxHeartbeats 4000000 in
theorem lawValid (a : Gr) (An : Option Addr) (cn : Nat) (Ae : Option Addr) (ce : Nat) (x : Ar) (w : World) (h00 : 0 < w.heap.size) (hT : TabW w) (hTa : GrAt w An cn Ae ce a) (hx : ArAt w x) :
    Calls Tryd.prog 3 #[gval An a.ns.length cn Ae a.es.length ce, x.val] w fun e w' => e = .returned (.bool true) ∧ Below w.heap.size w w' := by
  have HAW := Lib.hid (awk h00 hT)
  have HFW := Lib.hid (fun (u : World) (hu : Below w.heap.size w u) k c (hB : ArsAt u k [x]) => fewL_any a [x] An cn Ae ce k c u (by simp) (hTa.up hu) (fun y hy => by rw [List.mem_singleton.1 hy]; exact hx.up hu) hB)
  have HQ : Hid (∀ h : ([x].all fewA && fewB a) = true, x.m.ns.length ≤ 1000 ∧ x.m.es.length ≤ 1000) := Lib.hid fun h => fewA_len (by simp at h; exact h.1)
  generalize ([x].all fewA && fewB a) = Q at *
  have HARS := Lib.hid (fun (W : World) => ars_one W x 29)
  obtain ⟨b, m, Bn, dn, Be, de, Mn, mn, Me, me⟩ := x
  obtain ⟨hTb, hm1, hm2, -, -⟩ := hx
  dsimp only [Ar.val] at *
  have HVM := Lib.hid (fun (l1 : m.ns.length ≤ 1000) (l2 : m.es.length ≤ 1000) (u : World) (hu : Below w.heap.size w u) Xn xn Xe xe (r1 : Ints u u.heap.size Xn m.ns) (r2 : Ints u u.heap.size Xe m.es) => validM_any a b m An cn Ae ce Bn dn Be de Xn xn Xe xe u (hTa.up hu) (hTb.up hu) r1 r2 l1 l2)
  have HVR := Lib.hid (fun (l1 : m.ns.length ≤ 1000) (l2 : m.es.length ≤ 1000) (u : World) (hu : Below w.heap.size w u) => validR6_any a b m An cn Ae ce Bn dn Be de Mn mn Me me u (hTa.up hu) (hTb.up hu) (Reads.up hm1 hu) (Reads.up hm2 hu) l1 l2)
  have HIM := Lib.hid (fun (l1 : m.ns.length ≤ 1000) (l2 : m.es.length ≤ 1000) (u : World) (hu : Below w.heap.size w u) Xn xn Xe xe (r1 : Ints u u.heap.size Xn m.ns) (r2 : Ints u u.heap.size Xe m.es) => injM_any a b m An cn Ae ce Bn dn Be de Xn xn Xe xe u (hTa.up hu) (hTb.up hu) r1 r2 l1 l2)
  have HIR := Lib.hid (fun (l1 : m.ns.length ≤ 1000) (l2 : m.es.length ≤ 1000) (u : World) (hu : Below w.heap.size w u) => injR_any a b m An cn Ae ce Bn dn Be de Mn mn Me me u (hTa.up hu) (hTb.up hu) (Reads.up hm1 hu) (Reads.up hm2 hu) l1 l2)
  have HSM := Lib.hid (fun (l1 : m.ns.length ≤ 1000) (l2 : m.es.length ≤ 1000) (u : World) (hu : Below w.heap.size w u) Xn xn Xe xe (r1 : Ints u u.heap.size Xn m.ns) (r2 : Ints u u.heap.size Xe m.es) => surM_any a b m An cn Ae ce Bn dn Be de Xn xn Xe xe u (hTa.up hu) (hTb.up hu) r1 r2 l1 l2)
  have HSR := Lib.hid (fun (l1 : m.ns.length ≤ 1000) (l2 : m.es.length ≤ 1000) (u : World) (hu : Below w.heap.size w u) => surR_any a b m An cn Ae ce Bn dn Be de Mn mn Me me u (hTa.up hu) (hTb.up hu) (Reads.up hm1 hu) (Reads.up hm2 hu) l1 l2)
  have HCP := Lib.hid (fun (l1 : m.ns.length ≤ 1000) (l2 : m.es.length ≤ 1000) (u : World) (hu : Below w.heap.size w u) => copied2 m Mn mn Me me u (Reads.up hm1 hu) (Reads.up hm2 hu) l1 l2)
  have HS0 : Hid (SV w [([.slice An a.ns.length cn, .slice Ae a.es.length ce], 25), ([.slice Bn b.ns.length dn, .slice Be b.es.length de, .slice Mn m.ns.length mn, .slice Me m.es.length me], 29)] _) := Lib.hid (SV.push (SV.push (SV.nil w) rfl [.slice An a.ns.length cn, .slice Ae a.es.length ce] 25) (by simp) [.slice Bn b.ns.length dn, .slice Be b.es.length de, .slice Mn m.ns.length mn, .slice Me m.es.length me] 29)
  clear hT h00 hTa hTb hm1 hm2
  generalize morE a b m = E at *
  generalize injB a b m = I at *
  generalize surB a b m = J at *
  go_enter Tryd.func3, Tryd.ntmps3
  go_wp2_with fail
  refine (HAW.out _ HS0.out.1).mono ?_
  rintro e w1 ⟨rfl, hb1⟩
  have HS1 := Lib.hid (HS0.out.up hb1)
  clear hb1 HS0
  have c0 := HS1.out.cell (i := 0) (j := 0) rfl rfl
  have c1 := HS1.out.cell (i := 0) (j := 1) rfl rfl
  simp only [Nat.add_zero] at c0 c1
  have d0 := HS1.out.cell (i := 1) (j := 0) rfl rfl
  have d1 := HS1.out.cell (i := 1) (j := 1) rfl rfl
  have d2 := HS1.out.cell (i := 1) (j := 2) rfl rfl
  have d3 := HS1.out.cell (i := 1) (j := 3) rfl rfl
  go_wp2_with fail
  have hb0 : Below w1.heap.size w1 (w1.alloc (.cells #[.slice Bn b.ns.length dn, .slice Be b.es.length de, .slice Mn m.ns.length mn, .slice Me m.es.length me] 29)) := (Below.refl _ _).alloc (Nat.le_refl _) _
  refine (HFW.out _ (HS1.out.1.trans (hb0.mono HS1.out.1.size)) _ 1 (HARS.out w1)).mono ?_
  rintro e w2 ⟨rfl, hb2⟩
  have HS2 := Lib.hid (HS1.out.up (hb0.trans (hb2.mono hb0.size)))
  clear hb0 hb2 HS1 c0 c1 d0 d1 d2 d3
  cases hQ : Q with
  | false =>
    clear hQ
    go_wp2_with fail
    refine (HAW.out _ HS2.out.1).mono ?_
    rintro e w3 ⟨rfl, hb3⟩
    go_wp2_with fail
    go_ret
    exact ⟨rfl, HS2.out.1.trans (hb3.mono HS2.out.1.size)⟩
  | true =>
    obtain ⟨l1, l2⟩ := HQ.out hQ
    have HVM := Lib.hid (HVM.out l1 l2)
    have HVR := Lib.hid (HVR.out l1 l2)
    have HIM := Lib.hid (HIM.out l1 l2)
    have HIR := Lib.hid (HIR.out l1 l2)
    have HSM := Lib.hid (HSM.out l1 l2)
    have HSR := Lib.hid (HSR.out l1 l2)
    have HCP := Lib.hid (HCP.out l1 l2)
    clear hQ HQ l1 l2 HAW HFW HARS
    go_upto_region 3 with fail
    go_cut [5, 6] (fun u v wc => ∃ gb gm, u = .pointer (some ⟨gb, 0, none⟩) ∧ v = .pointer (some ⟨gm, 0, none⟩) ∧ BX gb (.slice Bn b.ns.length dn) (.slice Be b.es.length de) 25 wc ∧ BX gm (.slice Mn m.ns.length mn) (.slice Me m.es.length me) 27 wc ∧ SV w [([.slice An a.ns.length cn, .slice Ae a.es.length ce], 25), ([.slice Bn b.ns.length dn, .slice Be b.es.length de, .slice Mn m.ns.length mn, .slice Me m.es.length me], 29)] wc)
    case first =>
      go_wp2_with fail
      have SV_wd := Lib.hid (HS2.out.up (below_d w2))
      clear HS2
      have q0 : w2.drew.cell? ⟨w.heap.size + 1, 0, none⟩ = some (.slice Bn b.ns.length dn) := SV_wd.out.cell (i := 1) (j := 0) rfl rfl
      have q1 : w2.drew.cell? ⟨w.heap.size + 1, 1, none⟩ = some (.slice Be b.es.length de) := SV_wd.out.cell (i := 1) (j := 1) rfl rfl
      have q2 : w2.drew.cell? ⟨w.heap.size + 1, 2, none⟩ = some (.slice Mn m.ns.length mn) := SV_wd.out.cell (i := 1) (j := 2) rfl rfl
      have q3 : w2.drew.cell? ⟨w.heap.size + 1, 3, none⟩ = some (.slice Me m.es.length me) := SV_wd.out.cell (i := 1) (j := 3) rfl rfl
      have HM_wd : Hid (∀ u, Below w2.drew.heap.size w2.drew u → (fun u : World => u.cell? ⟨w.heap.size + 1, 0, none⟩ = some (.slice Bn b.ns.length dn) ∧ u.cell? ⟨w.heap.size + 1, 1, none⟩ = some (.slice Be b.es.length de) ∧ u.cell? ⟨w.heap.size + 1, 2, none⟩ = some (.slice Mn m.ns.length mn) ∧ u.cell? ⟨w.heap.size + 1, 3, none⟩ = some (.slice Me m.es.length me)) u) := Lib.hid fun u hb => ⟨cell_up hb q0, cell_up hb q1, cell_up hb q2, cell_up hb q3⟩
      clear q0 q1 q2 q3
      have WD_wd := Lib.hid (Below.refl w2.drew.heap.size w2.drew)
      refine wp_region_noPanic ?_
      refine wp_region_held_drew (S := (fun u : World => u.cell? ⟨w.heap.size + 1, 0, none⟩ = some (.slice Bn b.ns.length dn) ∧ u.cell? ⟨w.heap.size + 1, 1, none⟩ = some (.slice Be b.es.length de) ∧ u.cell? ⟨w.heap.size + 1, 2, none⟩ = some (.slice Mn m.ns.length mn) ∧ u.cell? ⟨w.heap.size + 1, 3, none⟩ = some (.slice Me m.es.length me))) (by kernel_rfl) (HM_wd.out _ WD_wd.out) (fun hHeld => ?_)
      generalize w2.drew = wd at *
      have lsv : w.heap.size + 2 ≤ wd.heap.size := SV_wd.out.2.1
      refine wpAnyH_take (i := 0) (v := ?_) (oper_at (r := _) rfl) (by kernel_rfl) (by kernel_rfl) (by kernel_rfl) (fun _ _ _ h => h) (Or.inl ⟨by rfl, ?_⟩) (by assumption) ?_
      rotate_left
      · intro w hSw; try dsimp only at hSw
        go_simp
        try with_reducible rfl
      try simp only [Act.put, List.setIfInBounds_toArray, List.set_cons_zero, List.set_cons_succ]
      refine wpAnyH_take (i := 1) (v := ?_) (oper_at (r := _) rfl) (by kernel_rfl) (by kernel_rfl) (by kernel_rfl) (fun _ _ _ h => h) (Or.inl ⟨by rfl, ?_⟩) (by assumption) ?_
      rotate_left
      · intro w hSw; try dsimp only at hSw
        go_simp
        try with_reducible rfl
      try simp only [Act.put, List.setIfInBounds_toArray, List.set_cons_zero, List.set_cons_succ]
      refine wpAnyH_take (i := 2) (v := ?_) (oper_at (r := _) rfl) (by kernel_rfl) (by kernel_rfl) (by kernel_rfl) (fun _ _ _ h => h) (Or.inl ⟨by rfl, ?_⟩) (by assumption) ?_
      rotate_left
      · intro w hSw; try dsimp only at hSw
        go_simp
        try with_reducible rfl
      try simp only [Act.put, List.setIfInBounds_toArray, List.set_cons_zero, List.set_cons_succ]
      refine wpAnyH_take (i := 3) (v := ?_) (oper_at (r := _) rfl) (by kernel_rfl) (by kernel_rfl) (by kernel_rfl) (fun _ _ _ h => h) (Or.inl ⟨by rfl, ?_⟩) (by assumption) ?_
      rotate_left
      · intro w hSw; try dsimp only at hSw
        go_simp
        try with_reducible rfl
      try simp only [Act.put, List.setIfInBounds_toArray, List.set_cons_zero, List.set_cons_succ]
      refine wpAnyH_ready (rs := [4, 5]) (by kernel_rfl) (by simp) ?_
      refine (AllReadyH.cons (oper_at (r := _) rfl) (fun K hK => ?_) (AllReadyH.cons (oper_at (r := _) rfl) (fun K hK => ?_) AllReadyH.nil))
      · skip
        obtain ⟨gb, hg⟩ : ∃ g, g = wd.heap.size := ⟨_, rfl⟩
        have lgb : wd.heap.size ≤ gb := by rw [hg]; exact WD_wd.out.size
        have hx : BX gb (.slice none 0 0) (.slice none 0 0) 25 (wd.alloc (.cells #[.slice none 0 0, .slice none 0 0] 25)) := by rw [hg]; exact heap_alloc_new _ _
        have hb : Below wd.heap.size wd (wd.alloc (.cells #[.slice none 0 0, .slice none 0 0] 25)) := (Below.refl _ _).alloc (Nat.le_refl _) _
        have SV_W1 := Lib.hid (SV_wd.out.up hb)
        have WD_W1 := Lib.hid (WD_wd.out.trans (hb.mono WD_wd.out.size))
        clear SV_wd WD_wd
        have B_W1 := Lib.hid hx
        clear hx hb
        go_simp
        refine hK.out _ _ (HM_wd.out _ WD_W1.out) (fun _ => ?_)
        clear hK K
        try simp only [Act.put, List.setIfInBounds_toArray, List.set_cons_zero, List.set_cons_succ]
        generalize wd.alloc (.cells #[.slice none 0 0, .slice none 0 0] 25) = W1 at *
        try rw [← hg]
        clear hg
        refine wpAnyH_ready (rs := [5]) (by kernel_rfl) (by simp) ?_
        refine AllReadyH.cons (oper_at (r := _) rfl) (fun K hK => ?_) AllReadyH.nil
        obtain ⟨gm, hg⟩ : ∃ g, g = W1.heap.size := ⟨_, rfl⟩
        have lgm : wd.heap.size ≤ gm := by rw [hg]; exact WD_W1.out.size
        have ngmgb : gb ≠ gm := by have := B_W1.out.lt; omega
        have ngbgm : gm ≠ gb := Ne.symm ngmgb
        have hx : BX gm (.slice none 0 0) (.slice none 0 0) 27 (W1.alloc (.cells #[.slice none 0 0, .slice none 0 0] 27)) := by rw [hg]; exact heap_alloc_new _ _
        have hb : Below W1.heap.size W1 (W1.alloc (.cells #[.slice none 0 0, .slice none 0 0] 27)) := (Below.refl _ _).alloc (Nat.le_refl _) _
        have SV_W2 := Lib.hid (SV_W1.out.up hb)
        have WD_W2 := Lib.hid (WD_W1.out.trans (hb.mono WD_W1.out.size))
        have B_W2 := Lib.hid (B_W1.out.up hb)
        clear SV_W1 WD_W1 B_W1
        have M_W2 := Lib.hid hx
        clear hx hb
        go_simp
        refine hK.out _ _ (HM_wd.out _ WD_W2.out) (fun _ => ?_)
        clear hK K
        try simp only [Act.put, List.setIfInBounds_toArray, List.set_cons_zero, List.set_cons_succ]
        generalize W1.alloc (.cells #[.slice none 0 0, .slice none 0 0] 27) = W2 at *
        try rw [← hg]
        clear hg
        refine wpAnyH_ready (rs := [6]) (by kernel_rfl) (by simp) ?_
        refine AllReadyH.cons (oper_at (r := _) rfl) (fun K hK => ?_) AllReadyH.nil
        have fr0 := B_W2.out.free 0
        have fr1 := B_W2.out.free 1
        obtain ⟨e0, e1⟩ := B_W2.out.cells
        go_simp
        clear fr0 fr1 e0 e1
        have SV_W3 := Lib.hid (SV_W2.out.set (g := gb) (by simp; omega) (.slice Bn b.ns.length dn) (.slice Be b.es.length de))
        have WD_W3 := Lib.hid ((WD_W2.out.setCell (p := ⟨gb, 0, none⟩) (by show wd.heap.size ≤ gb; omega) (.slice Bn b.ns.length dn)).setCell (p := ⟨gb, 1, none⟩) (by show wd.heap.size ≤ gb; omega) (.slice Be b.es.length de))
        have B_W3 := Lib.hid (B_W2.out.put (.slice Bn b.ns.length dn) (.slice Be b.es.length de))
        have M_W3 := Lib.hid (M_W2.out.far ngbgm (.slice Bn b.ns.length dn) (.slice Be b.es.length de))
        clear SV_W2 WD_W2 B_W2 M_W2
        refine hK.out _ _ (HM_wd.out _ WD_W3.out) (fun _ => ?_)
        clear hK K
        try simp only [Act.put, List.setIfInBounds_toArray, List.set_cons_zero, List.set_cons_succ]
        generalize (W2.setCell ⟨gb, 0, none⟩ (.slice Bn b.ns.length dn)).setCell ⟨gb, 1, none⟩ (.slice Be b.es.length de) = W3 at *
        refine wpAnyH_ready (rs := [7]) (by kernel_rfl) (by simp) ?_
        refine AllReadyH.cons (oper_at (r := _) rfl) (fun K hK => ?_) AllReadyH.nil
        have fr0 := M_W3.out.free 0
        have fr1 := M_W3.out.free 1
        obtain ⟨e0, e1⟩ := M_W3.out.cells
        go_simp
        clear fr0 fr1 e0 e1
        have SV_W4 := Lib.hid (SV_W3.out.set (g := gm) (by simp; omega) (.slice Mn m.ns.length mn) (.slice Me m.es.length me))
        have WD_W4 := Lib.hid ((WD_W3.out.setCell (p := ⟨gm, 0, none⟩) (by show wd.heap.size ≤ gm; omega) (.slice Mn m.ns.length mn)).setCell (p := ⟨gm, 1, none⟩) (by show wd.heap.size ≤ gm; omega) (.slice Me m.es.length me))
        have B_W4 := Lib.hid (B_W3.out.far ngmgb (.slice Mn m.ns.length mn) (.slice Me m.es.length me))
        have M_W4 := Lib.hid (M_W3.out.put (.slice Mn m.ns.length mn) (.slice Me m.es.length me))
        clear SV_W3 WD_W3 B_W3 M_W3
        refine hK.out _ _ (HM_wd.out _ WD_W4.out) (fun _ => ?_)
        clear hK K
        try simp only [Act.put, List.setIfInBounds_toArray, List.set_cons_zero, List.set_cons_succ]
        generalize (W3.setCell ⟨gm, 0, none⟩ (.slice Mn m.ns.length mn)).setCell ⟨gm, 1, none⟩ (.slice Me m.es.length me) = W4 at *
        refine wpAnyH_done (by kernel_rfl) ?_ _
        refine NoPanic.normal ?_
        go_wp2_with fail
        go_meet
        exact ⟨gb, gm, rfl, rfl, B_W4.out, M_W4.out, SV_W4.out⟩
      · skip
        obtain ⟨gm, hg⟩ : ∃ g, g = wd.heap.size := ⟨_, rfl⟩
        have lgm : wd.heap.size ≤ gm := by rw [hg]; exact WD_wd.out.size
        have hx : BX gm (.slice none 0 0) (.slice none 0 0) 27 (wd.alloc (.cells #[.slice none 0 0, .slice none 0 0] 27)) := by rw [hg]; exact heap_alloc_new _ _
        have hb : Below wd.heap.size wd (wd.alloc (.cells #[.slice none 0 0, .slice none 0 0] 27)) := (Below.refl _ _).alloc (Nat.le_refl _) _
        have SV_W5 := Lib.hid (SV_wd.out.up hb)
        have WD_W5 := Lib.hid (WD_wd.out.trans (hb.mono WD_wd.out.size))
        clear SV_wd WD_wd
        have M_W5 := Lib.hid hx
        clear hx hb
        go_simp
        refine hK.out _ _ (HM_wd.out _ WD_W5.out) (fun _ => ?_)
        clear hK K
        try simp only [Act.put, List.setIfInBounds_toArray, List.set_cons_zero, List.set_cons_succ]
        generalize wd.alloc (.cells #[.slice none 0 0, .slice none 0 0] 27) = W5 at *
        try rw [← hg]
        clear hg
        refine wpAnyH_ready (rs := [4]) (by kernel_rfl) (by simp) ?_
        refine AllReadyH.cons (oper_at (r := _) rfl) (fun K hK => ?_) AllReadyH.nil
        obtain ⟨gb, hg⟩ : ∃ g, g = W5.heap.size := ⟨_, rfl⟩
        have lgb : wd.heap.size ≤ gb := by rw [hg]; exact WD_W5.out.size
        have ngbgm : gm ≠ gb := by have := M_W5.out.lt; omega
        have ngmgb : gb ≠ gm := Ne.symm ngbgm
        have hx : BX gb (.slice none 0 0) (.slice none 0 0) 25 (W5.alloc (.cells #[.slice none 0 0, .slice none 0 0] 25)) := by rw [hg]; exact heap_alloc_new _ _
        have hb : Below W5.heap.size W5 (W5.alloc (.cells #[.slice none 0 0, .slice none 0 0] 25)) := (Below.refl _ _).alloc (Nat.le_refl _) _
        have SV_W6 := Lib.hid (SV_W5.out.up hb)
        have WD_W6 := Lib.hid (WD_W5.out.trans (hb.mono WD_W5.out.size))
        have M_W6 := Lib.hid (M_W5.out.up hb)
        clear SV_W5 WD_W5 M_W5
        have B_W6 := Lib.hid hx
        clear hx hb
        go_simp
        refine hK.out _ _ (HM_wd.out _ WD_W6.out) (fun _ => ?_)
        clear hK K
        try simp only [Act.put, List.setIfInBounds_toArray, List.set_cons_zero, List.set_cons_succ]
        generalize W5.alloc (.cells #[.slice none 0 0, .slice none 0 0] 25) = W6 at *
        try rw [← hg]
        clear hg
        refine wpAnyH_ready (rs := [6]) (by kernel_rfl) (by simp) ?_
        refine AllReadyH.cons (oper_at (r := _) rfl) (fun K hK => ?_) AllReadyH.nil
        have fr0 := B_W6.out.free 0
        have fr1 := B_W6.out.free 1
        obtain ⟨e0, e1⟩ := B_W6.out.cells
        go_simp
        clear fr0 fr1 e0 e1
        have SV_W7 := Lib.hid (SV_W6.out.set (g := gb) (by simp; omega) (.slice Bn b.ns.length dn) (.slice Be b.es.length de))
        have WD_W7 := Lib.hid ((WD_W6.out.setCell (p := ⟨gb, 0, none⟩) (by show wd.heap.size ≤ gb; omega) (.slice Bn b.ns.length dn)).setCell (p := ⟨gb, 1, none⟩) (by show wd.heap.size ≤ gb; omega) (.slice Be b.es.length de))
        have M_W7 := Lib.hid (M_W6.out.far ngbgm (.slice Bn b.ns.length dn) (.slice Be b.es.length de))
        have B_W7 := Lib.hid (B_W6.out.put (.slice Bn b.ns.length dn) (.slice Be b.es.length de))
        clear SV_W6 WD_W6 M_W6 B_W6
        refine hK.out _ _ (HM_wd.out _ WD_W7.out) (fun _ => ?_)
        clear hK K
        try simp only [Act.put, List.setIfInBounds_toArray, List.set_cons_zero, List.set_cons_succ]
        generalize (W6.setCell ⟨gb, 0, none⟩ (.slice Bn b.ns.length dn)).setCell ⟨gb, 1, none⟩ (.slice Be b.es.length de) = W7 at *
        refine wpAnyH_ready (rs := [7]) (by kernel_rfl) (by simp) ?_
        refine AllReadyH.cons (oper_at (r := _) rfl) (fun K hK => ?_) AllReadyH.nil
        have fr0 := M_W7.out.free 0
        have fr1 := M_W7.out.free 1
        obtain ⟨e0, e1⟩ := M_W7.out.cells
        go_simp
        clear fr0 fr1 e0 e1
        have SV_W8 := Lib.hid (SV_W7.out.set (g := gm) (by simp; omega) (.slice Mn m.ns.length mn) (.slice Me m.es.length me))
        have WD_W8 := Lib.hid ((WD_W7.out.setCell (p := ⟨gm, 0, none⟩) (by show wd.heap.size ≤ gm; omega) (.slice Mn m.ns.length mn)).setCell (p := ⟨gm, 1, none⟩) (by show wd.heap.size ≤ gm; omega) (.slice Me m.es.length me))
        have M_W8 := Lib.hid (M_W7.out.put (.slice Mn m.ns.length mn) (.slice Me m.es.length me))
        have B_W8 := Lib.hid (B_W7.out.far ngmgb (.slice Mn m.ns.length mn) (.slice Me m.es.length me))
        clear SV_W7 WD_W7 M_W7 B_W7
        refine hK.out _ _ (HM_wd.out _ WD_W8.out) (fun _ => ?_)
        clear hK K
        try simp only [Act.put, List.setIfInBounds_toArray, List.set_cons_zero, List.set_cons_succ]
        generalize (W7.setCell ⟨gm, 0, none⟩ (.slice Mn m.ns.length mn)).setCell ⟨gm, 1, none⟩ (.slice Me m.es.length me) = W8 at *
        refine wpAnyH_done (by kernel_rfl) ?_ _
        refine NoPanic.normal ?_
        go_wp2_with fail
        go_meet
        exact ⟨gb, gm, rfl, rfl, B_W8.out, M_W8.out, SV_W8.out⟩
    case rest =>
      obtain ⟨gb, gm, rfl, rfl, hB, hM, hS⟩ := hcut
      have HB3 := Lib.hid hB
      have HM3 := Lib.hid hM
      have HS3 := Lib.hid hS
      clear hB hM hS HS2
      go_upto_region 4 with fail
      go_wp2_with fail
      have SV_wf := Lib.hid (HS3.out.up (below_d wc))
      have B_wf := Lib.hid (HB3.out.up (below_d wc))
      have M_wf := Lib.hid (HM3.out.up (below_d wc))
      clear HS3 HB3 HM3
      have q0 : wc.drew.cell? ⟨w.heap.size, 0, none⟩ = some (.slice An a.ns.length cn) := SV_wf.out.cell (i := 0) (j := 0) rfl rfl
      have q1 : wc.drew.cell? ⟨w.heap.size, 1, none⟩ = some (.slice Ae a.es.length ce) := SV_wf.out.cell (i := 0) (j := 1) rfl rfl
      have q2 : wc.drew.cell? ⟨gb, 0, none⟩ = some (.slice Bn b.ns.length dn) := B_wf.out.cells.1
      have q3 : wc.drew.cell? ⟨gb, 1, none⟩ = some (.slice Be b.es.length de) := B_wf.out.cells.2
      have q4 : wc.drew.cell? ⟨gm, 0, none⟩ = some (.slice Mn m.ns.length mn) := M_wf.out.cells.1
      have q5 : wc.drew.cell? ⟨gm, 1, none⟩ = some (.slice Me m.es.length me) := M_wf.out.cells.2
      have HM_wf : Hid (∀ u, Below wc.drew.heap.size wc.drew u → (fun u : World => u.cell? ⟨w.heap.size, 0, none⟩ = some (.slice An a.ns.length cn) ∧ u.cell? ⟨w.heap.size, 1, none⟩ = some (.slice Ae a.es.length ce) ∧ u.cell? ⟨gb, 0, none⟩ = some (.slice Bn b.ns.length dn) ∧ u.cell? ⟨gb, 1, none⟩ = some (.slice Be b.es.length de) ∧ u.cell? ⟨gm, 0, none⟩ = some (.slice Mn m.ns.length mn) ∧ u.cell? ⟨gm, 1, none⟩ = some (.slice Me m.es.length me)) u) := Lib.hid fun u hb => ⟨cell_up hb q0, cell_up hb q1, cell_up hb q2, cell_up hb q3, cell_up hb q4, cell_up hb q5⟩
      clear q0 q1 q2 q3 q4 q5
      have WD_wf := Lib.hid (Below.refl wc.drew.heap.size wc.drew)
      refine wp_region_noPanic ?_
      refine wp_region_held_drew (S := (fun u : World => u.cell? ⟨w.heap.size, 0, none⟩ = some (.slice An a.ns.length cn) ∧ u.cell? ⟨w.heap.size, 1, none⟩ = some (.slice Ae a.es.length ce) ∧ u.cell? ⟨gb, 0, none⟩ = some (.slice Bn b.ns.length dn) ∧ u.cell? ⟨gb, 1, none⟩ = some (.slice Be b.es.length de) ∧ u.cell? ⟨gm, 0, none⟩ = some (.slice Mn m.ns.length mn) ∧ u.cell? ⟨gm, 1, none⟩ = some (.slice Me m.es.length me))) (by kernel_rfl) (HM_wf.out _ WD_wf.out) (fun hHeld => ?_)
      generalize wc.drew = wf at *
      refine wpAnyH_take (i := 0) (v := ?_) (oper_at (r := _) rfl) (by kernel_rfl) (by kernel_rfl) (by kernel_rfl) (fun _ _ _ h => h) (Or.inl ⟨by rfl, ?_⟩) (by assumption) ?_
      rotate_left
      · intro w hSw; try dsimp only at hSw
        go_simp
        try with_reducible rfl
      try simp only [Act.put, List.setIfInBounds_toArray, List.set_cons_zero, List.set_cons_succ]
      refine wpAnyH_take (i := 1) (v := ?_) (oper_at (r := _) rfl) (by kernel_rfl) (by kernel_rfl) (by kernel_rfl) (fun _ _ _ h => h) (Or.inl ⟨by rfl, ?_⟩) (by assumption) ?_
      rotate_left
      · intro w hSw; try dsimp only at hSw
        go_simp
        try with_reducible rfl
      try simp only [Act.put, List.setIfInBounds_toArray, List.set_cons_zero, List.set_cons_succ]
      refine wpAnyH_take (i := 2) (v := ?_) (oper_at (r := _) rfl) (by kernel_rfl) (by kernel_rfl) (by kernel_rfl) (fun _ _ _ h => h) (Or.inl ⟨by rfl, ?_⟩) (by assumption) ?_
      rotate_left
      · intro w hSw; try dsimp only at hSw
        go_simp
        try with_reducible rfl
      try simp only [Act.put, List.setIfInBounds_toArray, List.set_cons_zero, List.set_cons_succ]
      refine wpAnyH_take (i := 5) (v := ?_) (oper_at (r := _) rfl) (by kernel_rfl) (by kernel_rfl) (by kernel_rfl) (fun _ _ _ h => h) (Or.inl ⟨by rfl, ?_⟩) (by assumption) ?_
      rotate_left
      · intro w hSw; try dsimp only at hSw
        go_simp
        try with_reducible rfl
      try simp only [Act.put, List.setIfInBounds_toArray, List.set_cons_zero, List.set_cons_succ]
      refine wpAnyH_take (i := 6) (v := ?_) (oper_at (r := _) rfl) (by kernel_rfl) (by kernel_rfl) (by kernel_rfl) (fun _ _ _ h => h) (Or.inl ⟨by rfl, ?_⟩) (by assumption) ?_
      rotate_left
      · intro w hSw; try dsimp only at hSw
        go_simp
        try with_reducible rfl
      try simp only [Act.put, List.setIfInBounds_toArray, List.set_cons_zero, List.set_cons_succ]
      refine wpAnyH_take (i := 7) (v := ?_) (oper_at (r := _) rfl) (by kernel_rfl) (by kernel_rfl) (by kernel_rfl) (fun _ _ _ h => h) (Or.inl ⟨by rfl, ?_⟩) (by assumption) ?_
      rotate_left
      · intro w hSw; try dsimp only at hSw
        go_simp
        try with_reducible rfl
      try simp only [Act.put, List.setIfInBounds_toArray, List.set_cons_zero, List.set_cons_succ]
      refine wpAnyH_ready (rs := [3]) (by kernel_rfl) (by simp) ?_
      refine AllReadyH.cons (oper_at (r := _) rfl) (fun K hK => ?_) AllReadyH.nil
      go_simp
      refine (HCP.out _ SV_wf.out.1).mono ?_
      rintro e W9 ⟨⟨X1, x1, Y1, y1, rfl, r1, r2⟩, hb⟩
      have SV_W9 := Lib.hid (SV_wf.out.up hb)
      have B_W9 := Lib.hid (B_wf.out.up hb)
      have M_W9 := Lib.hid (M_wf.out.up hb)
      have WD_W9 := Lib.hid (WD_wf.out.trans (hb.mono WD_wf.out.size))
      clear SV_wf B_wf M_wf WD_wf
      have R1_W9 := Lib.hid r1
      have R2_W9 := Lib.hid r2
      clear hb r1 r2
      go_wp2_with fail
      refine hK.out _ _ (HM_wf.out _ WD_W9.out) (fun _ => ?_)
      clear hK K
      try simp only [Act.put, List.setIfInBounds_toArray, List.set_cons_zero, List.set_cons_succ]
      refine wpAnyH_ready (rs := [4]) (by kernel_rfl) (by simp) ?_
      refine AllReadyH.cons (oper_at (r := _) rfl) (fun K hK => ?_) AllReadyH.nil
      go_simp
      refine (HVM.out _ SV_W9.out.1 X1 x1 Y1 y1 R1_W9.out R2_W9.out).mono ?_
      rintro e W10 ⟨rfl, hb⟩
      have SV_W10 := Lib.hid (SV_W9.out.up hb)
      have B_W10 := Lib.hid (B_W9.out.up hb)
      have M_W10 := Lib.hid (M_W9.out.up hb)
      have WD_W10 := Lib.hid (WD_W9.out.trans (hb.mono WD_W9.out.size))
      have R1_W10 := Lib.hid (Reads.up R1_W9.out hb)
      have R2_W10 := Lib.hid (Reads.up R2_W9.out hb)
      clear SV_W9 B_W9 M_W9 WD_W9 R1_W9 R2_W9
      clear hb 
      go_wp2_with fail
      refine hK.out _ _ (HM_wf.out _ WD_W10.out) (fun _ => ?_)
      clear hK K
      try simp only [Act.put, List.setIfInBounds_toArray, List.set_cons_zero, List.set_cons_succ]
      refine wpAnyH_ready (rs := [8]) (by kernel_rfl) (by simp) ?_
      refine AllReadyH.cons (oper_at (r := _) rfl) (fun K hK => ?_) AllReadyH.nil
      go_simp
      refine (HVR.out _ SV_W10.out.1).mono ?_
      rintro e W11 ⟨rfl, hb⟩
      have SV_W11 := Lib.hid (SV_W10.out.up hb)
      have B_W11 := Lib.hid (B_W10.out.up hb)
      have M_W11 := Lib.hid (M_W10.out.up hb)
      have WD_W11 := Lib.hid (WD_W10.out.trans (hb.mono WD_W10.out.size))
      have R1_W11 := Lib.hid (Reads.up R1_W10.out hb)
      have R2_W11 := Lib.hid (Reads.up R2_W10.out hb)
      clear SV_W10 B_W10 M_W10 WD_W10 R1_W10 R2_W10
      clear hb 
      go_wp2_with fail
      refine hK.out _ _ (HM_wf.out _ WD_W11.out) (fun _ => ?_)
      clear hK K
      try simp only [Act.put, List.setIfInBounds_toArray, List.set_cons_zero, List.set_cons_succ]
      refine wpAnyH_take (i := 9) (v := ?_) (oper_at (r := _) rfl) (by kernel_rfl) (by kernel_rfl) (by kernel_rfl) (fun _ _ _ h => h) (Or.inl ⟨by rfl, ?_⟩) (by assumption) ?_
      rotate_left
      · intro w hSw; try dsimp only at hSw
        go_simp
        try with_reducible rfl
      try simp only [Act.put, List.setIfInBounds_toArray, List.set_cons_zero, List.set_cons_succ]
      refine wpAnyH_take (i := 10) (v := ?_) (oper_at (r := _) rfl) (by kernel_rfl) (by kernel_rfl) (by kernel_rfl) (fun _ _ _ h => h) (Or.inl ⟨by rfl, ?_⟩) (by assumption) ?_
      rotate_left
      · intro w hSw; try dsimp only at hSw
        go_simp
        try with_reducible rfl
      try simp only [Act.put, List.setIfInBounds_toArray, List.set_cons_zero, List.set_cons_succ]
      refine wpAnyH_take (i := 11) (v := ?_) (oper_at (r := _) rfl) (by kernel_rfl) (by kernel_rfl) (by kernel_rfl) (fun _ _ _ h => h) (Or.inl ⟨by rfl, ?_⟩) (by assumption) ?_
      rotate_left
      · intro w hSw; try dsimp only at hSw
        go_simp
        try with_reducible rfl
      try simp only [Act.put, List.setIfInBounds_toArray, List.set_cons_zero, List.set_cons_succ]
      refine wpAnyH_take (i := 12) (v := ?_) (oper_at (r := _) rfl) (by kernel_rfl) (by kernel_rfl) (by kernel_rfl) (fun _ _ _ h => h) (Or.inl ⟨by rfl, ?_⟩) (by assumption) ?_
      rotate_left
      · intro w hSw; try dsimp only at hSw
        go_simp
        try with_reducible rfl
      try simp only [Act.put, List.setIfInBounds_toArray, List.set_cons_zero, List.set_cons_succ]
      refine wpAnyH_take (i := 13) (v := ?_) (oper_at (r := _) rfl) (by kernel_rfl) (by kernel_rfl) (by kernel_rfl) (fun _ _ _ h => h) (Or.inl ⟨by rfl, ?_⟩) (by assumption) ?_
      rotate_left
      · intro w hSw; try dsimp only at hSw
        go_simp
        try with_reducible rfl
      try simp only [Act.put, List.setIfInBounds_toArray, List.set_cons_zero, List.set_cons_succ]
      refine wpAnyH_take (i := 16) (v := ?_) (oper_at (r := _) rfl) (by kernel_rfl) (by kernel_rfl) (by kernel_rfl) (fun _ _ _ h => h) (Or.inl ⟨by rfl, ?_⟩) (by assumption) ?_
      rotate_left
      · intro w hSw; try dsimp only at hSw
        go_simp
        try with_reducible rfl
      try simp only [Act.put, List.setIfInBounds_toArray, List.set_cons_zero, List.set_cons_succ]
      refine wpAnyH_take (i := 17) (v := ?_) (oper_at (r := _) rfl) (by kernel_rfl) (by kernel_rfl) (by kernel_rfl) (fun _ _ _ h => h) (Or.inl ⟨by rfl, ?_⟩) (by assumption) ?_
      rotate_left
      · intro w hSw; try dsimp only at hSw
        go_simp
        try with_reducible rfl
      try simp only [Act.put, List.setIfInBounds_toArray, List.set_cons_zero, List.set_cons_succ]
      refine wpAnyH_take (i := 18) (v := ?_) (oper_at (r := _) rfl) (by kernel_rfl) (by kernel_rfl) (by kernel_rfl) (fun _ _ _ h => h) (Or.inl ⟨by rfl, ?_⟩) (by assumption) ?_
      rotate_left
      · intro w hSw; try dsimp only at hSw
        go_simp
        try with_reducible rfl
      try simp only [Act.put, List.setIfInBounds_toArray, List.set_cons_zero, List.set_cons_succ]
      refine wpAnyH_ready (rs := [14]) (by kernel_rfl) (by simp) ?_
      refine AllReadyH.cons (oper_at (r := _) rfl) (fun K hK => ?_) AllReadyH.nil
      go_simp
      refine (HCP.out _ SV_W11.out.1).mono ?_
      rintro e W12 ⟨⟨X2, x2, Y2, y2, rfl, r1, r2⟩, hb⟩
      have SV_W12 := Lib.hid (SV_W11.out.up hb)
      have B_W12 := Lib.hid (B_W11.out.up hb)
      have M_W12 := Lib.hid (M_W11.out.up hb)
      have WD_W12 := Lib.hid (WD_W11.out.trans (hb.mono WD_W11.out.size))
      clear SV_W11 B_W11 M_W11 WD_W11
      have R1_W12 := Lib.hid r1
      have R2_W12 := Lib.hid r2
      clear hb r1 r2
      go_wp2_with fail
      refine hK.out _ _ (HM_wf.out _ WD_W12.out) (fun _ => ?_)
      clear hK K
      try simp only [Act.put, List.setIfInBounds_toArray, List.set_cons_zero, List.set_cons_succ]
      refine wpAnyH_ready (rs := [15]) (by kernel_rfl) (by simp) ?_
      refine AllReadyH.cons (oper_at (r := _) rfl) (fun K hK => ?_) AllReadyH.nil
      go_simp
      refine (HIM.out _ SV_W12.out.1 X2 x2 Y2 y2 R1_W12.out R2_W12.out).mono ?_
      rintro e W13 ⟨rfl, hb⟩
      have SV_W13 := Lib.hid (SV_W12.out.up hb)
      have B_W13 := Lib.hid (B_W12.out.up hb)
      have M_W13 := Lib.hid (M_W12.out.up hb)
      have WD_W13 := Lib.hid (WD_W12.out.trans (hb.mono WD_W12.out.size))
      have R1_W13 := Lib.hid (Reads.up R1_W12.out hb)
      have R2_W13 := Lib.hid (Reads.up R2_W12.out hb)
      clear SV_W12 B_W12 M_W12 WD_W12 R1_W12 R2_W12
      clear hb 
      go_wp2_with fail
      refine hK.out _ _ (HM_wf.out _ WD_W13.out) (fun _ => ?_)
      clear hK K
      try simp only [Act.put, List.setIfInBounds_toArray, List.set_cons_zero, List.set_cons_succ]
      refine wpAnyH_ready (rs := [19]) (by kernel_rfl) (by simp) ?_
      refine AllReadyH.cons (oper_at (r := _) rfl) (fun K hK => ?_) AllReadyH.nil
      go_simp
      refine (HIR.out _ SV_W13.out.1).mono ?_
      rintro e W14 ⟨rfl, hb⟩
      have SV_W14 := Lib.hid (SV_W13.out.up hb)
      have B_W14 := Lib.hid (B_W13.out.up hb)
      have M_W14 := Lib.hid (M_W13.out.up hb)
      have WD_W14 := Lib.hid (WD_W13.out.trans (hb.mono WD_W13.out.size))
      have R1_W14 := Lib.hid (Reads.up R1_W13.out hb)
      have R2_W14 := Lib.hid (Reads.up R2_W13.out hb)
      clear SV_W13 B_W13 M_W13 WD_W13 R1_W13 R2_W13
      clear hb 
      go_wp2_with fail
      refine hK.out _ _ (HM_wf.out _ WD_W14.out) (fun _ => ?_)
      clear hK K
      try simp only [Act.put, List.setIfInBounds_toArray, List.set_cons_zero, List.set_cons_succ]
      refine wpAnyH_take (i := 20) (v := ?_) (oper_at (r := _) rfl) (by kernel_rfl) (by kernel_rfl) (by kernel_rfl) (fun _ _ _ h => h) (Or.inl ⟨by rfl, ?_⟩) (by assumption) ?_
      rotate_left
      · intro w hSw; try dsimp only at hSw
        go_simp
        try with_reducible rfl
      try simp only [Act.put, List.setIfInBounds_toArray, List.set_cons_zero, List.set_cons_succ]
      refine wpAnyH_take (i := 21) (v := ?_) (oper_at (r := _) rfl) (by kernel_rfl) (by kernel_rfl) (by kernel_rfl) (fun _ _ _ h => h) (Or.inl ⟨by rfl, ?_⟩) (by assumption) ?_
      rotate_left
      · intro w hSw; try dsimp only at hSw
        go_simp
        try with_reducible rfl
      try simp only [Act.put, List.setIfInBounds_toArray, List.set_cons_zero, List.set_cons_succ]
      refine wpAnyH_take (i := 22) (v := ?_) (oper_at (r := _) rfl) (by kernel_rfl) (by kernel_rfl) (by kernel_rfl) (fun _ _ _ h => h) (Or.inl ⟨by rfl, ?_⟩) (by assumption) ?_
      rotate_left
      · intro w hSw; try dsimp only at hSw
        go_simp
        try with_reducible rfl
      try simp only [Act.put, List.setIfInBounds_toArray, List.set_cons_zero, List.set_cons_succ]
      refine wpAnyH_take (i := 23) (v := ?_) (oper_at (r := _) rfl) (by kernel_rfl) (by kernel_rfl) (by kernel_rfl) (fun _ _ _ h => h) (Or.inl ⟨by rfl, ?_⟩) (by assumption) ?_
      rotate_left
      · intro w hSw; try dsimp only at hSw
        go_simp
        try with_reducible rfl
      try simp only [Act.put, List.setIfInBounds_toArray, List.set_cons_zero, List.set_cons_succ]
      refine wpAnyH_take (i := 24) (v := ?_) (oper_at (r := _) rfl) (by kernel_rfl) (by kernel_rfl) (by kernel_rfl) (fun _ _ _ h => h) (Or.inl ⟨by rfl, ?_⟩) (by assumption) ?_
      rotate_left
      · intro w hSw; try dsimp only at hSw
        go_simp
        try with_reducible rfl
      try simp only [Act.put, List.setIfInBounds_toArray, List.set_cons_zero, List.set_cons_succ]
      refine wpAnyH_take (i := 25) (v := ?_) (oper_at (r := _) rfl) (by kernel_rfl) (by kernel_rfl) (by kernel_rfl) (fun _ _ _ h => h) (Or.inl ⟨by rfl, ?_⟩) (by assumption) ?_
      rotate_left
      · intro w hSw; try dsimp only at hSw
        go_simp
        try with_reducible rfl
      try simp only [Act.put, List.setIfInBounds_toArray, List.set_cons_zero, List.set_cons_succ]
      refine wpAnyH_take (i := 28) (v := ?_) (oper_at (r := _) rfl) (by kernel_rfl) (by kernel_rfl) (by kernel_rfl) (fun _ _ _ h => h) (Or.inl ⟨by rfl, ?_⟩) (by assumption) ?_
      rotate_left
      · intro w hSw; try dsimp only at hSw
        go_simp
        try with_reducible rfl
      try simp only [Act.put, List.setIfInBounds_toArray, List.set_cons_zero, List.set_cons_succ]
      refine wpAnyH_take (i := 29) (v := ?_) (oper_at (r := _) rfl) (by kernel_rfl) (by kernel_rfl) (by kernel_rfl) (fun _ _ _ h => h) (Or.inl ⟨by rfl, ?_⟩) (by assumption) ?_
      rotate_left
      · intro w hSw; try dsimp only at hSw
        go_simp
        try with_reducible rfl
      try simp only [Act.put, List.setIfInBounds_toArray, List.set_cons_zero, List.set_cons_succ]
      refine wpAnyH_take (i := 30) (v := ?_) (oper_at (r := _) rfl) (by kernel_rfl) (by kernel_rfl) (by kernel_rfl) (fun _ _ _ h => h) (Or.inl ⟨by rfl, ?_⟩) (by assumption) ?_
      rotate_left
      · intro w hSw; try dsimp only at hSw
        go_simp
        try with_reducible rfl
      try simp only [Act.put, List.setIfInBounds_toArray, List.set_cons_zero, List.set_cons_succ]
      refine wpAnyH_ready (rs := [26]) (by kernel_rfl) (by simp) ?_
      refine AllReadyH.cons (oper_at (r := _) rfl) (fun K hK => ?_) AllReadyH.nil
      go_simp
      refine (HCP.out _ SV_W14.out.1).mono ?_
      rintro e W15 ⟨⟨X3, x3, Y3, y3, rfl, r1, r2⟩, hb⟩
      have SV_W15 := Lib.hid (SV_W14.out.up hb)
      have B_W15 := Lib.hid (B_W14.out.up hb)
      have M_W15 := Lib.hid (M_W14.out.up hb)
      have WD_W15 := Lib.hid (WD_W14.out.trans (hb.mono WD_W14.out.size))
      clear SV_W14 B_W14 M_W14 WD_W14
      have R1_W15 := Lib.hid r1
      have R2_W15 := Lib.hid r2
      clear hb r1 r2
      go_wp2_with fail
      refine hK.out _ _ (HM_wf.out _ WD_W15.out) (fun _ => ?_)
      clear hK K
      try simp only [Act.put, List.setIfInBounds_toArray, List.set_cons_zero, List.set_cons_succ]
      refine wpAnyH_ready (rs := [27]) (by kernel_rfl) (by simp) ?_
      refine AllReadyH.cons (oper_at (r := _) rfl) (fun K hK => ?_) AllReadyH.nil
      go_simp
      refine (HSM.out _ SV_W15.out.1 X3 x3 Y3 y3 R1_W15.out R2_W15.out).mono ?_
      rintro e W16 ⟨rfl, hb⟩
      have SV_W16 := Lib.hid (SV_W15.out.up hb)
      have B_W16 := Lib.hid (B_W15.out.up hb)
      have M_W16 := Lib.hid (M_W15.out.up hb)
      have WD_W16 := Lib.hid (WD_W15.out.trans (hb.mono WD_W15.out.size))
      have R1_W16 := Lib.hid (Reads.up R1_W15.out hb)
      have R2_W16 := Lib.hid (Reads.up R2_W15.out hb)
      clear SV_W15 B_W15 M_W15 WD_W15 R1_W15 R2_W15
      clear hb 
      go_wp2_with fail
      refine hK.out _ _ (HM_wf.out _ WD_W16.out) (fun _ => ?_)
      clear hK K
      try simp only [Act.put, List.setIfInBounds_toArray, List.set_cons_zero, List.set_cons_succ]
      refine wpAnyH_ready (rs := [31]) (by kernel_rfl) (by simp) ?_
      refine AllReadyH.cons (oper_at (r := _) rfl) (fun K hK => ?_) AllReadyH.nil
      go_simp
      refine (HSR.out _ SV_W16.out.1).mono ?_
      rintro e W17 ⟨rfl, hb⟩
      have SV_W17 := Lib.hid (SV_W16.out.up hb)
      have B_W17 := Lib.hid (B_W16.out.up hb)
      have M_W17 := Lib.hid (M_W16.out.up hb)
      have WD_W17 := Lib.hid (WD_W16.out.trans (hb.mono WD_W16.out.size))
      have R1_W17 := Lib.hid (Reads.up R1_W16.out hb)
      have R2_W17 := Lib.hid (Reads.up R2_W16.out hb)
      clear SV_W16 B_W16 M_W16 WD_W16 R1_W16 R2_W16
      clear hb 
      go_wp2_with fail
      refine hK.out _ _ (HM_wf.out _ WD_W17.out) (fun _ => ?_)
      clear hK K
      try simp only [Act.put, List.setIfInBounds_toArray, List.set_cons_zero, List.set_cons_succ]
      refine wpAnyH_take (i := 32) (v := ?_) (oper_at (r := _) rfl) (by kernel_rfl) (by kernel_rfl) (by kernel_rfl) (fun _ _ _ h => h) (Or.inl ⟨by rfl, ?_⟩) (by assumption) ?_
      rotate_left
      · intro w hSw; try dsimp only at hSw
        go_simp
        try with_reducible rfl
      try simp only [Act.put, List.setIfInBounds_toArray, List.set_cons_zero, List.set_cons_succ]
      refine wpAnyH_take (i := 33) (v := ?_) (oper_at (r := _) rfl) (by kernel_rfl) (by kernel_rfl) (by kernel_rfl) (fun _ _ _ h => h) (Or.inl ⟨by rfl, ?_⟩) (by assumption) ?_
      rotate_left
      · intro w hSw; try dsimp only at hSw
        go_simp
        try with_reducible rfl
      try simp only [Act.put, List.setIfInBounds_toArray, List.set_cons_zero, List.set_cons_succ]
      refine wpAnyH_take (i := 34) (v := ?_) (oper_at (r := _) rfl) (by kernel_rfl) (by kernel_rfl) (by kernel_rfl) (fun _ _ _ h => h) (Or.inl ⟨by rfl, ?_⟩) (by assumption) ?_
      rotate_left
      · intro w hSw; try dsimp only at hSw
        go_simp
        try with_reducible rfl
      try simp only [Act.put, List.setIfInBounds_toArray, List.set_cons_zero, List.set_cons_succ]
      refine wpAnyH_done (by kernel_rfl) ?_ _
      refine NoPanic.normal ?_
      go_wp2_with fail
      go_ret
      exact ⟨rfl, SV_W17.out.1⟩

end Go.Proofs.YtaeelanbkdkppaaDoor

/-
  The statement MorphismValid: the law answers true for every input, and its arguments read as they did; its card.
-/
namespace Go.Proofs.YtaeelanbkdkppaaDoor.morphismValid
open Go.ChangeShapes Go.WideShapes Go.ChangeAt Go.RowKit Go.Deep

set_option maxRecDepth 100000 in
theorem lifted (os : Os) (started : os.Started) (H : Type) (enc : TypeId × Value → H) :
    ReturnsInHanded {} Tryd.checked os 3 .any (fun w args => (Rows.morphismValidSpec.pre enc Tryd.prog Tryd.f3 Rows.morphismValidRow.domain false w args ∧ laidMetH Tryd.prog laidL w) ∧ sizedMet enc Tryd.prog Tryd.f3 (OpenSpec.ofChange Rows.morphismValidSpec) false w args)
      (Rows.morphismValidSpec.post enc Tryd.prog Tryd.f3 false true false false) := by
  refine returnsInHanded_of_change_and (C := Tryd.checked) (X := fun w _ => laidMetH Tryd.prog laidL w) (fun _ _ _ hh h => h.of_heap hh) ownNone started (by kernel_rfl) Tryd.func3
    (ChangeSpec.witness_shaped (enc := enc) (C := Tryd.checked) (os := os) (X := fun w _ => laidMetH Tryd.prog laidL w) false (World.laidAll Tryd.prog os laidL) #[.agg #[.slice none 0 0, .slice none 0 0], .agg #[.slice none 0 0, .slice none 0 0, .slice none 0 0, .slice none 0 0]] 8 (World.laidAll_os _ _ _)
      (shaped os _) (by kernel_rfl) (by kernel_rfl) (by kernel_rfl) (met os _)) ?_
  intro W base args ds gs before hval0 hW hcnd hsz0 hL _
  have hval : ∀ (j : Nat) t v, Tryd.f3.params[j]? = some t → args[j]? = some v → Value.okWide Tryd.prog W .any base t v := hval0
  have hsz : (DataW.weightsEach Tryd.prog (Tryd.f3.params.toList ++ Rows.morphismValidSpec.plain.varTypes Tryd.prog) (ds ++ gs)).all (· ≤ reachBytes) = true := hsz0
  obtain ⟨hTab, h00⟩ := tab_of_laid hL
  have hW' := hW
  obtain ⟨p, q, hA0, hV, rfl, hfz, hnd⟩ := hW
  have hA : DataW.TrodAll enc Tryd.prog W 0 (fun _ => true) true Tryd.f3.params.toList args.toList ds p := hA0
  rw [Tryd.params3] at hA hval hsz
  obtain ⟨v0, v1, d0, d1, p0, p1, rfl, rfl, rfl, h0, h1⟩ := trodAll_two hA
  obtain ⟨rfl, rfl⟩ := trodVars_none hV
  clear hA0 hval0 hsz0 hL hcnd
  simp only [List.append_nil] at hW'
  have hlt : ∀ x ∈ p0 ++ p1, x.block < W.heap.size := fun x hx => by simpa using hW'.lt x (by simpa using hx)
  have k0 := h0
  obtain ⟨cs0, rfl, _⟩ := okWide_struct Tryd.underlying25 (hval 0 25 v0 rfl rfl)
  obtain ⟨f0, g0⟩ := h0
  obtain ⟨t0, An0, cn0, Ae0, ce0, e0, hT0⟩ := open_G g0
  obtain rfl := agg_of (e0)
  have k1 := h1
  obtain ⟨cs1, rfl, _⟩ := okWide_struct Tryd.underlying29 (hval 1 29 v1 rfl rfl)
  obtain ⟨f1, g1⟩ := h1
  obtain ⟨t1, e1, hT1⟩ := open_R g1 (fun n hn => by simpa using List.all_eq_true.1 hsz n (DataW.weights_mem_each (j := 1) rfl rfl n hn))
  obtain rfl := agg_of (e1)
  refine (lawValid t0 An0 cn0 Ae0 ce0 t1 W h00 hTab hT0 hT1).mono fun e W' ⟨he, hg⟩ => ?_
  subst he
  exact ⟨_, rfl, _, _, _, [], p0 ++ p1, [], hW', trodAll_cons_mk (shut_bool Tryd.underlying4 _) trodAll_mk0, trodAll_mk2 (Below.trod laidOut (by kernel_rfl) (of_decide_eq_true (by kernel_rfl)) k0 hg (fun x hx => hlt x (List.mem_append_left _ hx))) (Below.trod laidOut (by kernel_rfl) (of_decide_eq_true (by kernel_rfl)) k1 hg (fun x hx => hlt x (List.mem_append_right _ hx))), rfl, hg.frame _, fun h => by cases h⟩

theorem f_holds : Rows.MorphismValidSaid :=
  OpenClaim.holds_of_wide 3 Tryd.f3 rfl rfl rfl rfl rfl rfl rfl ⟨rfl, rfl, rfl, rfl, rfl⟩ rfl rfl rfl rfl rfl (by kernel_rfl) Tryd.func3 (by kernel_rfl)
    (of_decide_eq_true (by kernel_rfl)) (by unfold Func.isWrapper; first | (rw [if_pos (by decide +kernel)]; kernel_rfl) | (rw [if_neg (by decide +kernel)]; exact ⟨rfl, rfl⟩))
    (fun os started H enc _ => lifted os started H enc)

theorem proved : Rows.MorphismValidCardSaid :=
  Claim7.holds_tied_plain_at .later [] [.data] true (true, "be0e74ecbec61e216f1dec99b2fe76d9649797ab71005ecd4978206190a01235") false
    f_holds (fun _ h => by cases h) (by kernel_rfl) (fun _ h => by cases h) morphismValid_row_tie rfl ⟨rfl, rfl⟩ (by kernel_rfl) rfl
    (fun f fn hf hfn => by
      obtain rfl : f = 3 := Option.some.inj ((show Tryd.prog.funcNamed "scarfjoint/scarfjointlaw06.MorphismValid" = some 3 by kernel_rfl).symm.trans hf) |>.symm
      obtain rfl : fn = Tryd.f3 := (Option.some.inj (Tryd.func3.symm.trans hfn)).symm
      exact ⟨by kernel_rfl, fun j t ht => by
        rw [Tryd.params3] at ht
        have hm : t ∈ [25, 29] := List.mem_of_getElem? (by simpa using ht)
        have hs : ∀ t ∈ [25, 29], Tryd.prog.wantsStandIn t = false := by
          intro t ht
          simp only [List.mem_cons, List.not_mem_nil, or_false] at ht
          rcases ht with rfl | rfl <;> kernel_rfl
        exact hs t hm⟩)
    (by kernel_rfl)

end Go.Proofs.YtaeelanbkdkppaaDoor.morphismValid
