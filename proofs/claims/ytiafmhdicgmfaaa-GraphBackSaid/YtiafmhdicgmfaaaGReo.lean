/-
  Reorder of the program, on what is right. (Printed by mkreo.py.)
-/
import Derived.Test.YtiafmhdicgmfaaaGMkS
import Derived.Test.YtiafmhdicgmfaaaGMade
import Derived.Deep.DeepCutAuto
namespace Go.Proofs.Ytiafmhdicgmfaaa
open Go.RowKit

/-- the two arguments' boxes and the result -/
structure RX (w : World) (An : Option Addr) (cn : Nat) (Ae : Option Addr) (ce : Nat) (g : Gr) (Bn : Option Addr) (dn : Nat) (Be : Option Addr) (de : Nat) (m : Mo) (W : World) : Prop where
  r : RB w An cn Ae ce g Bn dn Be de m W
  res : Blk (w.heap.size + 2) 25 W
theorem RX.up {w : World} {An : Option Addr} {cn : Nat} {Ae : Option Addr} {ce : Nat} {g : Gr} {Bn : Option Addr} {dn : Nat} {Be : Option Addr} {de : Nat} {m : Mo} {W W' : World} (h : RX w An cn Ae ce g Bn dn Be de m W) (hb : Below W.heap.size W W') : RX w An cn Ae ce g Bn dn Be de m W' := ⟨h.r.up hb, h.res.up hb⟩
theorem RX.start {w : World} {An : Option Addr} {cn : Nat} {Ae : Option Addr} {ce : Nat} {g : Gr} {Bn : Option Addr} {dn : Nat} {Be : Option Addr} {de : Nat} {m : Mo} (h1 : GrAt w An cn Ae ce g) (h2 : MoAt w Bn dn Be de m) :
    RX w An cn Ae ce g Bn dn Be de m (((w.alloc (.cells #[.slice An g.ns.length cn, .slice Ae g.es.length ce] 25 (0, 0))).alloc (.cells #[.slice Bn m.ns.length dn, .slice Be m.es.length de] 40 (0, 0))).alloc (.cells #[.slice none 0 0, .slice none 0 0] 25 (0, 0))) := by
  have h := RB.start h1 h2
  have hs : ((w.alloc (.cells #[.slice An g.ns.length cn, .slice Ae g.es.length ce] 25 (0, 0))).alloc (.cells #[.slice Bn m.ns.length dn, .slice Be m.es.length de] 40 (0, 0))).heap.size = w.heap.size + 2 := by simp
  refine ⟨h.up (below_a _ _), (.slice none 0 0), (.slice none 0 0), ?_⟩
  rw [← hs]
  exact heap_alloc_new _ _
theorem RX.lt {w : World} {An : Option Addr} {cn : Nat} {Ae : Option Addr} {ce : Nat} {g : Gr} {Bn : Option Addr} {dn : Nat} {Be : Option Addr} {de : Nat} {m : Mo} {W : World} (h : RX w An cn Ae ce g Bn dn Be de m W) : w.heap.size + 3 ≤ W.heap.size := by
  obtain ⟨x, y, hh⟩ := h.res
  have := heap_lt hh
  omega
/-- the new graph's box, the morphism's box, a cell -/
abbrev SR (bo : Nat) (u v : Value) (mb : Nat) (x y : Value) (cb co : Nat) (z : Value) (w1 W : World) : Prop := (((W.cell? ⟨bo, 0, none⟩ = some u ∧ W.cell? ⟨bo, 1, none⟩ = some v) ∧ (W.cell? ⟨mb, 0, none⟩ = some x ∧ W.cell? ⟨mb, 1, none⟩ = some y)) ∧ W.cell? ⟨cb, co, none⟩ = some z) ∧ (BoxIs bo u v 25 W ∧ Below w1.heap.size w1 W)
abbrev SQ (bo : Nat) (u v : Value) (mb : Nat) (x y : Value) (cb co : Nat) (z : Value) (eb : Nat) (e : Ed) (w1 W : World) : Prop := ((((W.cell? ⟨bo, 0, none⟩ = some u ∧ W.cell? ⟨bo, 1, none⟩ = some v) ∧ (W.cell? ⟨mb, 0, none⟩ = some x ∧ W.cell? ⟨mb, 1, none⟩ = some y)) ∧ W.cell? ⟨cb, co, none⟩ = some z) ∧ (W.cell? ⟨eb, 0, none⟩ = some (.int .i64 e.ty) ∧ W.cell? ⟨eb, 1, none⟩ = some (.int .i64 e.fr) ∧ W.cell? ⟨eb, 2, none⟩ = some (.int .i64 e.to))) ∧ (BoxIs bo u v 25 W ∧ EdIs eb e W ∧ Below w1.heap.size w1 W)

set_option maxRecDepth 100000 in
set_option maxHeartbeats 8000000 in
theorem reo_any (g : Gr) (m : Mo) (An : Option Addr) (cn : Nat) (Ae : Option Addr) (ce : Nat) (Bn : Option Addr) (dn : Nat) (Be : Option Addr) (de : Nat) (w : World) (hv : validE g = 0) (p1 : PermN m.ns g.ns.length) (p2 : PermN m.es g.es.length) (hT : GrAt w An cn Ae ce g) (hM : MoAt w Bn dn Be de m) :
    Calls Try.prog 37 #[gval An g.ns.length cn Ae g.es.length ce, gval Bn m.ns.length dn Be m.es.length de] w fun e w' => (∃ v, e = .returned (.tuple #[v, .int .i64 0]) ∧ IsG w' v (reoG g m)) ∧ Below w.heap.size w w' := by
  have HX0 := Lib.hid (RX.start hT hM)
  have HXU := Lib.hid (fun W W' (h : RX w An cn Ae ce g Bn dn Be de m W) hb => RX.up (W' := W') h hb)
  have HCR := Lib.hid (fun W (h : RX w An cn Ae ce g Bn dn Be de m W) => checkReo_any g m An cn Ae ce Bn dn Be de W hv p1 p2 h.r.b0.gr h.r.b1.mo)
  have HT := Lib.hid hT
  have HM := Lib.hid hM
  have HV := Lib.hid hv
  have HP1 := Lib.hid p1
  have HP2 := Lib.hid p2
  obtain ⟨v1, v2, _⟩ := valid_zero hv
  have HL1 := Lib.hid p1.len
  have HL2 := Lib.hid p2.len
  have HNS : Hid (∀ i, reoN g m (i + 1) = (reoN g m i).set (m.ns.getD i 0).toNat (g.ns.getD i 0)) := Lib.hid fun i => rfl
  have HES : Hid (∀ j, reoE g m (j + 1) = (reoE g m j).set (m.es.getD j 0).toNat (mvE m.ns (g.es.getD j default))) := Lib.hid fun j => rfl
  have HN0 : Hid (reoN g m 0 = List.replicate g.ns.length 0) := Lib.hid rfl
  have HE0 : Hid (reoE g m 0 = List.replicate g.es.length default) := Lib.hid rfl
  have HNL := Lib.hid (fun i => scat_len m.ns (fun i => g.ns.getD i 0) 0 g.ns.length i)
  have HEL := Lib.hid (fun j => scat_len m.es (fun j => mvE m.ns (g.es.getD j default)) default g.es.length j)
  have HRG : Hid (reoG g m = ⟨reoN g m g.ns.length, reoE g m g.es.length⟩) := Lib.hid rfl
  clear hT hM hv p1 p2
  go_enter Try.func37, Try.ntmps37
  go_wp2_with fail
  refine (HCR.out _ HX0.out).mono ?_
  rintro e w1 ⟨rfl, hb1⟩
  have HX1 := Lib.hid (HXU.out _ _ HX0.out hb1)
  clear hb1 HX0 HCR
  have HX := Lib.hid (fun W (h : Below w1.heap.size w1 W) => HXU.out w1 W HX1.out h)
  have hl1 := HX1.out.lt
  obtain ⟨c0, c1⟩ := HX1.out.r.b0.cells
  have y0 : w.heap.size < w1.heap.size := by omega
  go_upto_region 4 with (fail)
  go_cut [7] (fun u wx => ∃ bo gn ge, u = .pointer (some ⟨bo, 0, none⟩) ∧ BoxIs bo (.slice (some ⟨gn, 0, none⟩) g.ns.length g.ns.length) (.slice (some ⟨ge, 0, none⟩) g.es.length g.es.length) 25 wx ∧ OwnI wx w1.heap.size (.slice (some ⟨gn, 0, none⟩) g.ns.length g.ns.length) (List.replicate g.ns.length 0) ∧ OwnEd wx w1.heap.size (.slice (some ⟨ge, 0, none⟩) g.es.length g.es.length) (List.replicate g.es.length default) ∧ w1.heap.size ≤ bo ∧ w1.heap.size ≤ gn ∧ w1.heap.size ≤ ge ∧ Below w1.heap.size w1 wx)
  case first =>
    go_wp2_with fail
    clear c0 c1 y0
    refine wp_region_noPanic ?_
    refine wp_region_held_drew (S := fun W => Below w1.heap.size w1 W) (by kernel_rfl) (below_d w1) (fun hHeld => ?_)
    refine wpAnyH_take (i := 0) (v := ?_) (op_at (r := _) rfl) (by kernel_rfl) (by kernel_rfl) (by kernel_rfl) (fun _ _ _ h => h) (Or.inl ⟨by rfl, ?_⟩) (by assumption) ?_
    rotate_left
    · intro W2 hSw
      obtain ⟨c0, c1⟩ := (HX.out _ hSw).r.b0.cells
      go_simp
      try with_reducible rfl
    try simp only [Act.put, List.setIfInBounds_toArray, List.set_cons_zero, List.set_cons_succ]
    refine wpAnyH_take (i := 1) (v := ?_) (op_at (r := _) rfl) (by kernel_rfl) (by kernel_rfl) (by kernel_rfl) (fun _ _ _ h => h) (Or.inl ⟨by rfl, ?_⟩) (by assumption) ?_
    rotate_left
    · intro W2 hSw
      obtain ⟨c0, c1⟩ := (HX.out _ hSw).r.b0.cells
      go_simp
      try with_reducible rfl
    try simp only [Act.put, List.setIfInBounds_toArray, List.set_cons_zero, List.set_cons_succ]
    refine wpAnyH_take (i := 2) (v := ?_) (op_at (r := _) rfl) (by kernel_rfl) (by kernel_rfl) (by kernel_rfl) (fun _ _ _ h => h) (Or.inl ⟨by rfl, ?_⟩) (by assumption) ?_
    rotate_left
    · intro W2 hSw
      obtain ⟨c0, c1⟩ := (HX.out _ hSw).r.b0.cells
      go_simp
      try with_reducible rfl
    try simp only [Act.put, List.setIfInBounds_toArray, List.set_cons_zero, List.set_cons_succ]
    refine wpAnyH_take (i := 4) (v := ?_) (op_at (r := _) rfl) (by kernel_rfl) (by kernel_rfl) (by kernel_rfl) (fun _ _ _ h => h) (Or.inl ⟨by rfl, ?_⟩) (by assumption) ?_
    rotate_left
    · intro W2 hSw
      obtain ⟨c0, c1⟩ := (HX.out _ hSw).r.b0.cells
      go_simp
      try with_reducible rfl
    try simp only [Act.put, List.setIfInBounds_toArray, List.set_cons_zero, List.set_cons_succ]
    refine wpAnyH_take (i := 5) (v := ?_) (op_at (r := _) rfl) (by kernel_rfl) (by kernel_rfl) (by kernel_rfl) (fun _ _ _ h => h) (Or.inl ⟨by rfl, ?_⟩) (by assumption) ?_
    rotate_left
    · intro W2 hSw
      obtain ⟨c0, c1⟩ := (HX.out _ hSw).r.b0.cells
      go_simp
      try with_reducible rfl
    try simp only [Act.put, List.setIfInBounds_toArray, List.set_cons_zero, List.set_cons_succ]
    refine wpAnyH_take (i := 6) (v := ?_) (op_at (r := _) rfl) (by kernel_rfl) (by kernel_rfl) (by kernel_rfl) (fun _ _ _ h => h) (Or.inl ⟨by rfl, ?_⟩) (by assumption) ?_
    rotate_left
    · intro W2 hSw
      obtain ⟨c0, c1⟩ := (HX.out _ hSw).r.b0.cells
      go_simp
      try with_reducible rfl
    try simp only [Act.put, List.setIfInBounds_toArray, List.set_cons_zero, List.set_cons_succ]
    have B0 := Lib.hid (below_d w1)
    generalize w1.drew = wd at *
    refine wpAnyH_ready (rs := [3, 7, 9]) (by kernel_rfl) (by simp) ?_
    refine AllReadyH.cons (op_at (r := _) rfl) (fun K hK => ?_) (AllReadyH.cons (op_at (r := _) rfl) (fun K hK => ?_) (AllReadyH.cons (op_at (r := _) rfl) (fun K hK => ?_) AllReadyH.nil))
    · skip
      refine step_make_I (by rfl) _ _ (by rfl) w1.heap.size g.ns.length (by rfl) (by rfl) (by omega) B0.out.size ?_
      intro wa1 hn1 hb1 hs1
      have G1 := Lib.hid hn1
      have BB1 := Lib.hid (B0.out.trans (hb1.mono B0.out.size))
      have le1 : w1.heap.size ≤ wd.heap.size := B0.out.size
      clear hn1 hb1 hs1
      refine hK.out _ _ BB1.out (fun hHeld => ?_)
      clear hK K
      try simp only [Act.put, List.setIfInBounds_toArray, List.set_cons_zero, List.set_cons_succ]
      refine wpAnyH_ready (rs := [7, 9]) (by kernel_rfl) (by simp) ?_
      refine AllReadyH.cons (op_at (r := _) rfl) (fun K hK => ?_) (AllReadyH.cons (op_at (r := _) rfl) (fun K hK => ?_) AllReadyH.nil)
      · skip
        refine step_make_E (by rfl) _ _ (by rfl) w1.heap.size g.es.length (by rfl) (by rfl) (by omega) BB1.out.size ?_
        intro wa2 hn2 hb2 hs2
        have G2 := Lib.hid hn2
        have BB2 := Lib.hid (BB1.out.trans (hb2.mono BB1.out.size))
        have N2 := Lib.hid (OwnE.below G1.out hb2 (Nat.le_refl _))
        have le2 : w1.heap.size ≤ wa1.heap.size := BB1.out.size
        clear hn2 hb2 hs2
        refine hK.out _ _ BB2.out (fun hHeld => ?_)
        clear hK K
        try simp only [Act.put, List.setIfInBounds_toArray, List.set_cons_zero, List.set_cons_succ]
        refine wpAnyH_take (i := 8) (v := ?_) (op_at (r := _) rfl) (by kernel_rfl) (by kernel_rfl) (by kernel_rfl) (fun _ _ _ h => h) (Or.inl ⟨by rfl, ?_⟩) (by assumption) ?_
        rotate_left
        · intro W2 hSw
          skip
          go_simp
          try with_reducible rfl
        try simp only [Act.put, List.setIfInBounds_toArray, List.set_cons_zero, List.set_cons_succ]
        refine wpAnyH_ready (rs := [9]) (by kernel_rfl) (by simp) ?_
        refine AllReadyH.cons (op_at (r := _) rfl) (fun K hK => ?_) AllReadyH.nil
        · skip
          go_simp
          have hb3 := below_a wa2 (.cells #[.slice none 0 0, .slice none 0 0] 25 (0, 0))
          have G3 := Lib.hid (show BoxIs wa2.heap.size (.slice none 0 0) (.slice none 0 0) 25 (wa2.alloc (.cells #[.slice none 0 0, .slice none 0 0] 25 (0, 0))) from heap_alloc_new _ _)
          have BB3 := Lib.hid (BB2.out.trans (hb3.mono BB2.out.size))
          have N3 := Lib.hid (OwnE.below N2.out hb3 (Nat.le_refl _))
          have E3 := Lib.hid (OwnE.below G2.out hb3 (Nat.le_refl _))
          have le3 : w1.heap.size ≤ wa2.heap.size := BB2.out.size
          clear hb3
          refine hK.out _ _ BB3.out (fun hHeld => ?_)
          clear hK K
          try simp only [Act.put, List.setIfInBounds_toArray, List.set_cons_zero, List.set_cons_succ]
          generalize wa2.alloc (.cells #[.slice none 0 0, .slice none 0 0] 25 (0, 0)) = wa3 at *
          obtain ⟨q0, q1⟩ := G3.out.cells
          have f0 := G3.out.free 0
          have f1 := G3.out.free 1
          refine wpAnyH_ready (rs := [10]) (by kernel_rfl) (by simp) ?_
          refine AllReadyH.cons (op_at (r := _) rfl) (fun K hK => ?_) AllReadyH.nil
          go_simp
          refine hK.out _ _ ((BB3.out.setCell (p := ⟨wa2.heap.size, 0, none⟩) le3 _).setCell (p := ⟨wa2.heap.size, 1, none⟩) le3 _) (fun hHeld => ?_)
          clear hK K
          try simp only [Act.put, List.setIfInBounds_toArray, List.set_cons_zero, List.set_cons_succ]
          refine wpAnyH_done (by kernel_rfl) ?_ _
          refine NoPanic.normal ?_
          have F1 := Lib.hid ((OwnE.setBox (x := (.slice (some ⟨wd.heap.size, 0, none⟩) g.ns.length g.ns.length)) N3.out G3.out (by decide) 0).setBox (x := (.slice (some ⟨wa1.heap.size, 0, none⟩) g.es.length g.es.length)) (G3.out.set0 _) (by decide) 1)
          have F2 := Lib.hid ((OwnE.setBox (x := (.slice (some ⟨wd.heap.size, 0, none⟩) g.ns.length g.ns.length)) E3.out G3.out (by decide) 0).setBox (x := (.slice (some ⟨wa1.heap.size, 0, none⟩) g.es.length g.es.length)) (G3.out.set0 _) (by decide) 1)
          have F3 := Lib.hid ((G3.out.set0 (.slice (some ⟨wd.heap.size, 0, none⟩) g.ns.length g.ns.length)).set1 (.slice (some ⟨wa1.heap.size, 0, none⟩) g.es.length g.es.length))
          have F4 := Lib.hid ((BB3.out.setCell (p := ⟨wa2.heap.size, 0, none⟩) le3 (.slice (some ⟨wd.heap.size, 0, none⟩) g.ns.length g.ns.length)).setCell (p := ⟨wa2.heap.size, 1, none⟩) le3 (.slice (some ⟨wa1.heap.size, 0, none⟩) g.es.length g.es.length))
          go_wp2_with fail
          go_meet
          exact ⟨_, _, _, rfl, F3.out, F1.out, F2.out, le3, le1, le2, F4.out⟩
      · skip
        go_simp
        have hb4 := below_a wa1 (.cells #[.slice none 0 0, .slice none 0 0] 25 (0, 0))
        have G4 := Lib.hid (show BoxIs wa1.heap.size (.slice none 0 0) (.slice none 0 0) 25 (wa1.alloc (.cells #[.slice none 0 0, .slice none 0 0] 25 (0, 0))) from heap_alloc_new _ _)
        have BB4 := Lib.hid (BB1.out.trans (hb4.mono BB1.out.size))
        have N4 := Lib.hid (OwnE.below G1.out hb4 (Nat.le_refl _))
        have le4 : w1.heap.size ≤ wa1.heap.size := BB1.out.size
        clear hb4
        refine hK.out _ _ BB4.out (fun hHeld => ?_)
        clear hK K
        try simp only [Act.put, List.setIfInBounds_toArray, List.set_cons_zero, List.set_cons_succ]
        generalize wa1.alloc (.cells #[.slice none 0 0, .slice none 0 0] 25 (0, 0)) = wa4 at *
        refine wpAnyH_ready (rs := [7]) (by kernel_rfl) (by simp) ?_
        refine AllReadyH.cons (op_at (r := _) rfl) (fun K hK => ?_) AllReadyH.nil
        · skip
          refine step_make_E (by rfl) _ _ (by rfl) w1.heap.size g.es.length (by rfl) (by rfl) (by omega) BB4.out.size ?_
          intro wa5 hn5 hb5 hs5
          have G5 := Lib.hid hn5
          have BB5 := Lib.hid (BB4.out.trans (hb5.mono BB4.out.size))
          have N5 := Lib.hid (OwnE.below N4.out hb5 (Nat.le_refl _))
          have X5 := Lib.hid (G4.out.up hb5)
          have le5 : w1.heap.size ≤ wa4.heap.size := BB4.out.size
          clear hn5 hb5 hs5
          refine hK.out _ _ BB5.out (fun hHeld => ?_)
          clear hK K
          try simp only [Act.put, List.setIfInBounds_toArray, List.set_cons_zero, List.set_cons_succ]
          refine wpAnyH_take (i := 8) (v := ?_) (op_at (r := _) rfl) (by kernel_rfl) (by kernel_rfl) (by kernel_rfl) (fun _ _ _ h => h) (Or.inl ⟨by rfl, ?_⟩) (by assumption) ?_
          rotate_left
          · intro W2 hSw
            skip
            go_simp
            try with_reducible rfl
          try simp only [Act.put, List.setIfInBounds_toArray, List.set_cons_zero, List.set_cons_succ]
          obtain ⟨q0, q1⟩ := X5.out.cells
          have f0 := X5.out.free 0
          have f1 := X5.out.free 1
          refine wpAnyH_ready (rs := [10]) (by kernel_rfl) (by simp) ?_
          refine AllReadyH.cons (op_at (r := _) rfl) (fun K hK => ?_) AllReadyH.nil
          go_simp
          refine hK.out _ _ ((BB5.out.setCell (p := ⟨wa1.heap.size, 0, none⟩) le4 _).setCell (p := ⟨wa1.heap.size, 1, none⟩) le4 _) (fun hHeld => ?_)
          clear hK K
          try simp only [Act.put, List.setIfInBounds_toArray, List.set_cons_zero, List.set_cons_succ]
          refine wpAnyH_done (by kernel_rfl) ?_ _
          refine NoPanic.normal ?_
          have F1 := Lib.hid ((OwnE.setBox (x := (.slice (some ⟨wd.heap.size, 0, none⟩) g.ns.length g.ns.length)) N5.out X5.out (by decide) 0).setBox (x := (.slice (some ⟨wa4.heap.size, 0, none⟩) g.es.length g.es.length)) (X5.out.set0 _) (by decide) 1)
          have F2 := Lib.hid ((OwnE.setBox (x := (.slice (some ⟨wd.heap.size, 0, none⟩) g.ns.length g.ns.length)) G5.out X5.out (by decide) 0).setBox (x := (.slice (some ⟨wa4.heap.size, 0, none⟩) g.es.length g.es.length)) (X5.out.set0 _) (by decide) 1)
          have F3 := Lib.hid ((X5.out.set0 (.slice (some ⟨wd.heap.size, 0, none⟩) g.ns.length g.ns.length)).set1 (.slice (some ⟨wa4.heap.size, 0, none⟩) g.es.length g.es.length))
          have F4 := Lib.hid ((BB5.out.setCell (p := ⟨wa1.heap.size, 0, none⟩) le4 (.slice (some ⟨wd.heap.size, 0, none⟩) g.ns.length g.ns.length)).setCell (p := ⟨wa1.heap.size, 1, none⟩) le4 (.slice (some ⟨wa4.heap.size, 0, none⟩) g.es.length g.es.length))
          go_wp2_with fail
          go_meet
          exact ⟨_, _, _, rfl, F3.out, F1.out, F2.out, le4, le1, le5, F4.out⟩
    · skip
      refine step_make_E (by rfl) _ _ (by rfl) w1.heap.size g.es.length (by rfl) (by rfl) (by omega) B0.out.size ?_
      intro wa6 hn6 hb6 hs6
      have G6 := Lib.hid hn6
      have BB6 := Lib.hid (B0.out.trans (hb6.mono B0.out.size))
      have le6 : w1.heap.size ≤ wd.heap.size := B0.out.size
      clear hn6 hb6 hs6
      refine hK.out _ _ BB6.out (fun hHeld => ?_)
      clear hK K
      try simp only [Act.put, List.setIfInBounds_toArray, List.set_cons_zero, List.set_cons_succ]
      refine wpAnyH_ready (rs := [3, 9]) (by kernel_rfl) (by simp) ?_
      refine AllReadyH.cons (op_at (r := _) rfl) (fun K hK => ?_) (AllReadyH.cons (op_at (r := _) rfl) (fun K hK => ?_) AllReadyH.nil)
      · skip
        refine step_make_I (by rfl) _ _ (by rfl) w1.heap.size g.ns.length (by rfl) (by rfl) (by omega) BB6.out.size ?_
        intro wa7 hn7 hb7 hs7
        have G7 := Lib.hid hn7
        have BB7 := Lib.hid (BB6.out.trans (hb7.mono BB6.out.size))
        have E7 := Lib.hid (OwnE.below G6.out hb7 (Nat.le_refl _))
        have le7 : w1.heap.size ≤ wa6.heap.size := BB6.out.size
        clear hn7 hb7 hs7
        refine hK.out _ _ BB7.out (fun hHeld => ?_)
        clear hK K
        try simp only [Act.put, List.setIfInBounds_toArray, List.set_cons_zero, List.set_cons_succ]
        refine wpAnyH_take (i := 8) (v := ?_) (op_at (r := _) rfl) (by kernel_rfl) (by kernel_rfl) (by kernel_rfl) (fun _ _ _ h => h) (Or.inl ⟨by rfl, ?_⟩) (by assumption) ?_
        rotate_left
        · intro W2 hSw
          skip
          go_simp
          try with_reducible rfl
        try simp only [Act.put, List.setIfInBounds_toArray, List.set_cons_zero, List.set_cons_succ]
        refine wpAnyH_ready (rs := [9]) (by kernel_rfl) (by simp) ?_
        refine AllReadyH.cons (op_at (r := _) rfl) (fun K hK => ?_) AllReadyH.nil
        · skip
          go_simp
          have hb8 := below_a wa7 (.cells #[.slice none 0 0, .slice none 0 0] 25 (0, 0))
          have G8 := Lib.hid (show BoxIs wa7.heap.size (.slice none 0 0) (.slice none 0 0) 25 (wa7.alloc (.cells #[.slice none 0 0, .slice none 0 0] 25 (0, 0))) from heap_alloc_new _ _)
          have BB8 := Lib.hid (BB7.out.trans (hb8.mono BB7.out.size))
          have N8 := Lib.hid (OwnE.below G7.out hb8 (Nat.le_refl _))
          have E8 := Lib.hid (OwnE.below E7.out hb8 (Nat.le_refl _))
          have le8 : w1.heap.size ≤ wa7.heap.size := BB7.out.size
          clear hb8
          refine hK.out _ _ BB8.out (fun hHeld => ?_)
          clear hK K
          try simp only [Act.put, List.setIfInBounds_toArray, List.set_cons_zero, List.set_cons_succ]
          generalize wa7.alloc (.cells #[.slice none 0 0, .slice none 0 0] 25 (0, 0)) = wa8 at *
          obtain ⟨q0, q1⟩ := G8.out.cells
          have f0 := G8.out.free 0
          have f1 := G8.out.free 1
          refine wpAnyH_ready (rs := [10]) (by kernel_rfl) (by simp) ?_
          refine AllReadyH.cons (op_at (r := _) rfl) (fun K hK => ?_) AllReadyH.nil
          go_simp
          refine hK.out _ _ ((BB8.out.setCell (p := ⟨wa7.heap.size, 0, none⟩) le8 _).setCell (p := ⟨wa7.heap.size, 1, none⟩) le8 _) (fun hHeld => ?_)
          clear hK K
          try simp only [Act.put, List.setIfInBounds_toArray, List.set_cons_zero, List.set_cons_succ]
          refine wpAnyH_done (by kernel_rfl) ?_ _
          refine NoPanic.normal ?_
          have F1 := Lib.hid ((OwnE.setBox (x := (.slice (some ⟨wa6.heap.size, 0, none⟩) g.ns.length g.ns.length)) N8.out G8.out (by decide) 0).setBox (x := (.slice (some ⟨wd.heap.size, 0, none⟩) g.es.length g.es.length)) (G8.out.set0 _) (by decide) 1)
          have F2 := Lib.hid ((OwnE.setBox (x := (.slice (some ⟨wa6.heap.size, 0, none⟩) g.ns.length g.ns.length)) E8.out G8.out (by decide) 0).setBox (x := (.slice (some ⟨wd.heap.size, 0, none⟩) g.es.length g.es.length)) (G8.out.set0 _) (by decide) 1)
          have F3 := Lib.hid ((G8.out.set0 (.slice (some ⟨wa6.heap.size, 0, none⟩) g.ns.length g.ns.length)).set1 (.slice (some ⟨wd.heap.size, 0, none⟩) g.es.length g.es.length))
          have F4 := Lib.hid ((BB8.out.setCell (p := ⟨wa7.heap.size, 0, none⟩) le8 (.slice (some ⟨wa6.heap.size, 0, none⟩) g.ns.length g.ns.length)).setCell (p := ⟨wa7.heap.size, 1, none⟩) le8 (.slice (some ⟨wd.heap.size, 0, none⟩) g.es.length g.es.length))
          go_wp2_with fail
          go_meet
          exact ⟨_, _, _, rfl, F3.out, F1.out, F2.out, le8, le7, le6, F4.out⟩
      · skip
        go_simp
        have hb9 := below_a wa6 (.cells #[.slice none 0 0, .slice none 0 0] 25 (0, 0))
        have G9 := Lib.hid (show BoxIs wa6.heap.size (.slice none 0 0) (.slice none 0 0) 25 (wa6.alloc (.cells #[.slice none 0 0, .slice none 0 0] 25 (0, 0))) from heap_alloc_new _ _)
        have BB9 := Lib.hid (BB6.out.trans (hb9.mono BB6.out.size))
        have E9 := Lib.hid (OwnE.below G6.out hb9 (Nat.le_refl _))
        have le9 : w1.heap.size ≤ wa6.heap.size := BB6.out.size
        clear hb9
        refine hK.out _ _ BB9.out (fun hHeld => ?_)
        clear hK K
        try simp only [Act.put, List.setIfInBounds_toArray, List.set_cons_zero, List.set_cons_succ]
        generalize wa6.alloc (.cells #[.slice none 0 0, .slice none 0 0] 25 (0, 0)) = wa9 at *
        refine wpAnyH_ready (rs := [3]) (by kernel_rfl) (by simp) ?_
        refine AllReadyH.cons (op_at (r := _) rfl) (fun K hK => ?_) AllReadyH.nil
        · skip
          refine step_make_I (by rfl) _ _ (by rfl) w1.heap.size g.ns.length (by rfl) (by rfl) (by omega) BB9.out.size ?_
          intro wa10 hn10 hb10 hs10
          have G10 := Lib.hid hn10
          have BB10 := Lib.hid (BB9.out.trans (hb10.mono BB9.out.size))
          have E10 := Lib.hid (OwnE.below E9.out hb10 (Nat.le_refl _))
          have X10 := Lib.hid (G9.out.up hb10)
          have le10 : w1.heap.size ≤ wa9.heap.size := BB9.out.size
          clear hn10 hb10 hs10
          refine hK.out _ _ BB10.out (fun hHeld => ?_)
          clear hK K
          try simp only [Act.put, List.setIfInBounds_toArray, List.set_cons_zero, List.set_cons_succ]
          refine wpAnyH_take (i := 8) (v := ?_) (op_at (r := _) rfl) (by kernel_rfl) (by kernel_rfl) (by kernel_rfl) (fun _ _ _ h => h) (Or.inl ⟨by rfl, ?_⟩) (by assumption) ?_
          rotate_left
          · intro W2 hSw
            skip
            go_simp
            try with_reducible rfl
          try simp only [Act.put, List.setIfInBounds_toArray, List.set_cons_zero, List.set_cons_succ]
          obtain ⟨q0, q1⟩ := X10.out.cells
          have f0 := X10.out.free 0
          have f1 := X10.out.free 1
          refine wpAnyH_ready (rs := [10]) (by kernel_rfl) (by simp) ?_
          refine AllReadyH.cons (op_at (r := _) rfl) (fun K hK => ?_) AllReadyH.nil
          go_simp
          refine hK.out _ _ ((BB10.out.setCell (p := ⟨wa6.heap.size, 0, none⟩) le9 _).setCell (p := ⟨wa6.heap.size, 1, none⟩) le9 _) (fun hHeld => ?_)
          clear hK K
          try simp only [Act.put, List.setIfInBounds_toArray, List.set_cons_zero, List.set_cons_succ]
          refine wpAnyH_done (by kernel_rfl) ?_ _
          refine NoPanic.normal ?_
          have F1 := Lib.hid ((OwnE.setBox (x := (.slice (some ⟨wa9.heap.size, 0, none⟩) g.ns.length g.ns.length)) G10.out X10.out (by decide) 0).setBox (x := (.slice (some ⟨wd.heap.size, 0, none⟩) g.es.length g.es.length)) (X10.out.set0 _) (by decide) 1)
          have F2 := Lib.hid ((OwnE.setBox (x := (.slice (some ⟨wa9.heap.size, 0, none⟩) g.ns.length g.ns.length)) E10.out X10.out (by decide) 0).setBox (x := (.slice (some ⟨wd.heap.size, 0, none⟩) g.es.length g.es.length)) (X10.out.set0 _) (by decide) 1)
          have F3 := Lib.hid ((X10.out.set0 (.slice (some ⟨wa9.heap.size, 0, none⟩) g.ns.length g.ns.length)).set1 (.slice (some ⟨wd.heap.size, 0, none⟩) g.es.length g.es.length))
          have F4 := Lib.hid ((BB10.out.setCell (p := ⟨wa6.heap.size, 0, none⟩) le9 (.slice (some ⟨wa9.heap.size, 0, none⟩) g.ns.length g.ns.length)).setCell (p := ⟨wa6.heap.size, 1, none⟩) le9 (.slice (some ⟨wd.heap.size, 0, none⟩) g.es.length g.es.length))
          go_wp2_with fail
          go_meet
          exact ⟨_, _, _, rfl, F3.out, F1.out, F2.out, le9, le10, le6, F4.out⟩
    · skip
      go_simp
      have hb11 := below_a wd (.cells #[.slice none 0 0, .slice none 0 0] 25 (0, 0))
      have G11 := Lib.hid (show BoxIs wd.heap.size (.slice none 0 0) (.slice none 0 0) 25 (wd.alloc (.cells #[.slice none 0 0, .slice none 0 0] 25 (0, 0))) from heap_alloc_new _ _)
      have BB11 := Lib.hid (B0.out.trans (hb11.mono B0.out.size))
      have le11 : w1.heap.size ≤ wd.heap.size := B0.out.size
      clear hb11
      refine hK.out _ _ BB11.out (fun hHeld => ?_)
      clear hK K
      try simp only [Act.put, List.setIfInBounds_toArray, List.set_cons_zero, List.set_cons_succ]
      generalize wd.alloc (.cells #[.slice none 0 0, .slice none 0 0] 25 (0, 0)) = wa11 at *
      refine wpAnyH_ready (rs := [3, 7]) (by kernel_rfl) (by simp) ?_
      refine AllReadyH.cons (op_at (r := _) rfl) (fun K hK => ?_) (AllReadyH.cons (op_at (r := _) rfl) (fun K hK => ?_) AllReadyH.nil)
      · skip
        refine step_make_I (by rfl) _ _ (by rfl) w1.heap.size g.ns.length (by rfl) (by rfl) (by omega) BB11.out.size ?_
        intro wa12 hn12 hb12 hs12
        have G12 := Lib.hid hn12
        have BB12 := Lib.hid (BB11.out.trans (hb12.mono BB11.out.size))
        have X12 := Lib.hid (G11.out.up hb12)
        have le12 : w1.heap.size ≤ wa11.heap.size := BB11.out.size
        clear hn12 hb12 hs12
        refine hK.out _ _ BB12.out (fun hHeld => ?_)
        clear hK K
        try simp only [Act.put, List.setIfInBounds_toArray, List.set_cons_zero, List.set_cons_succ]
        refine wpAnyH_ready (rs := [7]) (by kernel_rfl) (by simp) ?_
        refine AllReadyH.cons (op_at (r := _) rfl) (fun K hK => ?_) AllReadyH.nil
        · skip
          refine step_make_E (by rfl) _ _ (by rfl) w1.heap.size g.es.length (by rfl) (by rfl) (by omega) BB12.out.size ?_
          intro wa13 hn13 hb13 hs13
          have G13 := Lib.hid hn13
          have BB13 := Lib.hid (BB12.out.trans (hb13.mono BB12.out.size))
          have N13 := Lib.hid (OwnE.below G12.out hb13 (Nat.le_refl _))
          have X13 := Lib.hid (X12.out.up hb13)
          have le13 : w1.heap.size ≤ wa12.heap.size := BB12.out.size
          clear hn13 hb13 hs13
          refine hK.out _ _ BB13.out (fun hHeld => ?_)
          clear hK K
          try simp only [Act.put, List.setIfInBounds_toArray, List.set_cons_zero, List.set_cons_succ]
          refine wpAnyH_take (i := 8) (v := ?_) (op_at (r := _) rfl) (by kernel_rfl) (by kernel_rfl) (by kernel_rfl) (fun _ _ _ h => h) (Or.inl ⟨by rfl, ?_⟩) (by assumption) ?_
          rotate_left
          · intro W2 hSw
            skip
            go_simp
            try with_reducible rfl
          try simp only [Act.put, List.setIfInBounds_toArray, List.set_cons_zero, List.set_cons_succ]
          obtain ⟨q0, q1⟩ := X13.out.cells
          have f0 := X13.out.free 0
          have f1 := X13.out.free 1
          refine wpAnyH_ready (rs := [10]) (by kernel_rfl) (by simp) ?_
          refine AllReadyH.cons (op_at (r := _) rfl) (fun K hK => ?_) AllReadyH.nil
          go_simp
          refine hK.out _ _ ((BB13.out.setCell (p := ⟨wd.heap.size, 0, none⟩) le11 _).setCell (p := ⟨wd.heap.size, 1, none⟩) le11 _) (fun hHeld => ?_)
          clear hK K
          try simp only [Act.put, List.setIfInBounds_toArray, List.set_cons_zero, List.set_cons_succ]
          refine wpAnyH_done (by kernel_rfl) ?_ _
          refine NoPanic.normal ?_
          have F1 := Lib.hid ((OwnE.setBox (x := (.slice (some ⟨wa11.heap.size, 0, none⟩) g.ns.length g.ns.length)) N13.out X13.out (by decide) 0).setBox (x := (.slice (some ⟨wa12.heap.size, 0, none⟩) g.es.length g.es.length)) (X13.out.set0 _) (by decide) 1)
          have F2 := Lib.hid ((OwnE.setBox (x := (.slice (some ⟨wa11.heap.size, 0, none⟩) g.ns.length g.ns.length)) G13.out X13.out (by decide) 0).setBox (x := (.slice (some ⟨wa12.heap.size, 0, none⟩) g.es.length g.es.length)) (X13.out.set0 _) (by decide) 1)
          have F3 := Lib.hid ((X13.out.set0 (.slice (some ⟨wa11.heap.size, 0, none⟩) g.ns.length g.ns.length)).set1 (.slice (some ⟨wa12.heap.size, 0, none⟩) g.es.length g.es.length))
          have F4 := Lib.hid ((BB13.out.setCell (p := ⟨wd.heap.size, 0, none⟩) le11 (.slice (some ⟨wa11.heap.size, 0, none⟩) g.ns.length g.ns.length)).setCell (p := ⟨wd.heap.size, 1, none⟩) le11 (.slice (some ⟨wa12.heap.size, 0, none⟩) g.es.length g.es.length))
          go_wp2_with fail
          go_meet
          exact ⟨_, _, _, rfl, F3.out, F1.out, F2.out, le11, le12, le13, F4.out⟩
      · skip
        refine step_make_E (by rfl) _ _ (by rfl) w1.heap.size g.es.length (by rfl) (by rfl) (by omega) BB11.out.size ?_
        intro wa14 hn14 hb14 hs14
        have G14 := Lib.hid hn14
        have BB14 := Lib.hid (BB11.out.trans (hb14.mono BB11.out.size))
        have X14 := Lib.hid (G11.out.up hb14)
        have le14 : w1.heap.size ≤ wa11.heap.size := BB11.out.size
        clear hn14 hb14 hs14
        refine hK.out _ _ BB14.out (fun hHeld => ?_)
        clear hK K
        try simp only [Act.put, List.setIfInBounds_toArray, List.set_cons_zero, List.set_cons_succ]
        refine wpAnyH_ready (rs := [3]) (by kernel_rfl) (by simp) ?_
        refine AllReadyH.cons (op_at (r := _) rfl) (fun K hK => ?_) AllReadyH.nil
        · skip
          refine step_make_I (by rfl) _ _ (by rfl) w1.heap.size g.ns.length (by rfl) (by rfl) (by omega) BB14.out.size ?_
          intro wa15 hn15 hb15 hs15
          have G15 := Lib.hid hn15
          have BB15 := Lib.hid (BB14.out.trans (hb15.mono BB14.out.size))
          have E15 := Lib.hid (OwnE.below G14.out hb15 (Nat.le_refl _))
          have X15 := Lib.hid (X14.out.up hb15)
          have le15 : w1.heap.size ≤ wa14.heap.size := BB14.out.size
          clear hn15 hb15 hs15
          refine hK.out _ _ BB15.out (fun hHeld => ?_)
          clear hK K
          try simp only [Act.put, List.setIfInBounds_toArray, List.set_cons_zero, List.set_cons_succ]
          refine wpAnyH_take (i := 8) (v := ?_) (op_at (r := _) rfl) (by kernel_rfl) (by kernel_rfl) (by kernel_rfl) (fun _ _ _ h => h) (Or.inl ⟨by rfl, ?_⟩) (by assumption) ?_
          rotate_left
          · intro W2 hSw
            skip
            go_simp
            try with_reducible rfl
          try simp only [Act.put, List.setIfInBounds_toArray, List.set_cons_zero, List.set_cons_succ]
          obtain ⟨q0, q1⟩ := X15.out.cells
          have f0 := X15.out.free 0
          have f1 := X15.out.free 1
          refine wpAnyH_ready (rs := [10]) (by kernel_rfl) (by simp) ?_
          refine AllReadyH.cons (op_at (r := _) rfl) (fun K hK => ?_) AllReadyH.nil
          go_simp
          refine hK.out _ _ ((BB15.out.setCell (p := ⟨wd.heap.size, 0, none⟩) le11 _).setCell (p := ⟨wd.heap.size, 1, none⟩) le11 _) (fun hHeld => ?_)
          clear hK K
          try simp only [Act.put, List.setIfInBounds_toArray, List.set_cons_zero, List.set_cons_succ]
          refine wpAnyH_done (by kernel_rfl) ?_ _
          refine NoPanic.normal ?_
          have F1 := Lib.hid ((OwnE.setBox (x := (.slice (some ⟨wa14.heap.size, 0, none⟩) g.ns.length g.ns.length)) G15.out X15.out (by decide) 0).setBox (x := (.slice (some ⟨wa11.heap.size, 0, none⟩) g.es.length g.es.length)) (X15.out.set0 _) (by decide) 1)
          have F2 := Lib.hid ((OwnE.setBox (x := (.slice (some ⟨wa14.heap.size, 0, none⟩) g.ns.length g.ns.length)) E15.out X15.out (by decide) 0).setBox (x := (.slice (some ⟨wa11.heap.size, 0, none⟩) g.es.length g.es.length)) (X15.out.set0 _) (by decide) 1)
          have F3 := Lib.hid ((X15.out.set0 (.slice (some ⟨wa14.heap.size, 0, none⟩) g.ns.length g.ns.length)).set1 (.slice (some ⟨wa11.heap.size, 0, none⟩) g.es.length g.es.length))
          have F4 := Lib.hid ((BB15.out.setCell (p := ⟨wd.heap.size, 0, none⟩) le11 (.slice (some ⟨wa14.heap.size, 0, none⟩) g.ns.length g.ns.length)).setCell (p := ⟨wd.heap.size, 1, none⟩) le11 (.slice (some ⟨wa11.heap.size, 0, none⟩) g.es.length g.es.length))
          go_wp2_with fail
          go_meet
          exact ⟨_, _, _, rfl, F3.out, F1.out, F2.out, le11, le15, le14, F4.out⟩
  case rest =>
    obtain ⟨bo, gn, ge, rfl, hbx, hrn, hre, lbo, lgn, lge, hbe⟩ := hcut
    have HBX := Lib.hid hbx
    have HRN := Lib.hid hrn
    have HRE := Lib.hid hre
    have HBE := Lib.hid hbe
    clear hbx hrn hre
    obtain ⟨c0, c1⟩ := (HX.out _ HBE.out).r.b0.cells
    have y0 : w.heap.size < wc.heap.size := by have := hbe.size; omega
    clear hbe
    go_wp2_with fail
    clear c0 c1 y0
    go_loopw [31] (fun vi wr => ∃ i : Nat, i ≤ g.ns.length ∧ vi = .int .i64 i ∧ BoxIs bo (.slice (some ⟨gn, 0, none⟩) g.ns.length g.ns.length) (.slice (some ⟨ge, 0, none⟩) g.es.length g.es.length) 25 wr ∧ OwnI wr w1.heap.size (.slice (some ⟨gn, 0, none⟩) g.ns.length g.ns.length) (reoN g m i) ∧ OwnEd wr w1.heap.size (.slice (some ⟨ge, 0, none⟩) g.es.length g.es.length) (List.replicate g.es.length default) ∧ Below w1.heap.size w1 wr) (fun vi _ => g.ns.length - (intOf vi).toNat)
    case atStart => exact ⟨0, Nat.zero_le _, rfl, HBX.out, by rw [HN0.out]; exact HRN.out, HRE.out, HBE.out⟩
    case round =>
      clear HBX HRN HRE HBE
      obtain ⟨i, hi, rfl, hbx, hrn, hre, hbe⟩ := hrel
      have HBX := Lib.hid hbx
      have HRN := Lib.hid hrn
      have HRE := Lib.hid hre
      have HBE := Lib.hid hbe
      have hszr := hbe.size
      have hbo := heap_lt hbx
      clear hbx hrn hre hbe
      have hl5 := (HX.out _ HBE.out).lt
      obtain ⟨c0, c1⟩ := (HX.out _ HBE.out).r.b0.cells
      obtain ⟨c2, c3⟩ := (HX.out _ HBE.out).r.b1.cells
      have y0 : w.heap.size < wr.heap.size := by omega
      have y1 : w.heap.size + 1 < wr.heap.size := by omega
      by_cases hlt : i < g.ns.length
      · obtain ⟨bg, og, rfl, hbg, hcg⟩ := Ints.cells (Reads.below HT.out.ns (HX.out _ HBE.out).r.be) hlt
        have q0 := hcg i hlt
        have hmi : i < m.ns.length := by rw [HL1.out]; exact hlt
        obtain ⟨bm, om, rfl, hbm, hcm⟩ := Ints.cells (Reads.below HM.out.ns (HX.out _ HBE.out).r.be) hmi
        have q1 := hcm i hmi
        have hp := HP1.out.at hlt
        obtain ⟨q, hq⟩ : ∃ q : Nat, m.ns.getD i 0 = (q : Int) := ⟨(m.ns.getD i 0).toNat, by omega⟩
        have HE2 := Lib.hid (HNS.out i)
        rw [hq] at q1 hp HE2
        rw [Int.toNat_natCast] at HE2
        have hqn : q < g.ns.length := by omega
        have hle := HNL.out i
        have hln : g.ns.length = (reoN g m i).length := hle.symm
        have ck := OwnI.cell hln HRN.out hqn
        have fk := OwnI.free hln HRN.out q
        have hset := OwnI.set hln HRN.out q (g.ns.getD i 0)
        rw [← HE2.out] at hset
        have hbxs := BoxIs.row (x := .int .i64 (g.ns.getD i 0)) HBX.out HRN.out (by decide) q
        have hres := OwnE.row (x := .int .i64 (g.ns.getD i 0)) HRE.out HRN.out (by decide) q
        have HS1 := Lib.hid (show OwnI (wr.setCell ⟨gn, q, none⟩ (.int .i64 (g.ns.getD i 0))).drew w1.heap.size (.slice (some ⟨gn, 0, none⟩) g.ns.length g.ns.length) (reoN g m (i + 1)) from OwnE.below hset.1 (below_d _) (Nat.le_refl _))
        have HS2 := Lib.hid (hbxs.up (below_d _))
        have HS3 := Lib.hid (OwnE.below hres (below_d _) (Nat.le_refl _))
        have HMK := Lib.hid (fun W (h1 : BoxIs bo (.slice (some ⟨gn, 0, none⟩) g.ns.length g.ns.length) (.slice (some ⟨ge, 0, none⟩) g.es.length g.es.length) 25 W) (h2 : Below w1.heap.size w1 W) => show SR bo (.slice (some ⟨gn, 0, none⟩) g.ns.length g.ns.length) (.slice (some ⟨ge, 0, none⟩) g.es.length g.es.length) (w.heap.size + 1) (.slice (some ⟨bm, om, none⟩) m.ns.length dn) (.slice Be m.es.length de) bm (om + i) (.int .i64 (q : Int)) w1 W from ⟨⟨⟨h1.cells, (HX.out _ h2).r.b1.cells⟩, by
          have g2 := (HX.out _ h2).r.be.cell (p := ⟨bm, om + i, none⟩) hbm
          have g1 := (HX.out _ HBE.out).r.be.cell (p := ⟨bm, om + i, none⟩) hbm
          rw [g2, ← g1]; exact q1⟩, h1, h2⟩)
        have i0 : (0 : Int) ≤ (i : Int) := by omega
        have i1 : (i : Int) < (g.ns.length : Int) := by omega
        have i2 : ((i : Int)).toNat = i := by omega
        have i3 : (i : Int) < (m.ns.length : Int) := by omega
        have j0 : (0 : Int) ≤ (q : Int) := by omega
        have j1 : (q : Int) < (g.ns.length : Int) := by omega
        have j2 : ((q : Int)).toNat = q := by omega
        have hbg9 : bg < wr.heap.size := by omega
        clear hcg hcm hq hset hbxs hres hp hle hln hmi
        generalize g.ns.getD i 0 = x at *
        generalize (reoN g m i).getD q 0 = z at *
        go_wp2_with fail
        clear c0 c1 c2 c3 q0 q1
        have HD0 := Lib.hid (HMK.out _ (HBX.out.up (below_d _)) HBE.out.drew)
        refine wp_region_noPanic ?_
        refine wp_region_held_drew (S := SR bo (.slice (some ⟨gn, 0, none⟩) g.ns.length g.ns.length) (.slice (some ⟨ge, 0, none⟩) g.es.length g.es.length) (w.heap.size + 1) (.slice (some ⟨bm, om, none⟩) m.ns.length dn) (.slice Be m.es.length de) bm (om + i) (.int .i64 (q : Int)) w1) (by kernel_rfl) HD0.out (fun hHeld => ?_)
        refine wpAnyH_take (i := 0) (v := ?_) (op_at (r := _) rfl) (by kernel_rfl) (by kernel_rfl) (by kernel_rfl) (fun _ _ _ h => h) (Or.inl ⟨by rfl, ?_⟩) (by assumption) ?_
        rotate_left
        · intro W2 hSw
          obtain ⟨⟨⟨⟨s0, s1⟩, s2, s3⟩, s4⟩, _⟩ := hSw
          go_simp
          try with_reducible rfl
        try simp only [Act.put, List.setIfInBounds_toArray, List.set_cons_zero, List.set_cons_succ]
        refine wpAnyH_take (i := 2) (v := ?_) (op_at (r := _) rfl) (by kernel_rfl) (by kernel_rfl) (by kernel_rfl) (fun _ _ _ h => h) (Or.inl ⟨by rfl, ?_⟩) (by assumption) ?_
        rotate_left
        · intro W2 hSw
          obtain ⟨⟨⟨⟨s0, s1⟩, s2, s3⟩, s4⟩, _⟩ := hSw
          go_simp
          try with_reducible rfl
        try simp only [Act.put, List.setIfInBounds_toArray, List.set_cons_zero, List.set_cons_succ]
        refine wpAnyH_take (i := 4) (v := ?_) (op_at (r := _) rfl) (by kernel_rfl) (by kernel_rfl) (by kernel_rfl) (fun _ _ _ h => h) (Or.inl ⟨by rfl, ?_⟩) (by assumption) ?_
        rotate_left
        · intro W2 hSw
          obtain ⟨⟨⟨⟨s0, s1⟩, s2, s3⟩, s4⟩, _⟩ := hSw
          go_simp
          try with_reducible rfl
        try simp only [Act.put, List.setIfInBounds_toArray, List.set_cons_zero, List.set_cons_succ]
        refine wpAnyH_take (i := 1) (v := ?_) (op_at (r := _) rfl) (by kernel_rfl) (by kernel_rfl) (by kernel_rfl) (fun _ _ _ h => h) (Or.inl ⟨by rfl, ?_⟩) (by assumption) ?_
        rotate_left
        · intro W2 hSw
          obtain ⟨⟨⟨⟨s0, s1⟩, s2, s3⟩, s4⟩, _⟩ := hSw
          go_simp
          try with_reducible rfl
        try simp only [Act.put, List.setIfInBounds_toArray, List.set_cons_zero, List.set_cons_succ]
        refine wpAnyH_take (i := 3) (v := ?_) (op_at (r := _) rfl) (by kernel_rfl) (by kernel_rfl) (by kernel_rfl) (fun _ _ _ h => h) (Or.inl ⟨by rfl, ?_⟩) (by assumption) ?_
        rotate_left
        · intro W2 hSw
          obtain ⟨⟨⟨⟨s0, s1⟩, s2, s3⟩, s4⟩, _⟩ := hSw
          go_simp
          try with_reducible rfl
        try simp only [Act.put, List.setIfInBounds_toArray, List.set_cons_zero, List.set_cons_succ]
        refine wpAnyH_take (i := 5) (v := ?_) (op_at (r := _) rfl) (by kernel_rfl) (by kernel_rfl) (by kernel_rfl) (fun _ _ _ h => h) (Or.inl ⟨by rfl, ?_⟩) (by assumption) ?_
        rotate_left
        · intro W2 hSw
          obtain ⟨⟨⟨⟨s0, s1⟩, s2, s3⟩, s4⟩, _⟩ := hSw
          go_simp
          try with_reducible rfl
        try simp only [Act.put, List.setIfInBounds_toArray, List.set_cons_zero, List.set_cons_succ]
        refine wpAnyH_take (i := 6) (v := ?_) (op_at (r := _) rfl) (by kernel_rfl) (by kernel_rfl) (by kernel_rfl) (fun _ _ _ h => h) (Or.inl ⟨by rfl, ?_⟩) (by assumption) ?_
        rotate_left
        · intro W2 hSw
          obtain ⟨⟨⟨⟨s0, s1⟩, s2, s3⟩, s4⟩, _⟩ := hSw
          go_simp
          try with_reducible rfl
        try simp only [Act.put, List.setIfInBounds_toArray, List.set_cons_zero, List.set_cons_succ]
        refine wpAnyH_take (i := 7) (v := ?_) (op_at (r := _) rfl) (by kernel_rfl) (by kernel_rfl) (by kernel_rfl) (fun _ _ _ h => h) (Or.inl ⟨by rfl, ?_⟩) (by assumption) ?_
        rotate_left
        · intro W2 hSw
          obtain ⟨⟨⟨⟨s0, s1⟩, s2, s3⟩, s4⟩, _⟩ := hSw
          go_simp
          try with_reducible rfl
        try simp only [Act.put, List.setIfInBounds_toArray, List.set_cons_zero, List.set_cons_succ]
        refine wpAnyH_take (i := 8) (v := ?_) (op_at (r := _) rfl) (by kernel_rfl) (by kernel_rfl) (by kernel_rfl) (fun _ _ _ h => h) (Or.inl ⟨by rfl, ?_⟩) (by assumption) ?_
        rotate_left
        · intro W2 hSw
          obtain ⟨⟨⟨⟨s0, s1⟩, s2, s3⟩, s4⟩, _⟩ := hSw
          go_simp
          try with_reducible rfl
        try simp only [Act.put, List.setIfInBounds_toArray, List.set_cons_zero, List.set_cons_succ]
        refine wpAnyH_ready (rs := [9]) (by kernel_rfl) (by simp) ?_
        refine AllReadyH.cons (op_at (r := _) rfl) (fun K hK => ?_) AllReadyH.nil
        go_simp
        refine hK.out _ _ (HMK.out _ HS2.out (HBE.out.setCell (p := ⟨gn, q, none⟩) lgn _).drew) (fun hHeld => ?_)
        clear hK K
        try simp only [Act.put, List.setIfInBounds_toArray, List.set_cons_zero, List.set_cons_succ]
        refine wpAnyH_done (by kernel_rfl) ?_ _
        refine NoPanic.normal ?_
        go_wp2_with fail
        go_roundw
        case rel => exact ⟨i + 1, by omega, by go_num, HS2.out, HS1.out, HS3.out, (HBE.out.setCell (p := ⟨gn, q, none⟩) lgn _).drew⟩
        case measure => simp [intOf]; omega
      · have e : i = g.ns.length := by omega
        subst e
        go_wp2_with fail
        clear c0 c1 c2 c3 y0 y1 hl5 hbo hszr hlt hi
        go_loopw [49] (fun vi wx => ∃ j : Nat, j ≤ g.es.length ∧ vi = .int .i64 j ∧ BoxIs bo (.slice (some ⟨gn, 0, none⟩) g.ns.length g.ns.length) (.slice (some ⟨ge, 0, none⟩) g.es.length g.es.length) 25 wx ∧ OwnI wx w1.heap.size (.slice (some ⟨gn, 0, none⟩) g.ns.length g.ns.length) (reoN g m g.ns.length) ∧ OwnEd wx w1.heap.size (.slice (some ⟨ge, 0, none⟩) g.es.length g.es.length) (reoE g m j) ∧ Below w1.heap.size w1 wx) (fun vi _ => g.es.length - (intOf vi).toNat)
        case atStart => exact ⟨0, Nat.zero_le _, rfl, HBX.out, HRN.out, by rw [HE0.out]; exact HRE.out, HBE.out⟩
        case round =>
          clear HBX HRN HRE HBE
          obtain ⟨j, hj, rfl, hbx, hrn, hre, hbe⟩ := hrel
          have HBX := Lib.hid hbx
          have HRN := Lib.hid hrn
          have HRE := Lib.hid hre
          have HBE := Lib.hid hbe
          have hszr := hbe.size
          have hbo := heap_lt hbx
          clear hbx hrn hre hbe
          have hl5 := (HX.out _ HBE.out).lt
          obtain ⟨c0, c1⟩ := (HX.out _ HBE.out).r.b0.cells
          obtain ⟨c2, c3⟩ := (HX.out _ HBE.out).r.b1.cells
          have y0 : w.heap.size < wr.heap.size := by omega
          have y1 : w.heap.size + 1 < wr.heap.size := by omega
          by_cases hlt : j < g.es.length
          · obtain ⟨bg, og, rfl, hbg, hcg⟩ := Eds.cells (Reads.below HT.out.es (HX.out _ HBE.out).r.be) hlt
            obtain ⟨k0, k1, k2⟩ := hcg j hlt
            have hmj : j < m.es.length := by rw [HL2.out]; exact hlt
            obtain ⟨bm, om, rfl, hbm, hcm⟩ := Ints.cells (Reads.below HM.out.es (HX.out _ HBE.out).r.be) hmj
            have q1 := hcm j hmj
            have hp := HP2.out.at hlt
            obtain ⟨q, hq⟩ : ∃ q : Nat, m.es.getD j 0 = (q : Int) := ⟨(m.es.getD j 0).toNat, by omega⟩
            have HE2 := Lib.hid (HES.out j)
            rw [hq] at q1 hp HE2
            rw [Int.toNat_natCast] at HE2
            have hqn : q < g.es.length := by omega
            have hle := HEL.out j
            have HGE := Lib.hid (Nat.ne_of_gt (OwnE.lt HRE.out ge rfl).2)
            have HLN := Lib.hid (show g.es.length = (reoE g m j).length from hle.symm)
            obtain ⟨⟨f1, f2⟩, f3, f4⟩ := valid_at HV.out hlt
            have HMV := Lib.hid (fun W (h : Below w1.heap.size w1 W) => moveEnds_any (g.es.getD j default) m.ns Bn dn W ⟨f1, by rw [HL1.out]; exact f2⟩ ⟨f3, by rw [HL1.out]; exact f4⟩ ((Reads.below HM.out.ns (HX.out _ h).r.be).mono (HX.out _ h).r.be.size))
            have hmv : (⟨(g.es.getD j default).ty, m.ns.getD (g.es.getD j default).fr.toNat 0, m.ns.getD (g.es.getD j default).to.toNat 0⟩ : Ed) = mvE m.ns (g.es.getD j default) := rfl
            rw [hmv] at HMV
            obtain ⟨y, hy⟩ : ∃ y, y = mvE m.ns (g.es.getD j default) := ⟨_, rfl⟩
            rw [← hy] at HMV HE2
            have HEX := Lib.hid (show EdIs wr.heap.size (g.es.getD j default) (wr.alloc (.cells #[.int .i64 (g.es.getD j default).ty, .int .i64 (g.es.getD j default).fr, .int .i64 (g.es.getD j default).to] 36 (0, 0))) from heap_alloc_new _ _)
            clear hcg hmv hy f1 f2 f3 f4
            generalize g.es.getD j default = x at *
            have hxb := below_a wr (.cells #[.int .i64 x.ty, .int .i64 x.fr, .int .i64 x.to] 36 (0, 0))
            have HBXx := Lib.hid (HBX.out.up hxb)
            have HRNx := Lib.hid (OwnE.below HRN.out hxb (Nat.le_refl _))
            have HREx := Lib.hid (OwnE.below HRE.out hxb (Nat.le_refl _))
            have HBEx := Lib.hid (HBE.out.trans (hxb.mono hszr))
            have HMK := Lib.hid (fun W (h1 : BoxIs bo (.slice (some ⟨gn, 0, none⟩) g.ns.length g.ns.length) (.slice (some ⟨ge, 0, none⟩) g.es.length g.es.length) 25 W) (h3 : EdIs wr.heap.size x W) (h2 : Below w1.heap.size w1 W) => show SQ bo (.slice (some ⟨gn, 0, none⟩) g.ns.length g.ns.length) (.slice (some ⟨ge, 0, none⟩) g.es.length g.es.length) (w.heap.size + 1) (.slice Bn m.ns.length dn) (.slice (some ⟨bm, om, none⟩) m.es.length de) bm (om + j) (.int .i64 (q : Int)) wr.heap.size x w1 W from ⟨⟨⟨⟨h1.cells, (HX.out _ h2).r.b1.cells⟩, by
              have g2 := (HX.out _ h2).r.be.cell (p := ⟨bm, om + j, none⟩) hbm
              have g1 := (HX.out _ HBE.out).r.be.cell (p := ⟨bm, om + j, none⟩) hbm
              rw [g2, ← g1]; exact q1⟩, cell3 h3⟩, h1, h3, h2⟩)
            have i0 : (0 : Int) ≤ (j : Int) := by omega
            have i1 : (j : Int) < (g.es.length : Int) := by omega
            have i2 : ((j : Int)).toNat = j := by omega
            have i3 : (j : Int) < (m.es.length : Int) := by omega
            have j0 : (0 : Int) ≤ (q : Int) := by omega
            have j1 : (q : Int) < (g.es.length : Int) := by omega
            have j2 : ((q : Int)).toNat = q := by omega
            have hbg9 : bg < wr.heap.size := by omega
            clear hcm hq hp hle hmj hxb
            go_wp2_with fail
            clear c0 c1 c2 c3 k0 k1 k2 q1
            generalize wr.alloc (.cells #[.int .i64 x.ty, .int .i64 x.fr, .int .i64 x.to] 36 (0, 0)) = wx at *
            have HD0 := Lib.hid (HMK.out _ (HBXx.out.up (below_d _)) (heap_up (below_d _) HEX.out) HBEx.out.drew)
            have HBX := Lib.hid (HBXx.out.up (below_d _))
            have HRN := Lib.hid (OwnE.below HRNx.out (below_d _) (Nat.le_refl _))
            have HRE := Lib.hid (OwnE.below HREx.out (below_d _) (Nat.le_refl _))
            have HBE := Lib.hid HBEx.out.drew
            have HEX := Lib.hid (show EdIs wr.heap.size x wx.drew from heap_up (below_d _) HEX.out)
            clear HBXx HRNx HREx HBEx
            refine wp_region_noPanic ?_
            refine wp_region_held_drew (S := SQ bo (.slice (some ⟨gn, 0, none⟩) g.ns.length g.ns.length) (.slice (some ⟨ge, 0, none⟩) g.es.length g.es.length) (w.heap.size + 1) (.slice Bn m.ns.length dn) (.slice (some ⟨bm, om, none⟩) m.es.length de) bm (om + j) (.int .i64 (q : Int)) wr.heap.size x w1) (by kernel_rfl) HD0.out (fun hHeld => ?_)
            clear HD0
            generalize wx.drew = wd at *
            refine wpAnyH_take (i := 0) (v := ?_) (op_at (r := _) rfl) (by kernel_rfl) (by kernel_rfl) (by kernel_rfl) (fun _ _ _ h => h) (Or.inl ⟨by rfl, ?_⟩) (by assumption) ?_
            rotate_left
            · intro W2 hSw
              obtain ⟨⟨⟨⟨⟨s0, s1⟩, s2, s3⟩, s4⟩, s5, s6, s7⟩, _⟩ := hSw
              go_simp
              try with_reducible rfl
            try simp only [Act.put, List.setIfInBounds_toArray, List.set_cons_zero, List.set_cons_succ]
            refine wpAnyH_take (i := 2) (v := ?_) (op_at (r := _) rfl) (by kernel_rfl) (by kernel_rfl) (by kernel_rfl) (fun _ _ _ h => h) (Or.inl ⟨by rfl, ?_⟩) (by assumption) ?_
            rotate_left
            · intro W2 hSw
              obtain ⟨⟨⟨⟨⟨s0, s1⟩, s2, s3⟩, s4⟩, s5, s6, s7⟩, _⟩ := hSw
              go_simp
              try with_reducible rfl
            try simp only [Act.put, List.setIfInBounds_toArray, List.set_cons_zero, List.set_cons_succ]
            refine wpAnyH_take (i := 4) (v := ?_) (op_at (r := _) rfl) (by kernel_rfl) (by kernel_rfl) (by kernel_rfl) (fun _ _ _ h => h) (Or.inl ⟨by rfl, ?_⟩) (by assumption) ?_
            rotate_left
            · intro W2 hSw
              obtain ⟨⟨⟨⟨⟨s0, s1⟩, s2, s3⟩, s4⟩, s5, s6, s7⟩, _⟩ := hSw
              go_simp
              try with_reducible rfl
            try simp only [Act.put, List.setIfInBounds_toArray, List.set_cons_zero, List.set_cons_succ]
            refine wpAnyH_take (i := 8) (v := ?_) (op_at (r := _) rfl) (by kernel_rfl) (by kernel_rfl) (by kernel_rfl) (fun _ _ _ h => h) (Or.inl ⟨by rfl, ?_⟩) (by assumption) ?_
            rotate_left
            · intro W2 hSw
              obtain ⟨⟨⟨⟨⟨s0, s1⟩, s2, s3⟩, s4⟩, s5, s6, s7⟩, _⟩ := hSw
              go_simp
              try with_reducible rfl
            try simp only [Act.put, List.setIfInBounds_toArray, List.set_cons_zero, List.set_cons_succ]
            refine wpAnyH_take (i := 1) (v := ?_) (op_at (r := _) rfl) (by kernel_rfl) (by kernel_rfl) (by kernel_rfl) (fun _ _ _ h => h) (Or.inl ⟨by rfl, ?_⟩) (by assumption) ?_
            rotate_left
            · intro W2 hSw
              obtain ⟨⟨⟨⟨⟨s0, s1⟩, s2, s3⟩, s4⟩, s5, s6, s7⟩, _⟩ := hSw
              go_simp
              try with_reducible rfl
            try simp only [Act.put, List.setIfInBounds_toArray, List.set_cons_zero, List.set_cons_succ]
            refine wpAnyH_take (i := 3) (v := ?_) (op_at (r := _) rfl) (by kernel_rfl) (by kernel_rfl) (by kernel_rfl) (fun _ _ _ h => h) (Or.inl ⟨by rfl, ?_⟩) (by assumption) ?_
            rotate_left
            · intro W2 hSw
              obtain ⟨⟨⟨⟨⟨s0, s1⟩, s2, s3⟩, s4⟩, s5, s6, s7⟩, _⟩ := hSw
              go_simp
              try with_reducible rfl
            try simp only [Act.put, List.setIfInBounds_toArray, List.set_cons_zero, List.set_cons_succ]
            refine wpAnyH_take (i := 7) (v := ?_) (op_at (r := _) rfl) (by kernel_rfl) (by kernel_rfl) (by kernel_rfl) (fun _ _ _ h => h) (Or.inl ⟨by rfl, ?_⟩) (by assumption) ?_
            rotate_left
            · intro W2 hSw
              obtain ⟨⟨⟨⟨⟨s0, s1⟩, s2, s3⟩, s4⟩, s5, s6, s7⟩, _⟩ := hSw
              go_simp
              try with_reducible rfl
            try simp only [Act.put, List.setIfInBounds_toArray, List.set_cons_zero, List.set_cons_succ]
            refine wpAnyH_take (i := 9) (v := ?_) (op_at (r := _) rfl) (by kernel_rfl) (by kernel_rfl) (by kernel_rfl) (fun _ _ _ h => h) (Or.inl ⟨by rfl, ?_⟩) (by assumption) ?_
            rotate_left
            · intro W2 hSw
              obtain ⟨⟨⟨⟨⟨s0, s1⟩, s2, s3⟩, s4⟩, s5, s6, s7⟩, _⟩ := hSw
              go_simp
              try with_reducible rfl
            try simp only [Act.put, List.setIfInBounds_toArray, List.set_cons_zero, List.set_cons_succ]
            refine wpAnyH_take (i := 5) (v := ?_) (op_at (r := _) rfl) (by kernel_rfl) (by kernel_rfl) (by kernel_rfl) (fun _ _ _ h => h) (Or.inl ⟨by rfl, ?_⟩) (by assumption) ?_
            rotate_left
            · intro W2 hSw
              obtain ⟨⟨⟨⟨⟨s0, s1⟩, s2, s3⟩, s4⟩, s5, s6, s7⟩, _⟩ := hSw
              go_simp
              try with_reducible rfl
            try simp only [Act.put, List.setIfInBounds_toArray, List.set_cons_zero, List.set_cons_succ]
            refine wpAnyH_take (i := 6) (v := ?_) (op_at (r := _) rfl) (by kernel_rfl) (by kernel_rfl) (by kernel_rfl) (fun _ _ _ h => h) (Or.inl ⟨by rfl, ?_⟩) (by assumption) ?_
            rotate_left
            · intro W2 hSw
              obtain ⟨⟨⟨⟨⟨s0, s1⟩, s2, s3⟩, s4⟩, s5, s6, s7⟩, _⟩ := hSw
              go_simp
              try with_reducible rfl
            try simp only [Act.put, List.setIfInBounds_toArray, List.set_cons_zero, List.set_cons_succ]
            refine wpAnyH_ready (rs := [10]) (by kernel_rfl) (by simp) ?_
            refine AllReadyH.cons (op_at (r := _) rfl) (fun K hK => ?_) AllReadyH.nil
            go_simp
            refine (HMV.out _ HBE.out).mono ?_
            rintro e w8 ⟨rfl, hb8⟩
            have HBX8 := Lib.hid (HBX.out.up hb8)
            have HRN8 := Lib.hid (OwnE.below HRN.out hb8 (Nat.le_refl _))
            have HRE8 := Lib.hid (OwnE.below HRE.out hb8 (Nat.le_refl _))
            have HBE8 := Lib.hid (HBE.out.trans (hb8.mono HBE.out.size))
            have HEX8 := Lib.hid (show EdIs wr.heap.size x w8 from heap_up hb8 HEX.out)
            clear hb8
            go_wp2_with fail
            refine hK.out _ _ (HMK.out _ HBX8.out HEX8.out HBE8.out) (fun hHeld => ?_)
            clear hK K
            try simp only [Act.put, List.setIfInBounds_toArray, List.set_cons_zero, List.set_cons_succ]
            refine wpAnyH_take (i := 11) (v := ?_) (op_at (r := _) rfl) (by kernel_rfl) (by kernel_rfl) (by kernel_rfl) (fun _ _ _ h => h) (Or.inl ⟨by rfl, ?_⟩) (by assumption) ?_
            rotate_left
            · intro W2 hSw
              obtain ⟨⟨⟨⟨⟨s0, s1⟩, s2, s3⟩, s4⟩, s5, s6, s7⟩, _⟩ := hSw
              go_simp
              try with_reducible rfl
            try simp only [Act.put, List.setIfInBounds_toArray, List.set_cons_zero, List.set_cons_succ]
            have hput := OwnEd.put HLN.out HRE8.out hqn y
            rw [← HE2.out] at hput
            obtain ⟨⟨⟨u0, d0⟩, ⟨u1, d1⟩, ⟨u2, d2⟩⟩, ⟨e0, e1, e2⟩, hrow⟩ := hput
            have HROW := Lib.hid (show OwnEd (set3 w8 ge q y) w1.heap.size (.slice (some ⟨ge, 0, none⟩) g.es.length g.es.length) (reoE g m (j + 1)) from hrow)
            have hgw := grow_put (q := q) HRE8.out lge y
            have HBX9 := Lib.hid (HBX8.out.grow (by decide) hgw)
            have HRN9 := Lib.hid (hgw.row (by decide) HRN8.out)
            have HBE9 := Lib.hid (HBE8.out.trans hgw.1)
            have HEX9 := Lib.hid (show EdIs wr.heap.size x (set3 w8 ge q y) from set3_heap HGE.out HEX8.out)
            clear hrow hgw
            refine wpAnyH_ready (rs := [12]) (by kernel_rfl) (by simp) ?_
            refine AllReadyH.cons (op_at (r := _) rfl) (fun K hK => ?_) AllReadyH.nil
            go_simp
            refine hK.out _ _ (HMK.out _ HBX9.out HEX9.out HBE9.out) (fun hHeld => ?_)
            clear hK K
            try simp only [Act.put, List.setIfInBounds_toArray, List.set_cons_zero, List.set_cons_succ]
            refine wpAnyH_done (by kernel_rfl) ?_ _
            refine NoPanic.normal ?_
            go_wp2_with fail
            go_roundw
            case rel => exact ⟨j + 1, by omega, by go_num, HBX9.out, HRN9.out, HROW.out, HBE9.out⟩
            case measure => simp [intOf]; omega
          · have e : j = g.es.length := by omega
            subst e
            obtain ⟨b0, b1⟩ := HBX.out.cells
            have hr := (HX.out _ HBE.out).res
            obtain ⟨⟨p0, p1⟩, f0, f1⟩ := hr.sto
            obtain ⟨r0, r1⟩ := cell2 (store2 hr (.slice (some ⟨gn, 0, none⟩) g.ns.length g.ns.length) (.slice (some ⟨ge, 0, none⟩) g.es.length g.es.length))
            have y2 : w.heap.size + 2 < wr.heap.size := by omega
            have HZ1 := Lib.hid (HX.out _ HBE.out).r.be
            clear hr
            go_wp2_with fail
            have e1 := HNL.out g.ns.length
            have e2 := HEL.out g.es.length
            refine bodyPost_ret (v := .tuple #[gval (some ⟨gn, 0, none⟩) g.ns.length g.ns.length (some ⟨ge, 0, none⟩) g.es.length g.es.length, .int .i64 0]) (by simp [results, Try.results37, go_sem, r0, r1]) rfl ?_
            have hi1 := isI_own (OwnE.stored' (OwnE.stored' HRN.out (a := ⟨w.heap.size + 2, 0, none⟩) (show w.heap.size + 2 < w1.heap.size by omega) (.slice (some ⟨gn, 0, none⟩) g.ns.length g.ns.length)) (a := ⟨w.heap.size + 2, 1, none⟩) (show w.heap.size + 2 < w1.heap.size by omega) (.slice (some ⟨ge, 0, none⟩) g.es.length g.es.length))
            have hi2 := isE_own (OwnE.stored' (OwnE.stored' HRE.out (a := ⟨w.heap.size + 2, 0, none⟩) (show w.heap.size + 2 < w1.heap.size by omega) (.slice (some ⟨gn, 0, none⟩) g.ns.length g.ns.length)) (a := ⟨w.heap.size + 2, 1, none⟩) (show w.heap.size + 2 < w1.heap.size by omega) (.slice (some ⟨ge, 0, none⟩) g.es.length g.es.length))
            exact ⟨⟨_, rfl, by rw [HRG.out]; exact isG_of (g := ⟨reoN g m g.ns.length, reoE g m g.es.length⟩) hi1 hi2⟩, (HZ1.out.setCell (p := ⟨w.heap.size + 2, 0, none⟩) (by simp) _).setCell (p := ⟨w.heap.size + 2, 1, none⟩) (by simp) _⟩

end Go.Proofs.Ytiafmhdicgmfaaa
