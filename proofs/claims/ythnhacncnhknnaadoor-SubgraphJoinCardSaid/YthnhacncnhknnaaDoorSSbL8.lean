import Derived.Test.YthnhacncnhknnaaDoorSSbL5
/-
  SubgraphJoin. Printed by mkl8.py.
-/
namespace Go.Proofs.YthnhacncnhknnaaDoor
open Go.RowKit Go.Shelf

set_option maxRecDepth 100000 in
set_option maxHeartbeats 4000000 in
theorem lawJoin7 (hC : CloseC 12) (hB : BndC 35) (hA : AllC 37) (hJ : TwoC 19 joinP) (hM : TwoC 22 meetP) (g : Gr) (An : Option Addr) (cn : Nat) (Ae : Option Addr) (ce : Nat) (p : Mo) (Pn : Option Addr) (pn : Nat) (Pe : Option Addr) (pe : Nat) (q : Mo) (Qn : Option Addr) (qn : Nat) (Qe : Option Addr) (qe : Nat) (w : World) (hT : TabV w) (hg : GrAt w An cn Ae ce g) (p1 : Ints w w.heap.size Pn p.ns) (p2 : Ints w w.heap.size Pe p.es) (l1 : p.ns.length ≤ 1152921504606846976) (l2 : p.es.length ≤ 1152921504606846976) (q1 : Ints w w.heap.size Qn q.ns) (q2 : Ints w w.heap.size Qe q.es) (m1 : q.ns.length ≤ 1152921504606846976) (m2 : q.es.length ≤ 1152921504606846976) :
    Calls Tryd.prog 4 #[gval An g.ns.length cn Ae g.es.length ce, gval Pn p.ns.length pn Pe p.es.length pe, gval Qn q.ns.length qn Qe q.es.length qe] w fun e w' => e = .returned (.bool true) ∧ Below w.heap.size w w' := by
  have HAW := Lib.hid (fun (u : World) (hu : Below w.heap.size w u) => awake7 hC hB hA u (hT.up hu))
  have HSM : Hid (∀ (u : World) (b c : Nat), Below w.heap.size w u → u.heap[b]? = some (.cells #[.slice Pn p.ns.length pn, .slice Pe p.es.length pe, .slice Qn q.ns.length qn, .slice Qe q.es.length qe] 27 (0, 0)) → Calls Tryd.prog 11 #[gval An g.ns.length cn Ae g.es.length ce, .slice (some ⟨b, 0, none⟩) 2 c] u fun e w' => e = .returned (.bool (fewB g && [(⟨p, Pn, pn, Pe, pe⟩ : PtV), ⟨q, Qn, qn, Qe, qe⟩].all (fun x => fewM x.p 150))) ∧ Below u.heap.size u w') := Lib.hid fun u b c hu hb =>
    small7_any g [⟨p, Pn, pn, Pe, pe⟩, ⟨q, Qn, qn, Qe, qe⟩] An cn Ae ce (some ⟨b, 0, none⟩) c u (by simp) (hg.up hu) (fun x hx => by simp at hx; rcases hx with rfl | rfl; exact ⟨l1, l2⟩; exact ⟨m1, m2⟩) (.inr ⟨b, rfl, heap_lt hb, fun i hi => by
      have hi2 : i = 0 ∨ i = 1 := by simp at hi; omega
      rcases hi2 with rfl | rfl
      · exact ⟨cell_of_row _ _ 0 _ _ _ hb, cell_of_row _ _ 1 _ _ _ hb⟩
      · exact ⟨cell_of_row _ _ 2 _ _ _ hb, cell_of_row _ _ 3 _ _ _ hb⟩⟩)
  have HFL : Hid ((fewB g && [(⟨p, Pn, pn, Pe, pe⟩ : PtV), ⟨q, Qn, qn, Qe, qe⟩].all (fun x => fewM x.p 150)) = true → (g.ns.length ≤ 1000 ∧ g.es.length ≤ 1000) ∧ (p.ns.length ≤ 1000 ∧ p.es.length ≤ 1000) ∧ (q.ns.length ≤ 1000 ∧ q.es.length ≤ 1000)) := Lib.hid fun h => by
    unfold fewB fewM at h
    simp only [List.all_cons, List.all_nil, Bool.and_true, Bool.and_eq_true, decide_eq_true_eq] at h
    omega
  have HCP := Lib.hid (fun (h : g.ns.length ≤ 1000 ∧ g.es.length ≤ 1000) (u : World) (hu : Below w.heap.size w u) => copyG7 g An cn Ae ce u h (hg.up hu))
  have HPP := Lib.hid (fun (h : p.ns.length ≤ 1000 ∧ p.es.length ≤ 1000) (u : World) (hu : Below w.heap.size w u) => (show PtAt u Pn Pe p from ⟨Reads.up p1 hu, Reads.up p2 hu, h.1, h.2⟩))
  have HQP := Lib.hid (fun (h : q.ns.length ≤ 1000 ∧ q.es.length ≤ 1000) (u : World) (hu : Below w.heap.size w u) => (show PtAt u Qn Qe q from ⟨Reads.up q1 hu, Reads.up q2 hu, h.1, h.2⟩))
  have HO1 := Lib.hid (fun (h : p.ns.length ≤ 1000 ∧ p.es.length ≤ 1000) (u : World) (hu : Below w.heap.size w u) => own7_any p Pn pn Pe pe u ⟨Reads.up p1 hu, Reads.up p2 hu, h.1, h.2⟩)
  have HO2 := Lib.hid (fun (h : q.ns.length ≤ 1000 ∧ q.es.length ≤ 1000) (u : World) (hu : Below w.heap.size w u) => own7_any q Qn qn Qe qe u ⟨Reads.up q1 hu, Reads.up q2 hu, h.1, h.2⟩)
  have HJ1 := Lib.hid (fun X x Y y a1 a2 a3 a4 b1 b2 b3 b4 (u : World) (r1 : GrAt u X x Y y g) (r2 : PtAt u a1 a3 p) (r3 : PtAt u b1 b3 q) => hJ g p q X x Y y a1 a2 a3 a4 b1 b2 b3 b4 u r1 r2 r3)
  have HM1 := Lib.hid (fun X x Y y a1 a2 a3 a4 b1 b2 b3 b4 (u : World) (r1 : GrAt u X x Y y g) (r2 : PtAt u a1 a3 p) (r3 : PtAt u b1 b3 q) => hM g p q X x Y y a1 a2 a3 a4 b1 b2 b3 b4 u r1 r2 r3)
  have HJ2 := Lib.hid (fun (u : World) (hu : Below w.heap.size w u) (r2 : PtAt u Pn Pe p) (r3 : PtAt u Qn Qe q) => join7_any g p q An cn Ae ce Pn pn Pe pe Qn qn Qe qe u (hg.up hu) r2 r3)
  have HM2 := Lib.hid (fun (u : World) (hu : Below w.heap.size w u) (r2 : PtAt u Pn Pe p) (r3 : PtAt u Qn Qe q) => meet7_any g p q An cn Ae ce Pn pn Pe pe Qn qn Qe qe u (hg.up hu) r2 r3)
  have HRL : Hid (twoE g p q = 0 → ((joinP g p q).ns.length ≤ 1000 ∧ (joinP g p q).es.length ≤ 1000) ∧ ((meetP g p q).ns.length ≤ 1000 ∧ (meetP g p q).es.length ≤ 1000)) := Lib.hid fun h => by
    obtain ⟨hv, h1, h2⟩ := two_zero.1 h
    rw [show joinP g p q = orP g p q from if_pos h, show meetP g p q = andP g p q from if_pos h]
    exact ⟨part_len hv (or_ok h1 h2), part_len hv (and_ok h1 h2)⟩
  have HX1 : Hid (twoE g p q = 0 → ∀ X x Y y (u : World), Below w.heap.size w u → PtAt u Pn Pe p → PtAt u X Y (joinP g p q) → GivesM 22 #[gval An g.ns.length cn Ae g.es.length ce, gval Pn p.ns.length pn Pe p.es.length pe, gval X (joinP g p q).ns.length x Y (joinP g p q).es.length y] 0 p u) := Lib.hid fun h X x Y y u hu r2 r3 => by
    obtain ⟨hv, h1, h2⟩ := two_zero.1 h
    have k := hM g p (joinP g p q) An cn Ae ce Pn pn Pe pe X x Y y u (hg.up hu) r2 r3
    have e1 : joinP g p q = orP g p q := if_pos h
    have e2 := two_zero.2 ⟨hv, h1, or_ok h1 h2⟩
    rw [e1] at k ⊢
    rw [e2, show meetP g p (orP g p q) = andP g p (orP g p q) from if_pos e2, meet_join h1] at k
    exact k
  have HX2 : Hid (twoE g p q = 0 → ∀ X x Y y (u : World), Below w.heap.size w u → PtAt u Pn Pe p → PtAt u X Y (meetP g p q) → GivesM 19 #[gval An g.ns.length cn Ae g.es.length ce, gval Pn p.ns.length pn Pe p.es.length pe, gval X (meetP g p q).ns.length x Y (meetP g p q).es.length y] 0 p u) := Lib.hid fun h X x Y y u hu r2 r3 => by
    obtain ⟨hv, h1, h2⟩ := two_zero.1 h
    have k := hJ g p (meetP g p q) An cn Ae ce Pn pn Pe pe X x Y y u (hg.up hu) r2 r3
    have e1 : meetP g p q = andP g p q := if_pos h
    have e2 := two_zero.2 ⟨hv, h1, and_ok h1 h2⟩
    rw [e1] at k ⊢
    rw [e2, show joinP g p (andP g p q) = orP g p (andP g p q) from if_pos e2, join_meet h1] at k
    exact k
  have HS0 : Hid (SV w [([.slice An g.ns.length cn, .slice Ae g.es.length ce], 25), ([.slice Pn p.ns.length pn, .slice Pe p.es.length pe], 27), ([.slice Qn q.ns.length qn, .slice Qe q.es.length qe], 27)] _) := Lib.hid (SV.push (SV.push (SV.push (SV.nil w) rfl [.slice An g.ns.length cn, .slice Ae g.es.length ce] 25) (by simp) [.slice Pn p.ns.length pn, .slice Pe p.es.length pe] 27) (by simp) [.slice Qn q.ns.length qn, .slice Qe q.es.length qe] 27)
  clear hT hC hB hA hJ hM hg p1 p2 q1 q2 l1 l2 m1 m2
  generalize (fewB g && [(⟨p, Pn, pn, Pe, pe⟩ : PtV), ⟨q, Qn, qn, Qe, qe⟩].all (fun x => fewM x.p 150)) = s1 at *
  generalize twoE g p q = E at *
  generalize joinP g p q = RJ at *
  generalize meetP g p q = RM at *
  go_enter Tryd.func4, Tryd.ntmps4
  go_wp2_with fail
  refine (HAW.out _ HS0.out.1).mono ?_
  rintro e w1 ⟨rfl, hb⟩
  have HS1 := Lib.hid (HS0.out.up hb)
  clear hb HS0
  have c0 := HS1.out.cell (i := 0) (j := 0) rfl rfl
  have c1 := HS1.out.cell (i := 0) (j := 1) rfl rfl
  have d0 := HS1.out.cell (i := 1) (j := 0) rfl rfl
  have d1 := HS1.out.cell (i := 1) (j := 1) rfl rfl
  have f0 := HS1.out.cell (i := 2) (j := 0) rfl rfl
  have f1 := HS1.out.cell (i := 2) (j := 1) rfl rfl
  simp only [Nat.add_zero] at c0 c1
  go_wp2_with fail
  have hba : Below w1.heap.size w1 (w1.alloc (.cells #[.slice Pn p.ns.length pn, .slice Pe p.es.length pe, .slice Qn q.ns.length qn, .slice Qe q.es.length qe] 27)) := (Below.refl _ _).alloc (Nat.le_refl _) _
  refine (HSM.out _ _ _ (HS1.out.1.trans (hba.mono HS1.out.1.size)) (heap_alloc_new w1 _)).mono ?_
  rintro e w2 ⟨rfl, hb⟩
  have HS2 := Lib.hid ((HS1.out.up hba).up hb)
  clear hba hb HS1 HSM c0 c1 d0 d1 f0 f1
  cases s1
  case false =>
    go_wp2_with fail
    refine (HAW.out _ HS2.out.1).mono ?_
    rintro e w9 ⟨rfl, hb9⟩
    go_wp2_with fail
    go_ret
    exact ⟨rfl, HS2.out.1.trans (hb9.mono HS2.out.1.size)⟩
  obtain ⟨k1, k2, k3⟩ := HFL.out rfl
  have HCP9 := Lib.hid (HCP.out k1)
  have HPP9 := Lib.hid (HPP.out k2)
  have HQP9 := Lib.hid (HQP.out k3)
  have HO19 := Lib.hid (HO1.out k2)
  have HO29 := Lib.hid (HO2.out k3)
  have HPL : Hid (R2 p) := Lib.hid (by unfold R2 maxLen; omega)
  clear HCP HPP HQP HO1 HO2 HFL HAW k1 k2 k3
  go_upto_region 3 with fail
  go_cut [7, 8] (fun u v wc => ∃ gx Xn xn Xe xe, u = .pointer (some ⟨gx, 0, none⟩) ∧ v = .int .i64 (E : Nat) ∧ BX gx (.slice Xn RJ.ns.length xn) (.slice Xe RJ.es.length xe) 27 wc ∧ Ints wc wc.heap.size Xn RJ.ns ∧ Ints wc wc.heap.size Xe RJ.es ∧ R2 RJ ∧ SV w [([.slice An g.ns.length cn, .slice Ae g.es.length ce], 25), ([.slice Pn p.ns.length pn, .slice Pe p.es.length pe], 27), ([.slice Qn q.ns.length qn, .slice Qe q.es.length qe], 27)] wc)
  case first =>
    go_wp2_with fail
    have HVD := Lib.hid (below_d w2)
    have S_wd := Lib.hid (HS2.out.up (below_d w2))
    clear HS2
    have q0 : w2.drew.cell? ⟨w.heap.size, 0, none⟩ = some (.slice An g.ns.length cn) := S_wd.out.cell (i := 0) (j := 0) rfl rfl
    have q1 : w2.drew.cell? ⟨w.heap.size, 1, none⟩ = some (.slice Ae g.es.length ce) := S_wd.out.cell (i := 0) (j := 1) rfl rfl
    have q2 : w2.drew.cell? ⟨w.heap.size + 1, 0, none⟩ = some (.slice Pn p.ns.length pn) := S_wd.out.cell (i := 1) (j := 0) rfl rfl
    have q3 : w2.drew.cell? ⟨w.heap.size + 1, 1, none⟩ = some (.slice Pe p.es.length pe) := S_wd.out.cell (i := 1) (j := 1) rfl rfl
    have q4 : w2.drew.cell? ⟨w.heap.size + 2, 0, none⟩ = some (.slice Qn q.ns.length qn) := S_wd.out.cell (i := 2) (j := 0) rfl rfl
    have q5 : w2.drew.cell? ⟨w.heap.size + 2, 1, none⟩ = some (.slice Qe q.es.length qe) := S_wd.out.cell (i := 2) (j := 1) rfl rfl
    have HM_wd : Hid (∀ u, Below w2.drew.heap.size w2.drew u → (fun u : World => u.cell? ⟨w.heap.size, 0, none⟩ = some (.slice An g.ns.length cn) ∧ u.cell? ⟨w.heap.size, 1, none⟩ = some (.slice Ae g.es.length ce) ∧ u.cell? ⟨w.heap.size + 1, 0, none⟩ = some (.slice Pn p.ns.length pn) ∧ u.cell? ⟨w.heap.size + 1, 1, none⟩ = some (.slice Pe p.es.length pe) ∧ u.cell? ⟨w.heap.size + 2, 0, none⟩ = some (.slice Qn q.ns.length qn) ∧ u.cell? ⟨w.heap.size + 2, 1, none⟩ = some (.slice Qe q.es.length qe)) u) := Lib.hid fun u hb => ⟨cell_up hb q0, cell_up hb q1, cell_up hb q2, cell_up hb q3, cell_up hb q4, cell_up hb q5⟩
    clear q0 q1 q2 q3 q4 q5
    have WD_wd := Lib.hid (Below.refl w2.drew.heap.size w2.drew)
    refine wp_region_noPanic ?_
    refine wp_region_held_drew (S := (fun u : World => u.cell? ⟨w.heap.size, 0, none⟩ = some (.slice An g.ns.length cn) ∧ u.cell? ⟨w.heap.size, 1, none⟩ = some (.slice Ae g.es.length ce) ∧ u.cell? ⟨w.heap.size + 1, 0, none⟩ = some (.slice Pn p.ns.length pn) ∧ u.cell? ⟨w.heap.size + 1, 1, none⟩ = some (.slice Pe p.es.length pe) ∧ u.cell? ⟨w.heap.size + 2, 0, none⟩ = some (.slice Qn q.ns.length qn) ∧ u.cell? ⟨w.heap.size + 2, 1, none⟩ = some (.slice Qe q.es.length qe))) (by kernel_rfl) (HM_wd.out _ WD_wd.out) (fun hHeld => ?_)
    generalize w2.drew = wd at *
    have lsv : w.heap.size + 3 ≤ wd.heap.size := S_wd.out.2.1
    refine wpAnyH_take (i := 0) (v := ?_) (oper_at (r := _) rfl) (by kernel_rfl) (by kernel_rfl) (by kernel_rfl) (fun _ _ _ h => h) (Or.inl ⟨by rfl, ?_⟩) (by assumption) ?_
    rotate_left
    · intro w hSw; try dsimp only at hSw
      go_simp
      try with_reducible rfl
    try simp only [Act.put, List.setIfInBounds_toArray, List.set_cons_zero, List.set_cons_succ]
    refine wpAnyH_take (i := 2) (v := ?_) (oper_at (r := _) rfl) (by kernel_rfl) (by kernel_rfl) (by kernel_rfl) (fun _ _ _ h => h) (Or.inl ⟨by rfl, ?_⟩) (by assumption) ?_
    rotate_left
    · intro w hSw; try dsimp only at hSw
      go_simp
      try with_reducible rfl
    try simp only [Act.put, List.setIfInBounds_toArray, List.set_cons_zero, List.set_cons_succ]
    refine wpAnyH_take (i := 4) (v := ?_) (oper_at (r := _) rfl) (by kernel_rfl) (by kernel_rfl) (by kernel_rfl) (fun _ _ _ h => h) (Or.inl ⟨by rfl, ?_⟩) (by assumption) ?_
    rotate_left
    · intro w hSw; try dsimp only at hSw
      go_simp
      try with_reducible rfl
    try simp only [Act.put, List.setIfInBounds_toArray, List.set_cons_zero, List.set_cons_succ]
    refine wpAnyH_ready (rs := [1, 10]) (by kernel_rfl) (by simp) ?_
    refine (AllReadyH.cons (oper_at (r := _) rfl) (fun K hK => ?_) (AllReadyH.cons (oper_at (r := _) rfl) (fun K hK => ?_) AllReadyH.nil))
    · skip
      go_simp
      refine (HCP9.out _ S_wd.out.1).mono ?_
      rintro e W1 ⟨⟨G1, k1, G2, k2, rfl, r1⟩, hb⟩
      have S_W1 := Lib.hid (S_wd.out.up hb)
      have WD_W1 := Lib.hid (WD_wd.out.trans (hb.mono WD_wd.out.size))
      clear S_wd WD_wd
      have GR_W1 := Lib.hid r1
      clear hb r1
      go_wp2_with fail
      refine hK.out _ _ (HM_wd.out _ WD_W1.out) (fun _ => ?_)
      clear hK K
      try simp only [Act.put, List.setIfInBounds_toArray, List.set_cons_zero, List.set_cons_succ]
      refine wpAnyH_ready (rs := [3, 10]) (by kernel_rfl) (by simp) ?_
      refine (AllReadyH.cons (oper_at (r := _) rfl) (fun K hK => ?_) (AllReadyH.cons (oper_at (r := _) rfl) (fun K hK => ?_) AllReadyH.nil))
      · skip
        go_simp
        refine (HO19.out _ S_W1.out.1).mono ?_
        rintro e W2 ⟨⟨K1, k3, K2, k4, rfl, r1⟩, hb⟩
        have S_W2 := Lib.hid (S_W1.out.up hb)
        have WD_W2 := Lib.hid (WD_W1.out.trans (hb.mono WD_W1.out.size))
        have GR_W2 := Lib.hid (GR_W1.out.up hb)
        clear S_W1 WD_W1 GR_W1
        have PA_W2 := Lib.hid r1
        clear hb r1
        go_wp2_with fail
        refine hK.out _ _ (HM_wd.out _ WD_W2.out) (fun _ => ?_)
        clear hK K
        try simp only [Act.put, List.setIfInBounds_toArray, List.set_cons_zero, List.set_cons_succ]
        refine wpAnyH_ready (rs := [5, 10]) (by kernel_rfl) (by simp) ?_
        refine (AllReadyH.cons (oper_at (r := _) rfl) (fun K hK => ?_) (AllReadyH.cons (oper_at (r := _) rfl) (fun K hK => ?_) AllReadyH.nil))
        · skip
          go_simp
          refine (HO29.out _ S_W2.out.1).mono ?_
          rintro e W3 ⟨⟨K5, k5, K6, k6, rfl, r1⟩, hb⟩
          have S_W3 := Lib.hid (S_W2.out.up hb)
          have WD_W3 := Lib.hid (WD_W2.out.trans (hb.mono WD_W2.out.size))
          have GR_W3 := Lib.hid (GR_W2.out.up hb)
          have PA_W3 := Lib.hid (PA_W2.out.up hb)
          clear S_W2 WD_W2 GR_W2 PA_W2
          have PB_W3 := Lib.hid r1
          clear hb r1
          go_wp2_with fail
          refine hK.out _ _ (HM_wd.out _ WD_W3.out) (fun _ => ?_)
          clear hK K
          try simp only [Act.put, List.setIfInBounds_toArray, List.set_cons_zero, List.set_cons_succ]
          refine wpAnyH_ready (rs := [6, 10]) (by kernel_rfl) (by simp) ?_
          refine (AllReadyH.cons (oper_at (r := _) rfl) (fun K hK => ?_) (AllReadyH.cons (oper_at (r := _) rfl) (fun K hK => ?_) AllReadyH.nil))
          · skip
            go_simp
            refine (HJ1.out G1 k1 G2 k2 K1 k3 K2 k4 K5 k5 K6 k6 _ GR_W3.out PA_W3.out PB_W3.out).mono ?_
            rintro e W4 ⟨⟨X3, x3, Y3, y3, rfl, r1, r2, r3, r4⟩, hb⟩
            have S_W4 := Lib.hid (S_W3.out.up hb)
            have WD_W4 := Lib.hid (WD_W3.out.trans (hb.mono WD_W3.out.size))
            have GR_W4 := Lib.hid (GR_W3.out.up hb)
            have PA_W4 := Lib.hid (PA_W3.out.up hb)
            have PB_W4 := Lib.hid (PB_W3.out.up hb)
            clear S_W3 WD_W3 GR_W3 PA_W3 PB_W3
            have R1_W4 := Lib.hid r1
            have R2_W4 := Lib.hid r2
            have LN_W4 := Lib.hid (And.intro r3 r4)
            clear hb r1 r2
            go_wp2_with fail
            refine hK.out _ _ (HM_wd.out _ WD_W4.out) (fun _ => ?_)
            clear hK K
            try simp only [Act.put, List.setIfInBounds_toArray, List.set_cons_zero, List.set_cons_succ]
            clear r3 r4
            refine wpAnyH_take (i := 7) (v := ?_) (oper_at (r := _) rfl) (by kernel_rfl) (by kernel_rfl) (by kernel_rfl) (fun _ _ _ h => h) (Or.inl ⟨by rfl, ?_⟩) (by assumption) ?_
            rotate_left
            · intro w hSw; try dsimp only at hSw
              go_simp
              try with_reducible rfl
            try simp only [Act.put, List.setIfInBounds_toArray, List.set_cons_zero, List.set_cons_succ]
            refine wpAnyH_take (i := 8) (v := ?_) (oper_at (r := _) rfl) (by kernel_rfl) (by kernel_rfl) (by kernel_rfl) (fun _ _ _ h => h) (Or.inl ⟨by rfl, ?_⟩) (by assumption) ?_
            rotate_left
            · intro w hSw; try dsimp only at hSw
              go_simp
              try with_reducible rfl
            try simp only [Act.put, List.setIfInBounds_toArray, List.set_cons_zero, List.set_cons_succ]
            refine wpAnyH_take (i := 9) (v := ?_) (oper_at (r := _) rfl) (by kernel_rfl) (by kernel_rfl) (by kernel_rfl) (fun _ _ _ h => h) (Or.inl ⟨by rfl, ?_⟩) (by assumption) ?_
            rotate_left
            · intro w hSw; try dsimp only at hSw
              go_simp
              try with_reducible rfl
            try simp only [Act.put, List.setIfInBounds_toArray, List.set_cons_zero, List.set_cons_succ]
            refine wpAnyH_ready (rs := [10]) (by kernel_rfl) (by simp) ?_
            refine AllReadyH.cons (oper_at (r := _) rfl) (fun K hK => ?_) AllReadyH.nil
            obtain ⟨gx, hg⟩ : ∃ g, g = W4.heap.size := ⟨_, rfl⟩
            have lgx : wd.heap.size ≤ gx := by rw [hg]; exact WD_W4.out.size
            have hx : BX gx (.slice none 0 0) (.slice none 0 0) 27 (W4.alloc (.cells #[.slice none 0 0, .slice none 0 0] 27)) := by rw [hg]; exact heap_alloc_new _ _
            have hb : Below W4.heap.size W4 (W4.alloc (.cells #[.slice none 0 0, .slice none 0 0] 27)) := (Below.refl _ _).alloc (Nat.le_refl _) _
            have S_W5 := Lib.hid (S_W4.out.up hb)
            have WD_W5 := Lib.hid (WD_W4.out.trans (hb.mono WD_W4.out.size))
            have R1_W5 := Lib.hid (Reads.up R1_W4.out hb)
            have R2_W5 := Lib.hid (Reads.up R2_W4.out hb)
            have LN_W5 := Lib.hid (LN_W4.out)
            clear S_W4 WD_W4 R1_W4 R2_W4 LN_W4
            have BZ_W5 := Lib.hid hx
            clear hx hb
            go_simp
            refine hK.out _ _ (HM_wd.out _ WD_W5.out) (fun _ => ?_)
            clear hK K
            try simp only [Act.put, List.setIfInBounds_toArray, List.set_cons_zero, List.set_cons_succ]
            generalize W4.alloc (.cells #[.slice none 0 0, .slice none 0 0] 27) = W5 at *
            try rw [← hg]
            clear hg
            refine wpAnyH_ready (rs := [11]) (by kernel_rfl) (by simp) ?_
            refine AllReadyH.cons (oper_at (r := _) rfl) (fun K hK => ?_) AllReadyH.nil
            have fr0 := BZ_W5.out.free 0
            have fr1 := BZ_W5.out.free 1
            obtain ⟨e0, e1⟩ := BZ_W5.out.cells
            go_simp
            clear fr0 fr1 e0 e1
            have S_W6 := Lib.hid (S_W5.out.set (g := gx) (by simp; omega) ((.slice X3 RJ.ns.length x3)) ((.slice Y3 RJ.es.length y3)))
            have WD_W6 := Lib.hid ((WD_W5.out.setCell (p := ⟨gx, 0, none⟩) (by show wd.heap.size ≤ gx; omega) ((.slice X3 RJ.ns.length x3))).setCell (p := ⟨gx, 1, none⟩) (by show wd.heap.size ≤ gx; omega) ((.slice Y3 RJ.es.length y3)))
            have R1_W6 := Lib.hid (ints_set' R1_W5.out BZ_W5.out ((.slice X3 RJ.ns.length x3)) ((.slice Y3 RJ.es.length y3)))
            have R2_W6 := Lib.hid (ints_set' R2_W5.out BZ_W5.out ((.slice X3 RJ.ns.length x3)) ((.slice Y3 RJ.es.length y3)))
            have LN_W6 := Lib.hid (LN_W5.out)
            have BZ_W6 := Lib.hid (BZ_W5.out.put ((.slice X3 RJ.ns.length x3)) ((.slice Y3 RJ.es.length y3)))
            clear S_W5 WD_W5 R1_W5 R2_W5 LN_W5 BZ_W5
            refine hK.out _ _ (HM_wd.out _ WD_W6.out) (fun _ => ?_)
            clear hK K
            try simp only [Act.put, List.setIfInBounds_toArray, List.set_cons_zero, List.set_cons_succ]
            generalize (W5.setCell ⟨gx, 0, none⟩ ((.slice X3 RJ.ns.length x3))).setCell ⟨gx, 1, none⟩ ((.slice Y3 RJ.es.length y3)) = W6 at *
            refine wpAnyH_take (i := 12) (v := ?_) (oper_at (r := _) rfl) (by kernel_rfl) (by kernel_rfl) (by kernel_rfl) (fun _ _ _ h => h) (Or.inl ⟨by rfl, ?_⟩) (by assumption) ?_
            rotate_left
            · intro w hSw; try dsimp only at hSw
              go_simp
              try with_reducible rfl
            try simp only [Act.put, List.setIfInBounds_toArray, List.set_cons_zero, List.set_cons_succ]
            refine wpAnyH_done (by kernel_rfl) ?_ _
            refine NoPanic.normal ?_
            go_wp2_with fail
            go_meet
            exact ⟨gx, X3, x3, Y3, y3, rfl, rfl, BZ_W6.out, R1_W6.out, R2_W6.out, LN_W6.out, S_W6.out⟩
          · skip
            obtain ⟨gx, hg⟩ : ∃ g, g = W3.heap.size := ⟨_, rfl⟩
            have lgx : wd.heap.size ≤ gx := by rw [hg]; exact WD_W3.out.size
            have hx : BX gx (.slice none 0 0) (.slice none 0 0) 27 (W3.alloc (.cells #[.slice none 0 0, .slice none 0 0] 27)) := by rw [hg]; exact heap_alloc_new _ _
            have hb : Below W3.heap.size W3 (W3.alloc (.cells #[.slice none 0 0, .slice none 0 0] 27)) := (Below.refl _ _).alloc (Nat.le_refl _) _
            have S_W7 := Lib.hid (S_W3.out.up hb)
            have WD_W7 := Lib.hid (WD_W3.out.trans (hb.mono WD_W3.out.size))
            have GR_W7 := Lib.hid (GR_W3.out.up hb)
            have PA_W7 := Lib.hid (PA_W3.out.up hb)
            have PB_W7 := Lib.hid (PB_W3.out.up hb)
            clear S_W3 WD_W3 GR_W3 PA_W3 PB_W3
            have BZ_W7 := Lib.hid hx
            clear hx hb
            go_simp
            refine hK.out _ _ (HM_wd.out _ WD_W7.out) (fun _ => ?_)
            clear hK K
            try simp only [Act.put, List.setIfInBounds_toArray, List.set_cons_zero, List.set_cons_succ]
            generalize W3.alloc (.cells #[.slice none 0 0, .slice none 0 0] 27) = W7 at *
            try rw [← hg]
            clear hg
            refine wpAnyH_ready (rs := [6]) (by kernel_rfl) (by simp) ?_
            refine AllReadyH.cons (oper_at (r := _) rfl) (fun K hK => ?_) AllReadyH.nil
            go_simp
            refine (HJ1.out G1 k1 G2 k2 K1 k3 K2 k4 K5 k5 K6 k6 _ GR_W7.out PA_W7.out PB_W7.out).mono ?_
            rintro e W8 ⟨⟨X3, x3, Y3, y3, rfl, r1, r2, r3, r4⟩, hb⟩
            have S_W8 := Lib.hid (S_W7.out.up hb)
            have WD_W8 := Lib.hid (WD_W7.out.trans (hb.mono WD_W7.out.size))
            have GR_W8 := Lib.hid (GR_W7.out.up hb)
            have PA_W8 := Lib.hid (PA_W7.out.up hb)
            have PB_W8 := Lib.hid (PB_W7.out.up hb)
            have BZ_W8 := Lib.hid (BZ_W7.out.up hb)
            clear S_W7 WD_W7 GR_W7 PA_W7 PB_W7 BZ_W7
            have R1_W8 := Lib.hid r1
            have R2_W8 := Lib.hid r2
            have LN_W8 := Lib.hid (And.intro r3 r4)
            clear hb r1 r2
            go_wp2_with fail
            refine hK.out _ _ (HM_wd.out _ WD_W8.out) (fun _ => ?_)
            clear hK K
            try simp only [Act.put, List.setIfInBounds_toArray, List.set_cons_zero, List.set_cons_succ]
            clear r3 r4
            refine wpAnyH_take (i := 7) (v := ?_) (oper_at (r := _) rfl) (by kernel_rfl) (by kernel_rfl) (by kernel_rfl) (fun _ _ _ h => h) (Or.inl ⟨by rfl, ?_⟩) (by assumption) ?_
            rotate_left
            · intro w hSw; try dsimp only at hSw
              go_simp
              try with_reducible rfl
            try simp only [Act.put, List.setIfInBounds_toArray, List.set_cons_zero, List.set_cons_succ]
            refine wpAnyH_take (i := 8) (v := ?_) (oper_at (r := _) rfl) (by kernel_rfl) (by kernel_rfl) (by kernel_rfl) (fun _ _ _ h => h) (Or.inl ⟨by rfl, ?_⟩) (by assumption) ?_
            rotate_left
            · intro w hSw; try dsimp only at hSw
              go_simp
              try with_reducible rfl
            try simp only [Act.put, List.setIfInBounds_toArray, List.set_cons_zero, List.set_cons_succ]
            refine wpAnyH_take (i := 9) (v := ?_) (oper_at (r := _) rfl) (by kernel_rfl) (by kernel_rfl) (by kernel_rfl) (fun _ _ _ h => h) (Or.inl ⟨by rfl, ?_⟩) (by assumption) ?_
            rotate_left
            · intro w hSw; try dsimp only at hSw
              go_simp
              try with_reducible rfl
            try simp only [Act.put, List.setIfInBounds_toArray, List.set_cons_zero, List.set_cons_succ]
            refine wpAnyH_ready (rs := [11]) (by kernel_rfl) (by simp) ?_
            refine AllReadyH.cons (oper_at (r := _) rfl) (fun K hK => ?_) AllReadyH.nil
            have fr0 := BZ_W8.out.free 0
            have fr1 := BZ_W8.out.free 1
            obtain ⟨e0, e1⟩ := BZ_W8.out.cells
            go_simp
            clear fr0 fr1 e0 e1
            have S_W9 := Lib.hid (S_W8.out.set (g := gx) (by simp; omega) ((.slice X3 RJ.ns.length x3)) ((.slice Y3 RJ.es.length y3)))
            have WD_W9 := Lib.hid ((WD_W8.out.setCell (p := ⟨gx, 0, none⟩) (by show wd.heap.size ≤ gx; omega) ((.slice X3 RJ.ns.length x3))).setCell (p := ⟨gx, 1, none⟩) (by show wd.heap.size ≤ gx; omega) ((.slice Y3 RJ.es.length y3)))
            have BZ_W9 := Lib.hid (BZ_W8.out.put ((.slice X3 RJ.ns.length x3)) ((.slice Y3 RJ.es.length y3)))
            have R1_W9 := Lib.hid (ints_set' R1_W8.out BZ_W8.out ((.slice X3 RJ.ns.length x3)) ((.slice Y3 RJ.es.length y3)))
            have R2_W9 := Lib.hid (ints_set' R2_W8.out BZ_W8.out ((.slice X3 RJ.ns.length x3)) ((.slice Y3 RJ.es.length y3)))
            have LN_W9 := Lib.hid (LN_W8.out)
            clear S_W8 WD_W8 BZ_W8 R1_W8 R2_W8 LN_W8
            refine hK.out _ _ (HM_wd.out _ WD_W9.out) (fun _ => ?_)
            clear hK K
            try simp only [Act.put, List.setIfInBounds_toArray, List.set_cons_zero, List.set_cons_succ]
            generalize (W8.setCell ⟨gx, 0, none⟩ ((.slice X3 RJ.ns.length x3))).setCell ⟨gx, 1, none⟩ ((.slice Y3 RJ.es.length y3)) = W9 at *
            refine wpAnyH_take (i := 12) (v := ?_) (oper_at (r := _) rfl) (by kernel_rfl) (by kernel_rfl) (by kernel_rfl) (fun _ _ _ h => h) (Or.inl ⟨by rfl, ?_⟩) (by assumption) ?_
            rotate_left
            · intro w hSw; try dsimp only at hSw
              go_simp
              try with_reducible rfl
            try simp only [Act.put, List.setIfInBounds_toArray, List.set_cons_zero, List.set_cons_succ]
            refine wpAnyH_done (by kernel_rfl) ?_ _
            refine NoPanic.normal ?_
            go_wp2_with fail
            go_meet
            exact ⟨gx, X3, x3, Y3, y3, rfl, rfl, BZ_W9.out, R1_W9.out, R2_W9.out, LN_W9.out, S_W9.out⟩
        · skip
          obtain ⟨gx, hg⟩ : ∃ g, g = W2.heap.size := ⟨_, rfl⟩
          have lgx : wd.heap.size ≤ gx := by rw [hg]; exact WD_W2.out.size
          have hx : BX gx (.slice none 0 0) (.slice none 0 0) 27 (W2.alloc (.cells #[.slice none 0 0, .slice none 0 0] 27)) := by rw [hg]; exact heap_alloc_new _ _
          have hb : Below W2.heap.size W2 (W2.alloc (.cells #[.slice none 0 0, .slice none 0 0] 27)) := (Below.refl _ _).alloc (Nat.le_refl _) _
          have S_W10 := Lib.hid (S_W2.out.up hb)
          have WD_W10 := Lib.hid (WD_W2.out.trans (hb.mono WD_W2.out.size))
          have GR_W10 := Lib.hid (GR_W2.out.up hb)
          have PA_W10 := Lib.hid (PA_W2.out.up hb)
          clear S_W2 WD_W2 GR_W2 PA_W2
          have BZ_W10 := Lib.hid hx
          clear hx hb
          go_simp
          refine hK.out _ _ (HM_wd.out _ WD_W10.out) (fun _ => ?_)
          clear hK K
          try simp only [Act.put, List.setIfInBounds_toArray, List.set_cons_zero, List.set_cons_succ]
          generalize W2.alloc (.cells #[.slice none 0 0, .slice none 0 0] 27) = W10 at *
          try rw [← hg]
          clear hg
          refine wpAnyH_ready (rs := [5]) (by kernel_rfl) (by simp) ?_
          refine AllReadyH.cons (oper_at (r := _) rfl) (fun K hK => ?_) AllReadyH.nil
          go_simp
          refine (HO29.out _ S_W10.out.1).mono ?_
          rintro e W11 ⟨⟨K5, k5, K6, k6, rfl, r1⟩, hb⟩
          have S_W11 := Lib.hid (S_W10.out.up hb)
          have WD_W11 := Lib.hid (WD_W10.out.trans (hb.mono WD_W10.out.size))
          have GR_W11 := Lib.hid (GR_W10.out.up hb)
          have PA_W11 := Lib.hid (PA_W10.out.up hb)
          have BZ_W11 := Lib.hid (BZ_W10.out.up hb)
          clear S_W10 WD_W10 GR_W10 PA_W10 BZ_W10
          have PB_W11 := Lib.hid r1
          clear hb r1
          go_wp2_with fail
          refine hK.out _ _ (HM_wd.out _ WD_W11.out) (fun _ => ?_)
          clear hK K
          try simp only [Act.put, List.setIfInBounds_toArray, List.set_cons_zero, List.set_cons_succ]
          refine wpAnyH_ready (rs := [6]) (by kernel_rfl) (by simp) ?_
          refine AllReadyH.cons (oper_at (r := _) rfl) (fun K hK => ?_) AllReadyH.nil
          go_simp
          refine (HJ1.out G1 k1 G2 k2 K1 k3 K2 k4 K5 k5 K6 k6 _ GR_W11.out PA_W11.out PB_W11.out).mono ?_
          rintro e W12 ⟨⟨X3, x3, Y3, y3, rfl, r1, r2, r3, r4⟩, hb⟩
          have S_W12 := Lib.hid (S_W11.out.up hb)
          have WD_W12 := Lib.hid (WD_W11.out.trans (hb.mono WD_W11.out.size))
          have GR_W12 := Lib.hid (GR_W11.out.up hb)
          have PA_W12 := Lib.hid (PA_W11.out.up hb)
          have BZ_W12 := Lib.hid (BZ_W11.out.up hb)
          have PB_W12 := Lib.hid (PB_W11.out.up hb)
          clear S_W11 WD_W11 GR_W11 PA_W11 BZ_W11 PB_W11
          have R1_W12 := Lib.hid r1
          have R2_W12 := Lib.hid r2
          have LN_W12 := Lib.hid (And.intro r3 r4)
          clear hb r1 r2
          go_wp2_with fail
          refine hK.out _ _ (HM_wd.out _ WD_W12.out) (fun _ => ?_)
          clear hK K
          try simp only [Act.put, List.setIfInBounds_toArray, List.set_cons_zero, List.set_cons_succ]
          clear r3 r4
          refine wpAnyH_take (i := 7) (v := ?_) (oper_at (r := _) rfl) (by kernel_rfl) (by kernel_rfl) (by kernel_rfl) (fun _ _ _ h => h) (Or.inl ⟨by rfl, ?_⟩) (by assumption) ?_
          rotate_left
          · intro w hSw; try dsimp only at hSw
            go_simp
            try with_reducible rfl
          try simp only [Act.put, List.setIfInBounds_toArray, List.set_cons_zero, List.set_cons_succ]
          refine wpAnyH_take (i := 8) (v := ?_) (oper_at (r := _) rfl) (by kernel_rfl) (by kernel_rfl) (by kernel_rfl) (fun _ _ _ h => h) (Or.inl ⟨by rfl, ?_⟩) (by assumption) ?_
          rotate_left
          · intro w hSw; try dsimp only at hSw
            go_simp
            try with_reducible rfl
          try simp only [Act.put, List.setIfInBounds_toArray, List.set_cons_zero, List.set_cons_succ]
          refine wpAnyH_take (i := 9) (v := ?_) (oper_at (r := _) rfl) (by kernel_rfl) (by kernel_rfl) (by kernel_rfl) (fun _ _ _ h => h) (Or.inl ⟨by rfl, ?_⟩) (by assumption) ?_
          rotate_left
          · intro w hSw; try dsimp only at hSw
            go_simp
            try with_reducible rfl
          try simp only [Act.put, List.setIfInBounds_toArray, List.set_cons_zero, List.set_cons_succ]
          refine wpAnyH_ready (rs := [11]) (by kernel_rfl) (by simp) ?_
          refine AllReadyH.cons (oper_at (r := _) rfl) (fun K hK => ?_) AllReadyH.nil
          have fr0 := BZ_W12.out.free 0
          have fr1 := BZ_W12.out.free 1
          obtain ⟨e0, e1⟩ := BZ_W12.out.cells
          go_simp
          clear fr0 fr1 e0 e1
          have S_W13 := Lib.hid (S_W12.out.set (g := gx) (by simp; omega) ((.slice X3 RJ.ns.length x3)) ((.slice Y3 RJ.es.length y3)))
          have WD_W13 := Lib.hid ((WD_W12.out.setCell (p := ⟨gx, 0, none⟩) (by show wd.heap.size ≤ gx; omega) ((.slice X3 RJ.ns.length x3))).setCell (p := ⟨gx, 1, none⟩) (by show wd.heap.size ≤ gx; omega) ((.slice Y3 RJ.es.length y3)))
          have BZ_W13 := Lib.hid (BZ_W12.out.put ((.slice X3 RJ.ns.length x3)) ((.slice Y3 RJ.es.length y3)))
          have R1_W13 := Lib.hid (ints_set' R1_W12.out BZ_W12.out ((.slice X3 RJ.ns.length x3)) ((.slice Y3 RJ.es.length y3)))
          have R2_W13 := Lib.hid (ints_set' R2_W12.out BZ_W12.out ((.slice X3 RJ.ns.length x3)) ((.slice Y3 RJ.es.length y3)))
          have LN_W13 := Lib.hid (LN_W12.out)
          clear S_W12 WD_W12 BZ_W12 R1_W12 R2_W12 LN_W12
          refine hK.out _ _ (HM_wd.out _ WD_W13.out) (fun _ => ?_)
          clear hK K
          try simp only [Act.put, List.setIfInBounds_toArray, List.set_cons_zero, List.set_cons_succ]
          generalize (W12.setCell ⟨gx, 0, none⟩ ((.slice X3 RJ.ns.length x3))).setCell ⟨gx, 1, none⟩ ((.slice Y3 RJ.es.length y3)) = W13 at *
          refine wpAnyH_take (i := 12) (v := ?_) (oper_at (r := _) rfl) (by kernel_rfl) (by kernel_rfl) (by kernel_rfl) (fun _ _ _ h => h) (Or.inl ⟨by rfl, ?_⟩) (by assumption) ?_
          rotate_left
          · intro w hSw; try dsimp only at hSw
            go_simp
            try with_reducible rfl
          try simp only [Act.put, List.setIfInBounds_toArray, List.set_cons_zero, List.set_cons_succ]
          refine wpAnyH_done (by kernel_rfl) ?_ _
          refine NoPanic.normal ?_
          go_wp2_with fail
          go_meet
          exact ⟨gx, X3, x3, Y3, y3, rfl, rfl, BZ_W13.out, R1_W13.out, R2_W13.out, LN_W13.out, S_W13.out⟩
      · skip
        obtain ⟨gx, hg⟩ : ∃ g, g = W1.heap.size := ⟨_, rfl⟩
        have lgx : wd.heap.size ≤ gx := by rw [hg]; exact WD_W1.out.size
        have hx : BX gx (.slice none 0 0) (.slice none 0 0) 27 (W1.alloc (.cells #[.slice none 0 0, .slice none 0 0] 27)) := by rw [hg]; exact heap_alloc_new _ _
        have hb : Below W1.heap.size W1 (W1.alloc (.cells #[.slice none 0 0, .slice none 0 0] 27)) := (Below.refl _ _).alloc (Nat.le_refl _) _
        have S_W14 := Lib.hid (S_W1.out.up hb)
        have WD_W14 := Lib.hid (WD_W1.out.trans (hb.mono WD_W1.out.size))
        have GR_W14 := Lib.hid (GR_W1.out.up hb)
        clear S_W1 WD_W1 GR_W1
        have BZ_W14 := Lib.hid hx
        clear hx hb
        go_simp
        refine hK.out _ _ (HM_wd.out _ WD_W14.out) (fun _ => ?_)
        clear hK K
        try simp only [Act.put, List.setIfInBounds_toArray, List.set_cons_zero, List.set_cons_succ]
        generalize W1.alloc (.cells #[.slice none 0 0, .slice none 0 0] 27) = W14 at *
        try rw [← hg]
        clear hg
        refine wpAnyH_ready (rs := [3]) (by kernel_rfl) (by simp) ?_
        refine AllReadyH.cons (oper_at (r := _) rfl) (fun K hK => ?_) AllReadyH.nil
        go_simp
        refine (HO19.out _ S_W14.out.1).mono ?_
        rintro e W15 ⟨⟨K1, k3, K2, k4, rfl, r1⟩, hb⟩
        have S_W15 := Lib.hid (S_W14.out.up hb)
        have WD_W15 := Lib.hid (WD_W14.out.trans (hb.mono WD_W14.out.size))
        have GR_W15 := Lib.hid (GR_W14.out.up hb)
        have BZ_W15 := Lib.hid (BZ_W14.out.up hb)
        clear S_W14 WD_W14 GR_W14 BZ_W14
        have PA_W15 := Lib.hid r1
        clear hb r1
        go_wp2_with fail
        refine hK.out _ _ (HM_wd.out _ WD_W15.out) (fun _ => ?_)
        clear hK K
        try simp only [Act.put, List.setIfInBounds_toArray, List.set_cons_zero, List.set_cons_succ]
        refine wpAnyH_ready (rs := [5]) (by kernel_rfl) (by simp) ?_
        refine AllReadyH.cons (oper_at (r := _) rfl) (fun K hK => ?_) AllReadyH.nil
        go_simp
        refine (HO29.out _ S_W15.out.1).mono ?_
        rintro e W16 ⟨⟨K5, k5, K6, k6, rfl, r1⟩, hb⟩
        have S_W16 := Lib.hid (S_W15.out.up hb)
        have WD_W16 := Lib.hid (WD_W15.out.trans (hb.mono WD_W15.out.size))
        have GR_W16 := Lib.hid (GR_W15.out.up hb)
        have BZ_W16 := Lib.hid (BZ_W15.out.up hb)
        have PA_W16 := Lib.hid (PA_W15.out.up hb)
        clear S_W15 WD_W15 GR_W15 BZ_W15 PA_W15
        have PB_W16 := Lib.hid r1
        clear hb r1
        go_wp2_with fail
        refine hK.out _ _ (HM_wd.out _ WD_W16.out) (fun _ => ?_)
        clear hK K
        try simp only [Act.put, List.setIfInBounds_toArray, List.set_cons_zero, List.set_cons_succ]
        refine wpAnyH_ready (rs := [6]) (by kernel_rfl) (by simp) ?_
        refine AllReadyH.cons (oper_at (r := _) rfl) (fun K hK => ?_) AllReadyH.nil
        go_simp
        refine (HJ1.out G1 k1 G2 k2 K1 k3 K2 k4 K5 k5 K6 k6 _ GR_W16.out PA_W16.out PB_W16.out).mono ?_
        rintro e W17 ⟨⟨X3, x3, Y3, y3, rfl, r1, r2, r3, r4⟩, hb⟩
        have S_W17 := Lib.hid (S_W16.out.up hb)
        have WD_W17 := Lib.hid (WD_W16.out.trans (hb.mono WD_W16.out.size))
        have GR_W17 := Lib.hid (GR_W16.out.up hb)
        have BZ_W17 := Lib.hid (BZ_W16.out.up hb)
        have PA_W17 := Lib.hid (PA_W16.out.up hb)
        have PB_W17 := Lib.hid (PB_W16.out.up hb)
        clear S_W16 WD_W16 GR_W16 BZ_W16 PA_W16 PB_W16
        have R1_W17 := Lib.hid r1
        have R2_W17 := Lib.hid r2
        have LN_W17 := Lib.hid (And.intro r3 r4)
        clear hb r1 r2
        go_wp2_with fail
        refine hK.out _ _ (HM_wd.out _ WD_W17.out) (fun _ => ?_)
        clear hK K
        try simp only [Act.put, List.setIfInBounds_toArray, List.set_cons_zero, List.set_cons_succ]
        clear r3 r4
        refine wpAnyH_take (i := 7) (v := ?_) (oper_at (r := _) rfl) (by kernel_rfl) (by kernel_rfl) (by kernel_rfl) (fun _ _ _ h => h) (Or.inl ⟨by rfl, ?_⟩) (by assumption) ?_
        rotate_left
        · intro w hSw; try dsimp only at hSw
          go_simp
          try with_reducible rfl
        try simp only [Act.put, List.setIfInBounds_toArray, List.set_cons_zero, List.set_cons_succ]
        refine wpAnyH_take (i := 8) (v := ?_) (oper_at (r := _) rfl) (by kernel_rfl) (by kernel_rfl) (by kernel_rfl) (fun _ _ _ h => h) (Or.inl ⟨by rfl, ?_⟩) (by assumption) ?_
        rotate_left
        · intro w hSw; try dsimp only at hSw
          go_simp
          try with_reducible rfl
        try simp only [Act.put, List.setIfInBounds_toArray, List.set_cons_zero, List.set_cons_succ]
        refine wpAnyH_take (i := 9) (v := ?_) (oper_at (r := _) rfl) (by kernel_rfl) (by kernel_rfl) (by kernel_rfl) (fun _ _ _ h => h) (Or.inl ⟨by rfl, ?_⟩) (by assumption) ?_
        rotate_left
        · intro w hSw; try dsimp only at hSw
          go_simp
          try with_reducible rfl
        try simp only [Act.put, List.setIfInBounds_toArray, List.set_cons_zero, List.set_cons_succ]
        refine wpAnyH_ready (rs := [11]) (by kernel_rfl) (by simp) ?_
        refine AllReadyH.cons (oper_at (r := _) rfl) (fun K hK => ?_) AllReadyH.nil
        have fr0 := BZ_W17.out.free 0
        have fr1 := BZ_W17.out.free 1
        obtain ⟨e0, e1⟩ := BZ_W17.out.cells
        go_simp
        clear fr0 fr1 e0 e1
        have S_W18 := Lib.hid (S_W17.out.set (g := gx) (by simp; omega) ((.slice X3 RJ.ns.length x3)) ((.slice Y3 RJ.es.length y3)))
        have WD_W18 := Lib.hid ((WD_W17.out.setCell (p := ⟨gx, 0, none⟩) (by show wd.heap.size ≤ gx; omega) ((.slice X3 RJ.ns.length x3))).setCell (p := ⟨gx, 1, none⟩) (by show wd.heap.size ≤ gx; omega) ((.slice Y3 RJ.es.length y3)))
        have BZ_W18 := Lib.hid (BZ_W17.out.put ((.slice X3 RJ.ns.length x3)) ((.slice Y3 RJ.es.length y3)))
        have R1_W18 := Lib.hid (ints_set' R1_W17.out BZ_W17.out ((.slice X3 RJ.ns.length x3)) ((.slice Y3 RJ.es.length y3)))
        have R2_W18 := Lib.hid (ints_set' R2_W17.out BZ_W17.out ((.slice X3 RJ.ns.length x3)) ((.slice Y3 RJ.es.length y3)))
        have LN_W18 := Lib.hid (LN_W17.out)
        clear S_W17 WD_W17 BZ_W17 R1_W17 R2_W17 LN_W17
        refine hK.out _ _ (HM_wd.out _ WD_W18.out) (fun _ => ?_)
        clear hK K
        try simp only [Act.put, List.setIfInBounds_toArray, List.set_cons_zero, List.set_cons_succ]
        generalize (W17.setCell ⟨gx, 0, none⟩ ((.slice X3 RJ.ns.length x3))).setCell ⟨gx, 1, none⟩ ((.slice Y3 RJ.es.length y3)) = W18 at *
        refine wpAnyH_take (i := 12) (v := ?_) (oper_at (r := _) rfl) (by kernel_rfl) (by kernel_rfl) (by kernel_rfl) (fun _ _ _ h => h) (Or.inl ⟨by rfl, ?_⟩) (by assumption) ?_
        rotate_left
        · intro w hSw; try dsimp only at hSw
          go_simp
          try with_reducible rfl
        try simp only [Act.put, List.setIfInBounds_toArray, List.set_cons_zero, List.set_cons_succ]
        refine wpAnyH_done (by kernel_rfl) ?_ _
        refine NoPanic.normal ?_
        go_wp2_with fail
        go_meet
        exact ⟨gx, X3, x3, Y3, y3, rfl, rfl, BZ_W18.out, R1_W18.out, R2_W18.out, LN_W18.out, S_W18.out⟩
    · skip
      obtain ⟨gx, hg⟩ : ∃ g, g = wd.heap.size := ⟨_, rfl⟩
      have lgx : wd.heap.size ≤ gx := by rw [hg]; exact WD_wd.out.size
      have hx : BX gx (.slice none 0 0) (.slice none 0 0) 27 (wd.alloc (.cells #[.slice none 0 0, .slice none 0 0] 27)) := by rw [hg]; exact heap_alloc_new _ _
      have hb : Below wd.heap.size wd (wd.alloc (.cells #[.slice none 0 0, .slice none 0 0] 27)) := (Below.refl _ _).alloc (Nat.le_refl _) _
      have S_W19 := Lib.hid (S_wd.out.up hb)
      have WD_W19 := Lib.hid (WD_wd.out.trans (hb.mono WD_wd.out.size))
      clear S_wd WD_wd
      have BZ_W19 := Lib.hid hx
      clear hx hb
      go_simp
      refine hK.out _ _ (HM_wd.out _ WD_W19.out) (fun _ => ?_)
      clear hK K
      try simp only [Act.put, List.setIfInBounds_toArray, List.set_cons_zero, List.set_cons_succ]
      generalize wd.alloc (.cells #[.slice none 0 0, .slice none 0 0] 27) = W19 at *
      try rw [← hg]
      clear hg
      refine wpAnyH_ready (rs := [1]) (by kernel_rfl) (by simp) ?_
      refine AllReadyH.cons (oper_at (r := _) rfl) (fun K hK => ?_) AllReadyH.nil
      go_simp
      refine (HCP9.out _ S_W19.out.1).mono ?_
      rintro e W20 ⟨⟨G1, k1, G2, k2, rfl, r1⟩, hb⟩
      have S_W20 := Lib.hid (S_W19.out.up hb)
      have WD_W20 := Lib.hid (WD_W19.out.trans (hb.mono WD_W19.out.size))
      have BZ_W20 := Lib.hid (BZ_W19.out.up hb)
      clear S_W19 WD_W19 BZ_W19
      have GR_W20 := Lib.hid r1
      clear hb r1
      go_wp2_with fail
      refine hK.out _ _ (HM_wd.out _ WD_W20.out) (fun _ => ?_)
      clear hK K
      try simp only [Act.put, List.setIfInBounds_toArray, List.set_cons_zero, List.set_cons_succ]
      refine wpAnyH_ready (rs := [3]) (by kernel_rfl) (by simp) ?_
      refine AllReadyH.cons (oper_at (r := _) rfl) (fun K hK => ?_) AllReadyH.nil
      go_simp
      refine (HO19.out _ S_W20.out.1).mono ?_
      rintro e W21 ⟨⟨K1, k3, K2, k4, rfl, r1⟩, hb⟩
      have S_W21 := Lib.hid (S_W20.out.up hb)
      have WD_W21 := Lib.hid (WD_W20.out.trans (hb.mono WD_W20.out.size))
      have BZ_W21 := Lib.hid (BZ_W20.out.up hb)
      have GR_W21 := Lib.hid (GR_W20.out.up hb)
      clear S_W20 WD_W20 BZ_W20 GR_W20
      have PA_W21 := Lib.hid r1
      clear hb r1
      go_wp2_with fail
      refine hK.out _ _ (HM_wd.out _ WD_W21.out) (fun _ => ?_)
      clear hK K
      try simp only [Act.put, List.setIfInBounds_toArray, List.set_cons_zero, List.set_cons_succ]
      refine wpAnyH_ready (rs := [5]) (by kernel_rfl) (by simp) ?_
      refine AllReadyH.cons (oper_at (r := _) rfl) (fun K hK => ?_) AllReadyH.nil
      go_simp
      refine (HO29.out _ S_W21.out.1).mono ?_
      rintro e W22 ⟨⟨K5, k5, K6, k6, rfl, r1⟩, hb⟩
      have S_W22 := Lib.hid (S_W21.out.up hb)
      have WD_W22 := Lib.hid (WD_W21.out.trans (hb.mono WD_W21.out.size))
      have BZ_W22 := Lib.hid (BZ_W21.out.up hb)
      have GR_W22 := Lib.hid (GR_W21.out.up hb)
      have PA_W22 := Lib.hid (PA_W21.out.up hb)
      clear S_W21 WD_W21 BZ_W21 GR_W21 PA_W21
      have PB_W22 := Lib.hid r1
      clear hb r1
      go_wp2_with fail
      refine hK.out _ _ (HM_wd.out _ WD_W22.out) (fun _ => ?_)
      clear hK K
      try simp only [Act.put, List.setIfInBounds_toArray, List.set_cons_zero, List.set_cons_succ]
      refine wpAnyH_ready (rs := [6]) (by kernel_rfl) (by simp) ?_
      refine AllReadyH.cons (oper_at (r := _) rfl) (fun K hK => ?_) AllReadyH.nil
      go_simp
      refine (HJ1.out G1 k1 G2 k2 K1 k3 K2 k4 K5 k5 K6 k6 _ GR_W22.out PA_W22.out PB_W22.out).mono ?_
      rintro e W23 ⟨⟨X3, x3, Y3, y3, rfl, r1, r2, r3, r4⟩, hb⟩
      have S_W23 := Lib.hid (S_W22.out.up hb)
      have WD_W23 := Lib.hid (WD_W22.out.trans (hb.mono WD_W22.out.size))
      have BZ_W23 := Lib.hid (BZ_W22.out.up hb)
      have GR_W23 := Lib.hid (GR_W22.out.up hb)
      have PA_W23 := Lib.hid (PA_W22.out.up hb)
      have PB_W23 := Lib.hid (PB_W22.out.up hb)
      clear S_W22 WD_W22 BZ_W22 GR_W22 PA_W22 PB_W22
      have R1_W23 := Lib.hid r1
      have R2_W23 := Lib.hid r2
      have LN_W23 := Lib.hid (And.intro r3 r4)
      clear hb r1 r2
      go_wp2_with fail
      refine hK.out _ _ (HM_wd.out _ WD_W23.out) (fun _ => ?_)
      clear hK K
      try simp only [Act.put, List.setIfInBounds_toArray, List.set_cons_zero, List.set_cons_succ]
      clear r3 r4
      refine wpAnyH_take (i := 7) (v := ?_) (oper_at (r := _) rfl) (by kernel_rfl) (by kernel_rfl) (by kernel_rfl) (fun _ _ _ h => h) (Or.inl ⟨by rfl, ?_⟩) (by assumption) ?_
      rotate_left
      · intro w hSw; try dsimp only at hSw
        go_simp
        try with_reducible rfl
      try simp only [Act.put, List.setIfInBounds_toArray, List.set_cons_zero, List.set_cons_succ]
      refine wpAnyH_take (i := 8) (v := ?_) (oper_at (r := _) rfl) (by kernel_rfl) (by kernel_rfl) (by kernel_rfl) (fun _ _ _ h => h) (Or.inl ⟨by rfl, ?_⟩) (by assumption) ?_
      rotate_left
      · intro w hSw; try dsimp only at hSw
        go_simp
        try with_reducible rfl
      try simp only [Act.put, List.setIfInBounds_toArray, List.set_cons_zero, List.set_cons_succ]
      refine wpAnyH_take (i := 9) (v := ?_) (oper_at (r := _) rfl) (by kernel_rfl) (by kernel_rfl) (by kernel_rfl) (fun _ _ _ h => h) (Or.inl ⟨by rfl, ?_⟩) (by assumption) ?_
      rotate_left
      · intro w hSw; try dsimp only at hSw
        go_simp
        try with_reducible rfl
      try simp only [Act.put, List.setIfInBounds_toArray, List.set_cons_zero, List.set_cons_succ]
      refine wpAnyH_ready (rs := [11]) (by kernel_rfl) (by simp) ?_
      refine AllReadyH.cons (oper_at (r := _) rfl) (fun K hK => ?_) AllReadyH.nil
      have fr0 := BZ_W23.out.free 0
      have fr1 := BZ_W23.out.free 1
      obtain ⟨e0, e1⟩ := BZ_W23.out.cells
      go_simp
      clear fr0 fr1 e0 e1
      have S_W24 := Lib.hid (S_W23.out.set (g := gx) (by simp; omega) ((.slice X3 RJ.ns.length x3)) ((.slice Y3 RJ.es.length y3)))
      have WD_W24 := Lib.hid ((WD_W23.out.setCell (p := ⟨gx, 0, none⟩) (by show wd.heap.size ≤ gx; omega) ((.slice X3 RJ.ns.length x3))).setCell (p := ⟨gx, 1, none⟩) (by show wd.heap.size ≤ gx; omega) ((.slice Y3 RJ.es.length y3)))
      have BZ_W24 := Lib.hid (BZ_W23.out.put ((.slice X3 RJ.ns.length x3)) ((.slice Y3 RJ.es.length y3)))
      have R1_W24 := Lib.hid (ints_set' R1_W23.out BZ_W23.out ((.slice X3 RJ.ns.length x3)) ((.slice Y3 RJ.es.length y3)))
      have R2_W24 := Lib.hid (ints_set' R2_W23.out BZ_W23.out ((.slice X3 RJ.ns.length x3)) ((.slice Y3 RJ.es.length y3)))
      have LN_W24 := Lib.hid (LN_W23.out)
      clear S_W23 WD_W23 BZ_W23 R1_W23 R2_W23 LN_W23
      refine hK.out _ _ (HM_wd.out _ WD_W24.out) (fun _ => ?_)
      clear hK K
      try simp only [Act.put, List.setIfInBounds_toArray, List.set_cons_zero, List.set_cons_succ]
      generalize (W23.setCell ⟨gx, 0, none⟩ ((.slice X3 RJ.ns.length x3))).setCell ⟨gx, 1, none⟩ ((.slice Y3 RJ.es.length y3)) = W24 at *
      refine wpAnyH_take (i := 12) (v := ?_) (oper_at (r := _) rfl) (by kernel_rfl) (by kernel_rfl) (by kernel_rfl) (fun _ _ _ h => h) (Or.inl ⟨by rfl, ?_⟩) (by assumption) ?_
      rotate_left
      · intro w hSw; try dsimp only at hSw
        go_simp
        try with_reducible rfl
      try simp only [Act.put, List.setIfInBounds_toArray, List.set_cons_zero, List.set_cons_succ]
      refine wpAnyH_done (by kernel_rfl) ?_ _
      refine NoPanic.normal ?_
      go_wp2_with fail
      go_meet
      exact ⟨gx, X3, x3, Y3, y3, rfl, rfl, BZ_W24.out, R1_W24.out, R2_W24.out, LN_W24.out, S_W24.out⟩
  case rest =>
    obtain ⟨g1, X1, x1, Y1, y1, rfl, rfl, hbx, r1, r2, hl, hS⟩ := hcut
    have B1_wc := Lib.hid hbx
    have R11_wc := Lib.hid r1
    have R21_wc := Lib.hid r2
    have HL1 := Lib.hid hl
    have HS3 := Lib.hid hS
    clear hbx r1 r2 hl hS HS2
    have c0 := HS3.out.cell (i := 0) (j := 0) rfl rfl
    have c1 := HS3.out.cell (i := 0) (j := 1) rfl rfl
    have d0 := HS3.out.cell (i := 1) (j := 0) rfl rfl
    have d1 := HS3.out.cell (i := 1) (j := 1) rfl rfl
    have f0 := HS3.out.cell (i := 2) (j := 0) rfl rfl
    have f1 := HS3.out.cell (i := 2) (j := 1) rfl rfl
    simp only [Nat.add_zero] at c0 c1
    go_wp2_with fail
    refine (HJ2.out _ HS3.out.1 (HPP9.out _ HS3.out.1) (HQP9.out _ HS3.out.1)).mono ?_
    rintro e v2 ⟨⟨X2, x2, Y2, y2, rfl, r1, r2, r3, r4⟩, hb⟩
    have S_v2 := Lib.hid (HS3.out.up hb)
    have B1_v2 := Lib.hid (B1_wc.out.up hb)
    have R11_v2 := Lib.hid (Reads.up R11_wc.out hb)
    have R21_v2 := Lib.hid (Reads.up R21_wc.out hb)
    clear HS3 B1_wc R11_wc R21_wc
    have R1_v2 := Lib.hid r1
    have R2_v2 := Lib.hid r2
    have HL := Lib.hid (And.intro r3 r4)
    clear r1 r2 r3 r4 hb c0 c1 d0 d1 f0 f1
    go_upto_region 5 with fail
    have hb : Below v2.heap.size v2 (v2.alloc (.cells #[.slice X2 RJ.ns.length x2, .slice Y2 RJ.es.length y2] 27)) := (Below.refl _ _).alloc (Nat.le_refl _) _
    have hx : BX v2.heap.size (.slice X2 RJ.ns.length x2) (.slice Y2 RJ.es.length y2) 27 (v2.alloc (.cells #[.slice X2 RJ.ns.length x2, .slice Y2 RJ.es.length y2] 27)) := heap_alloc_new _ _
    have S_V2 := Lib.hid (S_v2.out.up hb)
    have B1_V2 := Lib.hid (B1_v2.out.up hb)
    have R11_V2 := Lib.hid (Reads.up R11_v2.out hb)
    have R21_V2 := Lib.hid (Reads.up R21_v2.out hb)
    have R12_V2 := Lib.hid (Reads.up R1_v2.out hb)
    have R22_V2 := Lib.hid (Reads.up R2_v2.out hb)
    clear S_v2 B1_v2 R11_v2 R21_v2 R1_v2 R2_v2
    have B2_V2 := Lib.hid hx
    clear hb hx
    generalize v2.alloc (.cells #[.slice X2 RJ.ns.length x2, .slice Y2 RJ.es.length y2] 27) = V2 at *
    generalize v2.heap.size = g2 at *
    clear HL
    go_cut [11, 12] (fun u v wc => ∃ gx Xn xn Xe xe, u = .pointer (some ⟨gx, 0, none⟩) ∧ v = .int .i64 (E : Nat) ∧ BX gx (.slice Xn RM.ns.length xn) (.slice Xe RM.es.length xe) 27 wc ∧ Ints wc wc.heap.size Xn RM.ns ∧ Ints wc wc.heap.size Xe RM.es ∧ R2 RM ∧ Below V2.heap.size V2 wc)
    case first =>
      go_wp2_with fail
      have HVD := Lib.hid (below_d V2)
      have S_wd2 := Lib.hid (S_V2.out.up (below_d V2))
      clear S_V2
      have q0 : V2.drew.cell? ⟨w.heap.size, 0, none⟩ = some (.slice An g.ns.length cn) := S_wd2.out.cell (i := 0) (j := 0) rfl rfl
      have q1 : V2.drew.cell? ⟨w.heap.size, 1, none⟩ = some (.slice Ae g.es.length ce) := S_wd2.out.cell (i := 0) (j := 1) rfl rfl
      have q2 : V2.drew.cell? ⟨w.heap.size + 1, 0, none⟩ = some (.slice Pn p.ns.length pn) := S_wd2.out.cell (i := 1) (j := 0) rfl rfl
      have q3 : V2.drew.cell? ⟨w.heap.size + 1, 1, none⟩ = some (.slice Pe p.es.length pe) := S_wd2.out.cell (i := 1) (j := 1) rfl rfl
      have q4 : V2.drew.cell? ⟨w.heap.size + 2, 0, none⟩ = some (.slice Qn q.ns.length qn) := S_wd2.out.cell (i := 2) (j := 0) rfl rfl
      have q5 : V2.drew.cell? ⟨w.heap.size + 2, 1, none⟩ = some (.slice Qe q.es.length qe) := S_wd2.out.cell (i := 2) (j := 1) rfl rfl
      have HM_wd2 : Hid (∀ u, Below V2.drew.heap.size V2.drew u → (fun u : World => u.cell? ⟨w.heap.size, 0, none⟩ = some (.slice An g.ns.length cn) ∧ u.cell? ⟨w.heap.size, 1, none⟩ = some (.slice Ae g.es.length ce) ∧ u.cell? ⟨w.heap.size + 1, 0, none⟩ = some (.slice Pn p.ns.length pn) ∧ u.cell? ⟨w.heap.size + 1, 1, none⟩ = some (.slice Pe p.es.length pe) ∧ u.cell? ⟨w.heap.size + 2, 0, none⟩ = some (.slice Qn q.ns.length qn) ∧ u.cell? ⟨w.heap.size + 2, 1, none⟩ = some (.slice Qe q.es.length qe)) u) := Lib.hid fun u hb => ⟨cell_up hb q0, cell_up hb q1, cell_up hb q2, cell_up hb q3, cell_up hb q4, cell_up hb q5⟩
      clear q0 q1 q2 q3 q4 q5
      have WD_wd2 := Lib.hid (Below.refl V2.drew.heap.size V2.drew)
      refine wp_region_noPanic ?_
      refine wp_region_held_drew (S := (fun u : World => u.cell? ⟨w.heap.size, 0, none⟩ = some (.slice An g.ns.length cn) ∧ u.cell? ⟨w.heap.size, 1, none⟩ = some (.slice Ae g.es.length ce) ∧ u.cell? ⟨w.heap.size + 1, 0, none⟩ = some (.slice Pn p.ns.length pn) ∧ u.cell? ⟨w.heap.size + 1, 1, none⟩ = some (.slice Pe p.es.length pe) ∧ u.cell? ⟨w.heap.size + 2, 0, none⟩ = some (.slice Qn q.ns.length qn) ∧ u.cell? ⟨w.heap.size + 2, 1, none⟩ = some (.slice Qe q.es.length qe))) (by kernel_rfl) (HM_wd2.out _ WD_wd2.out) (fun hHeld => ?_)
      generalize V2.drew = wd2 at *
      have lsv : w.heap.size + 3 ≤ wd2.heap.size := S_wd2.out.2.1
      refine wpAnyH_take (i := 0) (v := ?_) (oper_at (r := _) rfl) (by kernel_rfl) (by kernel_rfl) (by kernel_rfl) (fun _ _ _ h => h) (Or.inl ⟨by rfl, ?_⟩) (by assumption) ?_
      rotate_left
      · intro w hSw; try dsimp only at hSw
        go_simp
        try with_reducible rfl
      try simp only [Act.put, List.setIfInBounds_toArray, List.set_cons_zero, List.set_cons_succ]
      refine wpAnyH_take (i := 2) (v := ?_) (oper_at (r := _) rfl) (by kernel_rfl) (by kernel_rfl) (by kernel_rfl) (fun _ _ _ h => h) (Or.inl ⟨by rfl, ?_⟩) (by assumption) ?_
      rotate_left
      · intro w hSw; try dsimp only at hSw
        go_simp
        try with_reducible rfl
      try simp only [Act.put, List.setIfInBounds_toArray, List.set_cons_zero, List.set_cons_succ]
      refine wpAnyH_take (i := 4) (v := ?_) (oper_at (r := _) rfl) (by kernel_rfl) (by kernel_rfl) (by kernel_rfl) (fun _ _ _ h => h) (Or.inl ⟨by rfl, ?_⟩) (by assumption) ?_
      rotate_left
      · intro w hSw; try dsimp only at hSw
        go_simp
        try with_reducible rfl
      try simp only [Act.put, List.setIfInBounds_toArray, List.set_cons_zero, List.set_cons_succ]
      refine wpAnyH_ready (rs := [1, 10]) (by kernel_rfl) (by simp) ?_
      refine (AllReadyH.cons (oper_at (r := _) rfl) (fun K hK => ?_) (AllReadyH.cons (oper_at (r := _) rfl) (fun K hK => ?_) AllReadyH.nil))
      · skip
        go_simp
        refine (HCP9.out _ S_wd2.out.1).mono ?_
        rintro e W25 ⟨⟨G1, k1, G2, k2, rfl, r1⟩, hb⟩
        have S_W25 := Lib.hid (S_wd2.out.up hb)
        have WD_W25 := Lib.hid (WD_wd2.out.trans (hb.mono WD_wd2.out.size))
        clear S_wd2 WD_wd2
        have GR_W25 := Lib.hid r1
        clear hb r1
        go_wp2_with fail
        refine hK.out _ _ (HM_wd2.out _ WD_W25.out) (fun _ => ?_)
        clear hK K
        try simp only [Act.put, List.setIfInBounds_toArray, List.set_cons_zero, List.set_cons_succ]
        refine wpAnyH_ready (rs := [3, 10]) (by kernel_rfl) (by simp) ?_
        refine (AllReadyH.cons (oper_at (r := _) rfl) (fun K hK => ?_) (AllReadyH.cons (oper_at (r := _) rfl) (fun K hK => ?_) AllReadyH.nil))
        · skip
          go_simp
          refine (HO19.out _ S_W25.out.1).mono ?_
          rintro e W26 ⟨⟨K1, k3, K2, k4, rfl, r1⟩, hb⟩
          have S_W26 := Lib.hid (S_W25.out.up hb)
          have WD_W26 := Lib.hid (WD_W25.out.trans (hb.mono WD_W25.out.size))
          have GR_W26 := Lib.hid (GR_W25.out.up hb)
          clear S_W25 WD_W25 GR_W25
          have PA_W26 := Lib.hid r1
          clear hb r1
          go_wp2_with fail
          refine hK.out _ _ (HM_wd2.out _ WD_W26.out) (fun _ => ?_)
          clear hK K
          try simp only [Act.put, List.setIfInBounds_toArray, List.set_cons_zero, List.set_cons_succ]
          refine wpAnyH_ready (rs := [5, 10]) (by kernel_rfl) (by simp) ?_
          refine (AllReadyH.cons (oper_at (r := _) rfl) (fun K hK => ?_) (AllReadyH.cons (oper_at (r := _) rfl) (fun K hK => ?_) AllReadyH.nil))
          · skip
            go_simp
            refine (HO29.out _ S_W26.out.1).mono ?_
            rintro e W27 ⟨⟨K5, k5, K6, k6, rfl, r1⟩, hb⟩
            have S_W27 := Lib.hid (S_W26.out.up hb)
            have WD_W27 := Lib.hid (WD_W26.out.trans (hb.mono WD_W26.out.size))
            have GR_W27 := Lib.hid (GR_W26.out.up hb)
            have PA_W27 := Lib.hid (PA_W26.out.up hb)
            clear S_W26 WD_W26 GR_W26 PA_W26
            have PB_W27 := Lib.hid r1
            clear hb r1
            go_wp2_with fail
            refine hK.out _ _ (HM_wd2.out _ WD_W27.out) (fun _ => ?_)
            clear hK K
            try simp only [Act.put, List.setIfInBounds_toArray, List.set_cons_zero, List.set_cons_succ]
            refine wpAnyH_ready (rs := [6, 10]) (by kernel_rfl) (by simp) ?_
            refine (AllReadyH.cons (oper_at (r := _) rfl) (fun K hK => ?_) (AllReadyH.cons (oper_at (r := _) rfl) (fun K hK => ?_) AllReadyH.nil))
            · skip
              go_simp
              refine (HM1.out G1 k1 G2 k2 K1 k3 K2 k4 K5 k5 K6 k6 _ GR_W27.out PA_W27.out PB_W27.out).mono ?_
              rintro e W28 ⟨⟨X3, x3, Y3, y3, rfl, r1, r2, r3, r4⟩, hb⟩
              have S_W28 := Lib.hid (S_W27.out.up hb)
              have WD_W28 := Lib.hid (WD_W27.out.trans (hb.mono WD_W27.out.size))
              have GR_W28 := Lib.hid (GR_W27.out.up hb)
              have PA_W28 := Lib.hid (PA_W27.out.up hb)
              have PB_W28 := Lib.hid (PB_W27.out.up hb)
              clear S_W27 WD_W27 GR_W27 PA_W27 PB_W27
              have R1_W28 := Lib.hid r1
              have R2_W28 := Lib.hid r2
              have LN_W28 := Lib.hid (And.intro r3 r4)
              clear hb r1 r2
              go_wp2_with fail
              refine hK.out _ _ (HM_wd2.out _ WD_W28.out) (fun _ => ?_)
              clear hK K
              try simp only [Act.put, List.setIfInBounds_toArray, List.set_cons_zero, List.set_cons_succ]
              clear r3 r4
              refine wpAnyH_take (i := 7) (v := ?_) (oper_at (r := _) rfl) (by kernel_rfl) (by kernel_rfl) (by kernel_rfl) (fun _ _ _ h => h) (Or.inl ⟨by rfl, ?_⟩) (by assumption) ?_
              rotate_left
              · intro w hSw; try dsimp only at hSw
                go_simp
                try with_reducible rfl
              try simp only [Act.put, List.setIfInBounds_toArray, List.set_cons_zero, List.set_cons_succ]
              refine wpAnyH_take (i := 8) (v := ?_) (oper_at (r := _) rfl) (by kernel_rfl) (by kernel_rfl) (by kernel_rfl) (fun _ _ _ h => h) (Or.inl ⟨by rfl, ?_⟩) (by assumption) ?_
              rotate_left
              · intro w hSw; try dsimp only at hSw
                go_simp
                try with_reducible rfl
              try simp only [Act.put, List.setIfInBounds_toArray, List.set_cons_zero, List.set_cons_succ]
              refine wpAnyH_take (i := 9) (v := ?_) (oper_at (r := _) rfl) (by kernel_rfl) (by kernel_rfl) (by kernel_rfl) (fun _ _ _ h => h) (Or.inl ⟨by rfl, ?_⟩) (by assumption) ?_
              rotate_left
              · intro w hSw; try dsimp only at hSw
                go_simp
                try with_reducible rfl
              try simp only [Act.put, List.setIfInBounds_toArray, List.set_cons_zero, List.set_cons_succ]
              refine wpAnyH_ready (rs := [10]) (by kernel_rfl) (by simp) ?_
              refine AllReadyH.cons (oper_at (r := _) rfl) (fun K hK => ?_) AllReadyH.nil
              obtain ⟨gx, hg⟩ : ∃ g, g = W28.heap.size := ⟨_, rfl⟩
              have lgx : wd2.heap.size ≤ gx := by rw [hg]; exact WD_W28.out.size
              have hx : BX gx (.slice none 0 0) (.slice none 0 0) 27 (W28.alloc (.cells #[.slice none 0 0, .slice none 0 0] 27)) := by rw [hg]; exact heap_alloc_new _ _
              have hb : Below W28.heap.size W28 (W28.alloc (.cells #[.slice none 0 0, .slice none 0 0] 27)) := (Below.refl _ _).alloc (Nat.le_refl _) _
              have S_W29 := Lib.hid (S_W28.out.up hb)
              have WD_W29 := Lib.hid (WD_W28.out.trans (hb.mono WD_W28.out.size))
              have R1_W29 := Lib.hid (Reads.up R1_W28.out hb)
              have R2_W29 := Lib.hid (Reads.up R2_W28.out hb)
              have LN_W29 := Lib.hid (LN_W28.out)
              clear S_W28 WD_W28 R1_W28 R2_W28 LN_W28
              have BZ_W29 := Lib.hid hx
              clear hx hb
              go_simp
              refine hK.out _ _ (HM_wd2.out _ WD_W29.out) (fun _ => ?_)
              clear hK K
              try simp only [Act.put, List.setIfInBounds_toArray, List.set_cons_zero, List.set_cons_succ]
              generalize W28.alloc (.cells #[.slice none 0 0, .slice none 0 0] 27) = W29 at *
              try rw [← hg]
              clear hg
              refine wpAnyH_ready (rs := [11]) (by kernel_rfl) (by simp) ?_
              refine AllReadyH.cons (oper_at (r := _) rfl) (fun K hK => ?_) AllReadyH.nil
              have fr0 := BZ_W29.out.free 0
              have fr1 := BZ_W29.out.free 1
              obtain ⟨e0, e1⟩ := BZ_W29.out.cells
              go_simp
              clear fr0 fr1 e0 e1
              have S_W30 := Lib.hid (S_W29.out.set (g := gx) (by simp; omega) ((.slice X3 RM.ns.length x3)) ((.slice Y3 RM.es.length y3)))
              have WD_W30 := Lib.hid ((WD_W29.out.setCell (p := ⟨gx, 0, none⟩) (by show wd2.heap.size ≤ gx; omega) ((.slice X3 RM.ns.length x3))).setCell (p := ⟨gx, 1, none⟩) (by show wd2.heap.size ≤ gx; omega) ((.slice Y3 RM.es.length y3)))
              have R1_W30 := Lib.hid (ints_set' R1_W29.out BZ_W29.out ((.slice X3 RM.ns.length x3)) ((.slice Y3 RM.es.length y3)))
              have R2_W30 := Lib.hid (ints_set' R2_W29.out BZ_W29.out ((.slice X3 RM.ns.length x3)) ((.slice Y3 RM.es.length y3)))
              have LN_W30 := Lib.hid (LN_W29.out)
              have BZ_W30 := Lib.hid (BZ_W29.out.put ((.slice X3 RM.ns.length x3)) ((.slice Y3 RM.es.length y3)))
              clear S_W29 WD_W29 R1_W29 R2_W29 LN_W29 BZ_W29
              refine hK.out _ _ (HM_wd2.out _ WD_W30.out) (fun _ => ?_)
              clear hK K
              try simp only [Act.put, List.setIfInBounds_toArray, List.set_cons_zero, List.set_cons_succ]
              generalize (W29.setCell ⟨gx, 0, none⟩ ((.slice X3 RM.ns.length x3))).setCell ⟨gx, 1, none⟩ ((.slice Y3 RM.es.length y3)) = W30 at *
              refine wpAnyH_take (i := 12) (v := ?_) (oper_at (r := _) rfl) (by kernel_rfl) (by kernel_rfl) (by kernel_rfl) (fun _ _ _ h => h) (Or.inl ⟨by rfl, ?_⟩) (by assumption) ?_
              rotate_left
              · intro w hSw; try dsimp only at hSw
                go_simp
                try with_reducible rfl
              try simp only [Act.put, List.setIfInBounds_toArray, List.set_cons_zero, List.set_cons_succ]
              refine wpAnyH_done (by kernel_rfl) ?_ _
              refine NoPanic.normal ?_
              go_wp2_with fail
              go_meet
              exact ⟨gx, X3, x3, Y3, y3, rfl, rfl, BZ_W30.out, R1_W30.out, R2_W30.out, LN_W30.out, HVD.out.trans (WD_W30.out.mono HVD.out.size)⟩
            · skip
              obtain ⟨gx, hg⟩ : ∃ g, g = W27.heap.size := ⟨_, rfl⟩
              have lgx : wd2.heap.size ≤ gx := by rw [hg]; exact WD_W27.out.size
              have hx : BX gx (.slice none 0 0) (.slice none 0 0) 27 (W27.alloc (.cells #[.slice none 0 0, .slice none 0 0] 27)) := by rw [hg]; exact heap_alloc_new _ _
              have hb : Below W27.heap.size W27 (W27.alloc (.cells #[.slice none 0 0, .slice none 0 0] 27)) := (Below.refl _ _).alloc (Nat.le_refl _) _
              have S_W31 := Lib.hid (S_W27.out.up hb)
              have WD_W31 := Lib.hid (WD_W27.out.trans (hb.mono WD_W27.out.size))
              have GR_W31 := Lib.hid (GR_W27.out.up hb)
              have PA_W31 := Lib.hid (PA_W27.out.up hb)
              have PB_W31 := Lib.hid (PB_W27.out.up hb)
              clear S_W27 WD_W27 GR_W27 PA_W27 PB_W27
              have BZ_W31 := Lib.hid hx
              clear hx hb
              go_simp
              refine hK.out _ _ (HM_wd2.out _ WD_W31.out) (fun _ => ?_)
              clear hK K
              try simp only [Act.put, List.setIfInBounds_toArray, List.set_cons_zero, List.set_cons_succ]
              generalize W27.alloc (.cells #[.slice none 0 0, .slice none 0 0] 27) = W31 at *
              try rw [← hg]
              clear hg
              refine wpAnyH_ready (rs := [6]) (by kernel_rfl) (by simp) ?_
              refine AllReadyH.cons (oper_at (r := _) rfl) (fun K hK => ?_) AllReadyH.nil
              go_simp
              refine (HM1.out G1 k1 G2 k2 K1 k3 K2 k4 K5 k5 K6 k6 _ GR_W31.out PA_W31.out PB_W31.out).mono ?_
              rintro e W32 ⟨⟨X3, x3, Y3, y3, rfl, r1, r2, r3, r4⟩, hb⟩
              have S_W32 := Lib.hid (S_W31.out.up hb)
              have WD_W32 := Lib.hid (WD_W31.out.trans (hb.mono WD_W31.out.size))
              have GR_W32 := Lib.hid (GR_W31.out.up hb)
              have PA_W32 := Lib.hid (PA_W31.out.up hb)
              have PB_W32 := Lib.hid (PB_W31.out.up hb)
              have BZ_W32 := Lib.hid (BZ_W31.out.up hb)
              clear S_W31 WD_W31 GR_W31 PA_W31 PB_W31 BZ_W31
              have R1_W32 := Lib.hid r1
              have R2_W32 := Lib.hid r2
              have LN_W32 := Lib.hid (And.intro r3 r4)
              clear hb r1 r2
              go_wp2_with fail
              refine hK.out _ _ (HM_wd2.out _ WD_W32.out) (fun _ => ?_)
              clear hK K
              try simp only [Act.put, List.setIfInBounds_toArray, List.set_cons_zero, List.set_cons_succ]
              clear r3 r4
              refine wpAnyH_take (i := 7) (v := ?_) (oper_at (r := _) rfl) (by kernel_rfl) (by kernel_rfl) (by kernel_rfl) (fun _ _ _ h => h) (Or.inl ⟨by rfl, ?_⟩) (by assumption) ?_
              rotate_left
              · intro w hSw; try dsimp only at hSw
                go_simp
                try with_reducible rfl
              try simp only [Act.put, List.setIfInBounds_toArray, List.set_cons_zero, List.set_cons_succ]
              refine wpAnyH_take (i := 8) (v := ?_) (oper_at (r := _) rfl) (by kernel_rfl) (by kernel_rfl) (by kernel_rfl) (fun _ _ _ h => h) (Or.inl ⟨by rfl, ?_⟩) (by assumption) ?_
              rotate_left
              · intro w hSw; try dsimp only at hSw
                go_simp
                try with_reducible rfl
              try simp only [Act.put, List.setIfInBounds_toArray, List.set_cons_zero, List.set_cons_succ]
              refine wpAnyH_take (i := 9) (v := ?_) (oper_at (r := _) rfl) (by kernel_rfl) (by kernel_rfl) (by kernel_rfl) (fun _ _ _ h => h) (Or.inl ⟨by rfl, ?_⟩) (by assumption) ?_
              rotate_left
              · intro w hSw; try dsimp only at hSw
                go_simp
                try with_reducible rfl
              try simp only [Act.put, List.setIfInBounds_toArray, List.set_cons_zero, List.set_cons_succ]
              refine wpAnyH_ready (rs := [11]) (by kernel_rfl) (by simp) ?_
              refine AllReadyH.cons (oper_at (r := _) rfl) (fun K hK => ?_) AllReadyH.nil
              have fr0 := BZ_W32.out.free 0
              have fr1 := BZ_W32.out.free 1
              obtain ⟨e0, e1⟩ := BZ_W32.out.cells
              go_simp
              clear fr0 fr1 e0 e1
              have S_W33 := Lib.hid (S_W32.out.set (g := gx) (by simp; omega) ((.slice X3 RM.ns.length x3)) ((.slice Y3 RM.es.length y3)))
              have WD_W33 := Lib.hid ((WD_W32.out.setCell (p := ⟨gx, 0, none⟩) (by show wd2.heap.size ≤ gx; omega) ((.slice X3 RM.ns.length x3))).setCell (p := ⟨gx, 1, none⟩) (by show wd2.heap.size ≤ gx; omega) ((.slice Y3 RM.es.length y3)))
              have BZ_W33 := Lib.hid (BZ_W32.out.put ((.slice X3 RM.ns.length x3)) ((.slice Y3 RM.es.length y3)))
              have R1_W33 := Lib.hid (ints_set' R1_W32.out BZ_W32.out ((.slice X3 RM.ns.length x3)) ((.slice Y3 RM.es.length y3)))
              have R2_W33 := Lib.hid (ints_set' R2_W32.out BZ_W32.out ((.slice X3 RM.ns.length x3)) ((.slice Y3 RM.es.length y3)))
              have LN_W33 := Lib.hid (LN_W32.out)
              clear S_W32 WD_W32 BZ_W32 R1_W32 R2_W32 LN_W32
              refine hK.out _ _ (HM_wd2.out _ WD_W33.out) (fun _ => ?_)
              clear hK K
              try simp only [Act.put, List.setIfInBounds_toArray, List.set_cons_zero, List.set_cons_succ]
              generalize (W32.setCell ⟨gx, 0, none⟩ ((.slice X3 RM.ns.length x3))).setCell ⟨gx, 1, none⟩ ((.slice Y3 RM.es.length y3)) = W33 at *
              refine wpAnyH_take (i := 12) (v := ?_) (oper_at (r := _) rfl) (by kernel_rfl) (by kernel_rfl) (by kernel_rfl) (fun _ _ _ h => h) (Or.inl ⟨by rfl, ?_⟩) (by assumption) ?_
              rotate_left
              · intro w hSw; try dsimp only at hSw
                go_simp
                try with_reducible rfl
              try simp only [Act.put, List.setIfInBounds_toArray, List.set_cons_zero, List.set_cons_succ]
              refine wpAnyH_done (by kernel_rfl) ?_ _
              refine NoPanic.normal ?_
              go_wp2_with fail
              go_meet
              exact ⟨gx, X3, x3, Y3, y3, rfl, rfl, BZ_W33.out, R1_W33.out, R2_W33.out, LN_W33.out, HVD.out.trans (WD_W33.out.mono HVD.out.size)⟩
          · skip
            obtain ⟨gx, hg⟩ : ∃ g, g = W26.heap.size := ⟨_, rfl⟩
            have lgx : wd2.heap.size ≤ gx := by rw [hg]; exact WD_W26.out.size
            have hx : BX gx (.slice none 0 0) (.slice none 0 0) 27 (W26.alloc (.cells #[.slice none 0 0, .slice none 0 0] 27)) := by rw [hg]; exact heap_alloc_new _ _
            have hb : Below W26.heap.size W26 (W26.alloc (.cells #[.slice none 0 0, .slice none 0 0] 27)) := (Below.refl _ _).alloc (Nat.le_refl _) _
            have S_W34 := Lib.hid (S_W26.out.up hb)
            have WD_W34 := Lib.hid (WD_W26.out.trans (hb.mono WD_W26.out.size))
            have GR_W34 := Lib.hid (GR_W26.out.up hb)
            have PA_W34 := Lib.hid (PA_W26.out.up hb)
            clear S_W26 WD_W26 GR_W26 PA_W26
            have BZ_W34 := Lib.hid hx
            clear hx hb
            go_simp
            refine hK.out _ _ (HM_wd2.out _ WD_W34.out) (fun _ => ?_)
            clear hK K
            try simp only [Act.put, List.setIfInBounds_toArray, List.set_cons_zero, List.set_cons_succ]
            generalize W26.alloc (.cells #[.slice none 0 0, .slice none 0 0] 27) = W34 at *
            try rw [← hg]
            clear hg
            refine wpAnyH_ready (rs := [5]) (by kernel_rfl) (by simp) ?_
            refine AllReadyH.cons (oper_at (r := _) rfl) (fun K hK => ?_) AllReadyH.nil
            go_simp
            refine (HO29.out _ S_W34.out.1).mono ?_
            rintro e W35 ⟨⟨K5, k5, K6, k6, rfl, r1⟩, hb⟩
            have S_W35 := Lib.hid (S_W34.out.up hb)
            have WD_W35 := Lib.hid (WD_W34.out.trans (hb.mono WD_W34.out.size))
            have GR_W35 := Lib.hid (GR_W34.out.up hb)
            have PA_W35 := Lib.hid (PA_W34.out.up hb)
            have BZ_W35 := Lib.hid (BZ_W34.out.up hb)
            clear S_W34 WD_W34 GR_W34 PA_W34 BZ_W34
            have PB_W35 := Lib.hid r1
            clear hb r1
            go_wp2_with fail
            refine hK.out _ _ (HM_wd2.out _ WD_W35.out) (fun _ => ?_)
            clear hK K
            try simp only [Act.put, List.setIfInBounds_toArray, List.set_cons_zero, List.set_cons_succ]
            refine wpAnyH_ready (rs := [6]) (by kernel_rfl) (by simp) ?_
            refine AllReadyH.cons (oper_at (r := _) rfl) (fun K hK => ?_) AllReadyH.nil
            go_simp
            refine (HM1.out G1 k1 G2 k2 K1 k3 K2 k4 K5 k5 K6 k6 _ GR_W35.out PA_W35.out PB_W35.out).mono ?_
            rintro e W36 ⟨⟨X3, x3, Y3, y3, rfl, r1, r2, r3, r4⟩, hb⟩
            have S_W36 := Lib.hid (S_W35.out.up hb)
            have WD_W36 := Lib.hid (WD_W35.out.trans (hb.mono WD_W35.out.size))
            have GR_W36 := Lib.hid (GR_W35.out.up hb)
            have PA_W36 := Lib.hid (PA_W35.out.up hb)
            have BZ_W36 := Lib.hid (BZ_W35.out.up hb)
            have PB_W36 := Lib.hid (PB_W35.out.up hb)
            clear S_W35 WD_W35 GR_W35 PA_W35 BZ_W35 PB_W35
            have R1_W36 := Lib.hid r1
            have R2_W36 := Lib.hid r2
            have LN_W36 := Lib.hid (And.intro r3 r4)
            clear hb r1 r2
            go_wp2_with fail
            refine hK.out _ _ (HM_wd2.out _ WD_W36.out) (fun _ => ?_)
            clear hK K
            try simp only [Act.put, List.setIfInBounds_toArray, List.set_cons_zero, List.set_cons_succ]
            clear r3 r4
            refine wpAnyH_take (i := 7) (v := ?_) (oper_at (r := _) rfl) (by kernel_rfl) (by kernel_rfl) (by kernel_rfl) (fun _ _ _ h => h) (Or.inl ⟨by rfl, ?_⟩) (by assumption) ?_
            rotate_left
            · intro w hSw; try dsimp only at hSw
              go_simp
              try with_reducible rfl
            try simp only [Act.put, List.setIfInBounds_toArray, List.set_cons_zero, List.set_cons_succ]
            refine wpAnyH_take (i := 8) (v := ?_) (oper_at (r := _) rfl) (by kernel_rfl) (by kernel_rfl) (by kernel_rfl) (fun _ _ _ h => h) (Or.inl ⟨by rfl, ?_⟩) (by assumption) ?_
            rotate_left
            · intro w hSw; try dsimp only at hSw
              go_simp
              try with_reducible rfl
            try simp only [Act.put, List.setIfInBounds_toArray, List.set_cons_zero, List.set_cons_succ]
            refine wpAnyH_take (i := 9) (v := ?_) (oper_at (r := _) rfl) (by kernel_rfl) (by kernel_rfl) (by kernel_rfl) (fun _ _ _ h => h) (Or.inl ⟨by rfl, ?_⟩) (by assumption) ?_
            rotate_left
            · intro w hSw; try dsimp only at hSw
              go_simp
              try with_reducible rfl
            try simp only [Act.put, List.setIfInBounds_toArray, List.set_cons_zero, List.set_cons_succ]
            refine wpAnyH_ready (rs := [11]) (by kernel_rfl) (by simp) ?_
            refine AllReadyH.cons (oper_at (r := _) rfl) (fun K hK => ?_) AllReadyH.nil
            have fr0 := BZ_W36.out.free 0
            have fr1 := BZ_W36.out.free 1
            obtain ⟨e0, e1⟩ := BZ_W36.out.cells
            go_simp
            clear fr0 fr1 e0 e1
            have S_W37 := Lib.hid (S_W36.out.set (g := gx) (by simp; omega) ((.slice X3 RM.ns.length x3)) ((.slice Y3 RM.es.length y3)))
            have WD_W37 := Lib.hid ((WD_W36.out.setCell (p := ⟨gx, 0, none⟩) (by show wd2.heap.size ≤ gx; omega) ((.slice X3 RM.ns.length x3))).setCell (p := ⟨gx, 1, none⟩) (by show wd2.heap.size ≤ gx; omega) ((.slice Y3 RM.es.length y3)))
            have BZ_W37 := Lib.hid (BZ_W36.out.put ((.slice X3 RM.ns.length x3)) ((.slice Y3 RM.es.length y3)))
            have R1_W37 := Lib.hid (ints_set' R1_W36.out BZ_W36.out ((.slice X3 RM.ns.length x3)) ((.slice Y3 RM.es.length y3)))
            have R2_W37 := Lib.hid (ints_set' R2_W36.out BZ_W36.out ((.slice X3 RM.ns.length x3)) ((.slice Y3 RM.es.length y3)))
            have LN_W37 := Lib.hid (LN_W36.out)
            clear S_W36 WD_W36 BZ_W36 R1_W36 R2_W36 LN_W36
            refine hK.out _ _ (HM_wd2.out _ WD_W37.out) (fun _ => ?_)
            clear hK K
            try simp only [Act.put, List.setIfInBounds_toArray, List.set_cons_zero, List.set_cons_succ]
            generalize (W36.setCell ⟨gx, 0, none⟩ ((.slice X3 RM.ns.length x3))).setCell ⟨gx, 1, none⟩ ((.slice Y3 RM.es.length y3)) = W37 at *
            refine wpAnyH_take (i := 12) (v := ?_) (oper_at (r := _) rfl) (by kernel_rfl) (by kernel_rfl) (by kernel_rfl) (fun _ _ _ h => h) (Or.inl ⟨by rfl, ?_⟩) (by assumption) ?_
            rotate_left
            · intro w hSw; try dsimp only at hSw
              go_simp
              try with_reducible rfl
            try simp only [Act.put, List.setIfInBounds_toArray, List.set_cons_zero, List.set_cons_succ]
            refine wpAnyH_done (by kernel_rfl) ?_ _
            refine NoPanic.normal ?_
            go_wp2_with fail
            go_meet
            exact ⟨gx, X3, x3, Y3, y3, rfl, rfl, BZ_W37.out, R1_W37.out, R2_W37.out, LN_W37.out, HVD.out.trans (WD_W37.out.mono HVD.out.size)⟩
        · skip
          obtain ⟨gx, hg⟩ : ∃ g, g = W25.heap.size := ⟨_, rfl⟩
          have lgx : wd2.heap.size ≤ gx := by rw [hg]; exact WD_W25.out.size
          have hx : BX gx (.slice none 0 0) (.slice none 0 0) 27 (W25.alloc (.cells #[.slice none 0 0, .slice none 0 0] 27)) := by rw [hg]; exact heap_alloc_new _ _
          have hb : Below W25.heap.size W25 (W25.alloc (.cells #[.slice none 0 0, .slice none 0 0] 27)) := (Below.refl _ _).alloc (Nat.le_refl _) _
          have S_W38 := Lib.hid (S_W25.out.up hb)
          have WD_W38 := Lib.hid (WD_W25.out.trans (hb.mono WD_W25.out.size))
          have GR_W38 := Lib.hid (GR_W25.out.up hb)
          clear S_W25 WD_W25 GR_W25
          have BZ_W38 := Lib.hid hx
          clear hx hb
          go_simp
          refine hK.out _ _ (HM_wd2.out _ WD_W38.out) (fun _ => ?_)
          clear hK K
          try simp only [Act.put, List.setIfInBounds_toArray, List.set_cons_zero, List.set_cons_succ]
          generalize W25.alloc (.cells #[.slice none 0 0, .slice none 0 0] 27) = W38 at *
          try rw [← hg]
          clear hg
          refine wpAnyH_ready (rs := [3]) (by kernel_rfl) (by simp) ?_
          refine AllReadyH.cons (oper_at (r := _) rfl) (fun K hK => ?_) AllReadyH.nil
          go_simp
          refine (HO19.out _ S_W38.out.1).mono ?_
          rintro e W39 ⟨⟨K1, k3, K2, k4, rfl, r1⟩, hb⟩
          have S_W39 := Lib.hid (S_W38.out.up hb)
          have WD_W39 := Lib.hid (WD_W38.out.trans (hb.mono WD_W38.out.size))
          have GR_W39 := Lib.hid (GR_W38.out.up hb)
          have BZ_W39 := Lib.hid (BZ_W38.out.up hb)
          clear S_W38 WD_W38 GR_W38 BZ_W38
          have PA_W39 := Lib.hid r1
          clear hb r1
          go_wp2_with fail
          refine hK.out _ _ (HM_wd2.out _ WD_W39.out) (fun _ => ?_)
          clear hK K
          try simp only [Act.put, List.setIfInBounds_toArray, List.set_cons_zero, List.set_cons_succ]
          refine wpAnyH_ready (rs := [5]) (by kernel_rfl) (by simp) ?_
          refine AllReadyH.cons (oper_at (r := _) rfl) (fun K hK => ?_) AllReadyH.nil
          go_simp
          refine (HO29.out _ S_W39.out.1).mono ?_
          rintro e W40 ⟨⟨K5, k5, K6, k6, rfl, r1⟩, hb⟩
          have S_W40 := Lib.hid (S_W39.out.up hb)
          have WD_W40 := Lib.hid (WD_W39.out.trans (hb.mono WD_W39.out.size))
          have GR_W40 := Lib.hid (GR_W39.out.up hb)
          have BZ_W40 := Lib.hid (BZ_W39.out.up hb)
          have PA_W40 := Lib.hid (PA_W39.out.up hb)
          clear S_W39 WD_W39 GR_W39 BZ_W39 PA_W39
          have PB_W40 := Lib.hid r1
          clear hb r1
          go_wp2_with fail
          refine hK.out _ _ (HM_wd2.out _ WD_W40.out) (fun _ => ?_)
          clear hK K
          try simp only [Act.put, List.setIfInBounds_toArray, List.set_cons_zero, List.set_cons_succ]
          refine wpAnyH_ready (rs := [6]) (by kernel_rfl) (by simp) ?_
          refine AllReadyH.cons (oper_at (r := _) rfl) (fun K hK => ?_) AllReadyH.nil
          go_simp
          refine (HM1.out G1 k1 G2 k2 K1 k3 K2 k4 K5 k5 K6 k6 _ GR_W40.out PA_W40.out PB_W40.out).mono ?_
          rintro e W41 ⟨⟨X3, x3, Y3, y3, rfl, r1, r2, r3, r4⟩, hb⟩
          have S_W41 := Lib.hid (S_W40.out.up hb)
          have WD_W41 := Lib.hid (WD_W40.out.trans (hb.mono WD_W40.out.size))
          have GR_W41 := Lib.hid (GR_W40.out.up hb)
          have BZ_W41 := Lib.hid (BZ_W40.out.up hb)
          have PA_W41 := Lib.hid (PA_W40.out.up hb)
          have PB_W41 := Lib.hid (PB_W40.out.up hb)
          clear S_W40 WD_W40 GR_W40 BZ_W40 PA_W40 PB_W40
          have R1_W41 := Lib.hid r1
          have R2_W41 := Lib.hid r2
          have LN_W41 := Lib.hid (And.intro r3 r4)
          clear hb r1 r2
          go_wp2_with fail
          refine hK.out _ _ (HM_wd2.out _ WD_W41.out) (fun _ => ?_)
          clear hK K
          try simp only [Act.put, List.setIfInBounds_toArray, List.set_cons_zero, List.set_cons_succ]
          clear r3 r4
          refine wpAnyH_take (i := 7) (v := ?_) (oper_at (r := _) rfl) (by kernel_rfl) (by kernel_rfl) (by kernel_rfl) (fun _ _ _ h => h) (Or.inl ⟨by rfl, ?_⟩) (by assumption) ?_
          rotate_left
          · intro w hSw; try dsimp only at hSw
            go_simp
            try with_reducible rfl
          try simp only [Act.put, List.setIfInBounds_toArray, List.set_cons_zero, List.set_cons_succ]
          refine wpAnyH_take (i := 8) (v := ?_) (oper_at (r := _) rfl) (by kernel_rfl) (by kernel_rfl) (by kernel_rfl) (fun _ _ _ h => h) (Or.inl ⟨by rfl, ?_⟩) (by assumption) ?_
          rotate_left
          · intro w hSw; try dsimp only at hSw
            go_simp
            try with_reducible rfl
          try simp only [Act.put, List.setIfInBounds_toArray, List.set_cons_zero, List.set_cons_succ]
          refine wpAnyH_take (i := 9) (v := ?_) (oper_at (r := _) rfl) (by kernel_rfl) (by kernel_rfl) (by kernel_rfl) (fun _ _ _ h => h) (Or.inl ⟨by rfl, ?_⟩) (by assumption) ?_
          rotate_left
          · intro w hSw; try dsimp only at hSw
            go_simp
            try with_reducible rfl
          try simp only [Act.put, List.setIfInBounds_toArray, List.set_cons_zero, List.set_cons_succ]
          refine wpAnyH_ready (rs := [11]) (by kernel_rfl) (by simp) ?_
          refine AllReadyH.cons (oper_at (r := _) rfl) (fun K hK => ?_) AllReadyH.nil
          have fr0 := BZ_W41.out.free 0
          have fr1 := BZ_W41.out.free 1
          obtain ⟨e0, e1⟩ := BZ_W41.out.cells
          go_simp
          clear fr0 fr1 e0 e1
          have S_W42 := Lib.hid (S_W41.out.set (g := gx) (by simp; omega) ((.slice X3 RM.ns.length x3)) ((.slice Y3 RM.es.length y3)))
          have WD_W42 := Lib.hid ((WD_W41.out.setCell (p := ⟨gx, 0, none⟩) (by show wd2.heap.size ≤ gx; omega) ((.slice X3 RM.ns.length x3))).setCell (p := ⟨gx, 1, none⟩) (by show wd2.heap.size ≤ gx; omega) ((.slice Y3 RM.es.length y3)))
          have BZ_W42 := Lib.hid (BZ_W41.out.put ((.slice X3 RM.ns.length x3)) ((.slice Y3 RM.es.length y3)))
          have R1_W42 := Lib.hid (ints_set' R1_W41.out BZ_W41.out ((.slice X3 RM.ns.length x3)) ((.slice Y3 RM.es.length y3)))
          have R2_W42 := Lib.hid (ints_set' R2_W41.out BZ_W41.out ((.slice X3 RM.ns.length x3)) ((.slice Y3 RM.es.length y3)))
          have LN_W42 := Lib.hid (LN_W41.out)
          clear S_W41 WD_W41 BZ_W41 R1_W41 R2_W41 LN_W41
          refine hK.out _ _ (HM_wd2.out _ WD_W42.out) (fun _ => ?_)
          clear hK K
          try simp only [Act.put, List.setIfInBounds_toArray, List.set_cons_zero, List.set_cons_succ]
          generalize (W41.setCell ⟨gx, 0, none⟩ ((.slice X3 RM.ns.length x3))).setCell ⟨gx, 1, none⟩ ((.slice Y3 RM.es.length y3)) = W42 at *
          refine wpAnyH_take (i := 12) (v := ?_) (oper_at (r := _) rfl) (by kernel_rfl) (by kernel_rfl) (by kernel_rfl) (fun _ _ _ h => h) (Or.inl ⟨by rfl, ?_⟩) (by assumption) ?_
          rotate_left
          · intro w hSw; try dsimp only at hSw
            go_simp
            try with_reducible rfl
          try simp only [Act.put, List.setIfInBounds_toArray, List.set_cons_zero, List.set_cons_succ]
          refine wpAnyH_done (by kernel_rfl) ?_ _
          refine NoPanic.normal ?_
          go_wp2_with fail
          go_meet
          exact ⟨gx, X3, x3, Y3, y3, rfl, rfl, BZ_W42.out, R1_W42.out, R2_W42.out, LN_W42.out, HVD.out.trans (WD_W42.out.mono HVD.out.size)⟩
      · skip
        obtain ⟨gx, hg⟩ : ∃ g, g = wd2.heap.size := ⟨_, rfl⟩
        have lgx : wd2.heap.size ≤ gx := by rw [hg]; exact WD_wd2.out.size
        have hx : BX gx (.slice none 0 0) (.slice none 0 0) 27 (wd2.alloc (.cells #[.slice none 0 0, .slice none 0 0] 27)) := by rw [hg]; exact heap_alloc_new _ _
        have hb : Below wd2.heap.size wd2 (wd2.alloc (.cells #[.slice none 0 0, .slice none 0 0] 27)) := (Below.refl _ _).alloc (Nat.le_refl _) _
        have S_W43 := Lib.hid (S_wd2.out.up hb)
        have WD_W43 := Lib.hid (WD_wd2.out.trans (hb.mono WD_wd2.out.size))
        clear S_wd2 WD_wd2
        have BZ_W43 := Lib.hid hx
        clear hx hb
        go_simp
        refine hK.out _ _ (HM_wd2.out _ WD_W43.out) (fun _ => ?_)
        clear hK K
        try simp only [Act.put, List.setIfInBounds_toArray, List.set_cons_zero, List.set_cons_succ]
        generalize wd2.alloc (.cells #[.slice none 0 0, .slice none 0 0] 27) = W43 at *
        try rw [← hg]
        clear hg
        refine wpAnyH_ready (rs := [1]) (by kernel_rfl) (by simp) ?_
        refine AllReadyH.cons (oper_at (r := _) rfl) (fun K hK => ?_) AllReadyH.nil
        go_simp
        refine (HCP9.out _ S_W43.out.1).mono ?_
        rintro e W44 ⟨⟨G1, k1, G2, k2, rfl, r1⟩, hb⟩
        have S_W44 := Lib.hid (S_W43.out.up hb)
        have WD_W44 := Lib.hid (WD_W43.out.trans (hb.mono WD_W43.out.size))
        have BZ_W44 := Lib.hid (BZ_W43.out.up hb)
        clear S_W43 WD_W43 BZ_W43
        have GR_W44 := Lib.hid r1
        clear hb r1
        go_wp2_with fail
        refine hK.out _ _ (HM_wd2.out _ WD_W44.out) (fun _ => ?_)
        clear hK K
        try simp only [Act.put, List.setIfInBounds_toArray, List.set_cons_zero, List.set_cons_succ]
        refine wpAnyH_ready (rs := [3]) (by kernel_rfl) (by simp) ?_
        refine AllReadyH.cons (oper_at (r := _) rfl) (fun K hK => ?_) AllReadyH.nil
        go_simp
        refine (HO19.out _ S_W44.out.1).mono ?_
        rintro e W45 ⟨⟨K1, k3, K2, k4, rfl, r1⟩, hb⟩
        have S_W45 := Lib.hid (S_W44.out.up hb)
        have WD_W45 := Lib.hid (WD_W44.out.trans (hb.mono WD_W44.out.size))
        have BZ_W45 := Lib.hid (BZ_W44.out.up hb)
        have GR_W45 := Lib.hid (GR_W44.out.up hb)
        clear S_W44 WD_W44 BZ_W44 GR_W44
        have PA_W45 := Lib.hid r1
        clear hb r1
        go_wp2_with fail
        refine hK.out _ _ (HM_wd2.out _ WD_W45.out) (fun _ => ?_)
        clear hK K
        try simp only [Act.put, List.setIfInBounds_toArray, List.set_cons_zero, List.set_cons_succ]
        refine wpAnyH_ready (rs := [5]) (by kernel_rfl) (by simp) ?_
        refine AllReadyH.cons (oper_at (r := _) rfl) (fun K hK => ?_) AllReadyH.nil
        go_simp
        refine (HO29.out _ S_W45.out.1).mono ?_
        rintro e W46 ⟨⟨K5, k5, K6, k6, rfl, r1⟩, hb⟩
        have S_W46 := Lib.hid (S_W45.out.up hb)
        have WD_W46 := Lib.hid (WD_W45.out.trans (hb.mono WD_W45.out.size))
        have BZ_W46 := Lib.hid (BZ_W45.out.up hb)
        have GR_W46 := Lib.hid (GR_W45.out.up hb)
        have PA_W46 := Lib.hid (PA_W45.out.up hb)
        clear S_W45 WD_W45 BZ_W45 GR_W45 PA_W45
        have PB_W46 := Lib.hid r1
        clear hb r1
        go_wp2_with fail
        refine hK.out _ _ (HM_wd2.out _ WD_W46.out) (fun _ => ?_)
        clear hK K
        try simp only [Act.put, List.setIfInBounds_toArray, List.set_cons_zero, List.set_cons_succ]
        refine wpAnyH_ready (rs := [6]) (by kernel_rfl) (by simp) ?_
        refine AllReadyH.cons (oper_at (r := _) rfl) (fun K hK => ?_) AllReadyH.nil
        go_simp
        refine (HM1.out G1 k1 G2 k2 K1 k3 K2 k4 K5 k5 K6 k6 _ GR_W46.out PA_W46.out PB_W46.out).mono ?_
        rintro e W47 ⟨⟨X3, x3, Y3, y3, rfl, r1, r2, r3, r4⟩, hb⟩
        have S_W47 := Lib.hid (S_W46.out.up hb)
        have WD_W47 := Lib.hid (WD_W46.out.trans (hb.mono WD_W46.out.size))
        have BZ_W47 := Lib.hid (BZ_W46.out.up hb)
        have GR_W47 := Lib.hid (GR_W46.out.up hb)
        have PA_W47 := Lib.hid (PA_W46.out.up hb)
        have PB_W47 := Lib.hid (PB_W46.out.up hb)
        clear S_W46 WD_W46 BZ_W46 GR_W46 PA_W46 PB_W46
        have R1_W47 := Lib.hid r1
        have R2_W47 := Lib.hid r2
        have LN_W47 := Lib.hid (And.intro r3 r4)
        clear hb r1 r2
        go_wp2_with fail
        refine hK.out _ _ (HM_wd2.out _ WD_W47.out) (fun _ => ?_)
        clear hK K
        try simp only [Act.put, List.setIfInBounds_toArray, List.set_cons_zero, List.set_cons_succ]
        clear r3 r4
        refine wpAnyH_take (i := 7) (v := ?_) (oper_at (r := _) rfl) (by kernel_rfl) (by kernel_rfl) (by kernel_rfl) (fun _ _ _ h => h) (Or.inl ⟨by rfl, ?_⟩) (by assumption) ?_
        rotate_left
        · intro w hSw; try dsimp only at hSw
          go_simp
          try with_reducible rfl
        try simp only [Act.put, List.setIfInBounds_toArray, List.set_cons_zero, List.set_cons_succ]
        refine wpAnyH_take (i := 8) (v := ?_) (oper_at (r := _) rfl) (by kernel_rfl) (by kernel_rfl) (by kernel_rfl) (fun _ _ _ h => h) (Or.inl ⟨by rfl, ?_⟩) (by assumption) ?_
        rotate_left
        · intro w hSw; try dsimp only at hSw
          go_simp
          try with_reducible rfl
        try simp only [Act.put, List.setIfInBounds_toArray, List.set_cons_zero, List.set_cons_succ]
        refine wpAnyH_take (i := 9) (v := ?_) (oper_at (r := _) rfl) (by kernel_rfl) (by kernel_rfl) (by kernel_rfl) (fun _ _ _ h => h) (Or.inl ⟨by rfl, ?_⟩) (by assumption) ?_
        rotate_left
        · intro w hSw; try dsimp only at hSw
          go_simp
          try with_reducible rfl
        try simp only [Act.put, List.setIfInBounds_toArray, List.set_cons_zero, List.set_cons_succ]
        refine wpAnyH_ready (rs := [11]) (by kernel_rfl) (by simp) ?_
        refine AllReadyH.cons (oper_at (r := _) rfl) (fun K hK => ?_) AllReadyH.nil
        have fr0 := BZ_W47.out.free 0
        have fr1 := BZ_W47.out.free 1
        obtain ⟨e0, e1⟩ := BZ_W47.out.cells
        go_simp
        clear fr0 fr1 e0 e1
        have S_W48 := Lib.hid (S_W47.out.set (g := gx) (by simp; omega) ((.slice X3 RM.ns.length x3)) ((.slice Y3 RM.es.length y3)))
        have WD_W48 := Lib.hid ((WD_W47.out.setCell (p := ⟨gx, 0, none⟩) (by show wd2.heap.size ≤ gx; omega) ((.slice X3 RM.ns.length x3))).setCell (p := ⟨gx, 1, none⟩) (by show wd2.heap.size ≤ gx; omega) ((.slice Y3 RM.es.length y3)))
        have BZ_W48 := Lib.hid (BZ_W47.out.put ((.slice X3 RM.ns.length x3)) ((.slice Y3 RM.es.length y3)))
        have R1_W48 := Lib.hid (ints_set' R1_W47.out BZ_W47.out ((.slice X3 RM.ns.length x3)) ((.slice Y3 RM.es.length y3)))
        have R2_W48 := Lib.hid (ints_set' R2_W47.out BZ_W47.out ((.slice X3 RM.ns.length x3)) ((.slice Y3 RM.es.length y3)))
        have LN_W48 := Lib.hid (LN_W47.out)
        clear S_W47 WD_W47 BZ_W47 R1_W47 R2_W47 LN_W47
        refine hK.out _ _ (HM_wd2.out _ WD_W48.out) (fun _ => ?_)
        clear hK K
        try simp only [Act.put, List.setIfInBounds_toArray, List.set_cons_zero, List.set_cons_succ]
        generalize (W47.setCell ⟨gx, 0, none⟩ ((.slice X3 RM.ns.length x3))).setCell ⟨gx, 1, none⟩ ((.slice Y3 RM.es.length y3)) = W48 at *
        refine wpAnyH_take (i := 12) (v := ?_) (oper_at (r := _) rfl) (by kernel_rfl) (by kernel_rfl) (by kernel_rfl) (fun _ _ _ h => h) (Or.inl ⟨by rfl, ?_⟩) (by assumption) ?_
        rotate_left
        · intro w hSw; try dsimp only at hSw
          go_simp
          try with_reducible rfl
        try simp only [Act.put, List.setIfInBounds_toArray, List.set_cons_zero, List.set_cons_succ]
        refine wpAnyH_done (by kernel_rfl) ?_ _
        refine NoPanic.normal ?_
        go_wp2_with fail
        go_meet
        exact ⟨gx, X3, x3, Y3, y3, rfl, rfl, BZ_W48.out, R1_W48.out, R2_W48.out, LN_W48.out, HVD.out.trans (WD_W48.out.mono HVD.out.size)⟩
    case rest =>
      obtain ⟨g3, X3, x3, Y3, y3, rfl, rfl, hbx, r1, r2, hl, hb⟩ := hcut
      have S_wc := Lib.hid (S_V2.out.up hb)
      have B1_wc := Lib.hid (B1_V2.out.up hb)
      have R11_wc := Lib.hid (Reads.up R11_V2.out hb)
      have R21_wc := Lib.hid (Reads.up R21_V2.out hb)
      have R12_wc := Lib.hid (Reads.up R12_V2.out hb)
      have R22_wc := Lib.hid (Reads.up R22_V2.out hb)
      have B2_wc := Lib.hid (B2_V2.out.up hb)
      clear S_V2 B1_V2 R11_V2 R21_V2 R12_V2 R22_V2 B2_V2
      have B3_wc := Lib.hid hbx
      have R13_wc := Lib.hid r1
      have R23_wc := Lib.hid r2
      have HL3 := Lib.hid hl
      clear hbx r1 r2 hl hb
      have c0 := S_wc.out.cell (i := 0) (j := 0) rfl rfl
      have c1 := S_wc.out.cell (i := 0) (j := 1) rfl rfl
      have d0 := S_wc.out.cell (i := 1) (j := 0) rfl rfl
      have d1 := S_wc.out.cell (i := 1) (j := 1) rfl rfl
      have f0 := S_wc.out.cell (i := 2) (j := 0) rfl rfl
      have f1 := S_wc.out.cell (i := 2) (j := 1) rfl rfl
      simp only [Nat.add_zero] at c0 c1
      go_wp2_with fail
      refine (HM2.out _ S_wc.out.1 (HPP9.out _ S_wc.out.1) (HQP9.out _ S_wc.out.1)).mono ?_
      rintro e v4 ⟨⟨X4, x4, Y4, y4, rfl, r1, r2, r3, r4⟩, hb⟩
      have S_v4 := Lib.hid (S_wc.out.up hb)
      have B1_v4 := Lib.hid (B1_wc.out.up hb)
      have R11_v4 := Lib.hid (Reads.up R11_wc.out hb)
      have R21_v4 := Lib.hid (Reads.up R21_wc.out hb)
      have R12_v4 := Lib.hid (Reads.up R12_wc.out hb)
      have R22_v4 := Lib.hid (Reads.up R22_wc.out hb)
      have B2_v4 := Lib.hid (B2_wc.out.up hb)
      have B3_v4 := Lib.hid (B3_wc.out.up hb)
      have R13_v4 := Lib.hid (Reads.up R13_wc.out hb)
      have R23_v4 := Lib.hid (Reads.up R23_wc.out hb)
      clear S_wc B1_wc R11_wc R21_wc R12_wc R22_wc B2_wc B3_wc R13_wc R23_wc
      have R1_v4 := Lib.hid r1
      have R2_v4 := Lib.hid r2
      have HL := Lib.hid (And.intro r3 r4)
      clear r1 r2 r3 r4 hb c0 c1 d0 d1 f0 f1
      go_upto_region 7 with fail
      have hb : Below v4.heap.size v4 (v4.alloc (.cells #[.slice X4 RM.ns.length x4, .slice Y4 RM.es.length y4] 27)) := (Below.refl _ _).alloc (Nat.le_refl _) _
      have hx : BX v4.heap.size (.slice X4 RM.ns.length x4) (.slice Y4 RM.es.length y4) 27 (v4.alloc (.cells #[.slice X4 RM.ns.length x4, .slice Y4 RM.es.length y4] 27)) := heap_alloc_new _ _
      have S_V4 := Lib.hid (S_v4.out.up hb)
      have B1_V4 := Lib.hid (B1_v4.out.up hb)
      have R11_V4 := Lib.hid (Reads.up R11_v4.out hb)
      have R21_V4 := Lib.hid (Reads.up R21_v4.out hb)
      have R12_V4 := Lib.hid (Reads.up R12_v4.out hb)
      have R22_V4 := Lib.hid (Reads.up R22_v4.out hb)
      have B2_V4 := Lib.hid (B2_v4.out.up hb)
      have B3_V4 := Lib.hid (B3_v4.out.up hb)
      have R13_V4 := Lib.hid (Reads.up R13_v4.out hb)
      have R23_V4 := Lib.hid (Reads.up R23_v4.out hb)
      have R14_V4 := Lib.hid (Reads.up R1_v4.out hb)
      have R24_V4 := Lib.hid (Reads.up R2_v4.out hb)
      clear S_v4 B1_v4 R11_v4 R21_v4 R12_v4 R22_v4 B2_v4 B3_v4 R13_v4 R23_v4 R1_v4 R2_v4
      have B4_V4 := Lib.hid hx
      clear hb hx
      generalize v4.alloc (.cells #[.slice X4 RM.ns.length x4, .slice Y4 RM.es.length y4] 27) = V4 at *
      generalize v4.heap.size = g4 at *
      clear HL
      have t0 : ((E : Int) != (E : Int)) = false := by simp
      have t9 : ((E : Int) == (E : Int)) = true := by simp
      obtain ⟨m10, m11⟩ := B1_V4.out.cells
      obtain ⟨m20, m21⟩ := B2_V4.out.cells
      go_wp2_with fail
      refine (same7_refl RJ X1 x1 Y1 y1 X2 x2 Y2 y2 _ HL1.out R11_V4.out R21_V4.out R12_V4.out R22_V4.out).mono ?_
      rintro e u1 ⟨rfl, hb⟩
      have S_u1 := Lib.hid (S_V4.out.up hb)
      have B1_u1 := Lib.hid (B1_V4.out.up hb)
      have R11_u1 := Lib.hid (Reads.up R11_V4.out hb)
      have R21_u1 := Lib.hid (Reads.up R21_V4.out hb)
      have R12_u1 := Lib.hid (Reads.up R12_V4.out hb)
      have R22_u1 := Lib.hid (Reads.up R22_V4.out hb)
      have B2_u1 := Lib.hid (B2_V4.out.up hb)
      have B3_u1 := Lib.hid (B3_V4.out.up hb)
      have R13_u1 := Lib.hid (Reads.up R13_V4.out hb)
      have R23_u1 := Lib.hid (Reads.up R23_V4.out hb)
      have R14_u1 := Lib.hid (Reads.up R14_V4.out hb)
      have R24_u1 := Lib.hid (Reads.up R24_V4.out hb)
      have B4_u1 := Lib.hid (B4_V4.out.up hb)
      clear S_V4 B1_V4 R11_V4 R21_V4 R12_V4 R22_V4 B2_V4 B3_V4 R13_V4 R23_V4 R14_V4 R24_V4 B4_V4
      clear hb m10 m11 m20 m21
      obtain ⟨m30, m31⟩ := B3_u1.out.cells
      obtain ⟨m40, m41⟩ := B4_u1.out.cells
      go_wp2_with fail
      refine (same7_refl RM X3 x3 Y3 y3 X4 x4 Y4 y4 _ HL3.out R13_u1.out R23_u1.out R14_u1.out R24_u1.out).mono ?_
      rintro e u2 ⟨rfl, hb⟩
      have S_u2 := Lib.hid (S_u1.out.up hb)
      have B1_u2 := Lib.hid (B1_u1.out.up hb)
      have R11_u2 := Lib.hid (Reads.up R11_u1.out hb)
      have R21_u2 := Lib.hid (Reads.up R21_u1.out hb)
      have R12_u2 := Lib.hid (Reads.up R12_u1.out hb)
      have R22_u2 := Lib.hid (Reads.up R22_u1.out hb)
      have B2_u2 := Lib.hid (B2_u1.out.up hb)
      have B3_u2 := Lib.hid (B3_u1.out.up hb)
      have R13_u2 := Lib.hid (Reads.up R13_u1.out hb)
      have R23_u2 := Lib.hid (Reads.up R23_u1.out hb)
      have R14_u2 := Lib.hid (Reads.up R14_u1.out hb)
      have R24_u2 := Lib.hid (Reads.up R24_u1.out hb)
      have B4_u2 := Lib.hid (B4_u1.out.up hb)
      clear S_u1 B1_u1 R11_u1 R21_u1 R12_u1 R22_u1 B2_u1 B3_u1 R13_u1 R23_u1 R14_u1 R24_u1 B4_u1
      clear hb m30 m31 m40 m41
      by_cases hE : E = 0
      case neg =>
        have t1 : ((E : Int) != 0) = true := by simp; omega
        clear hE
        obtain ⟨m10, m11⟩ := B1_u2.out.cells
        obtain ⟨m20, m21⟩ := B2_u2.out.cells
        go_wp2_with fail
        refine (same7_refl RJ X1 x1 Y1 y1 X2 x2 Y2 y2 _ HL1.out R11_u2.out R21_u2.out R12_u2.out R22_u2.out).mono ?_
        rintro e u3 ⟨rfl, hb⟩
        have S_u3 := Lib.hid (S_u2.out.up hb)
        have B1_u3 := Lib.hid (B1_u2.out.up hb)
        have R11_u3 := Lib.hid (Reads.up R11_u2.out hb)
        have R21_u3 := Lib.hid (Reads.up R21_u2.out hb)
        have R12_u3 := Lib.hid (Reads.up R12_u2.out hb)
        have R22_u3 := Lib.hid (Reads.up R22_u2.out hb)
        have B2_u3 := Lib.hid (B2_u2.out.up hb)
        have B3_u3 := Lib.hid (B3_u2.out.up hb)
        have R13_u3 := Lib.hid (Reads.up R13_u2.out hb)
        have R23_u3 := Lib.hid (Reads.up R23_u2.out hb)
        have R14_u3 := Lib.hid (Reads.up R14_u2.out hb)
        have R24_u3 := Lib.hid (Reads.up R24_u2.out hb)
        have B4_u3 := Lib.hid (B4_u2.out.up hb)
        clear S_u2 B1_u2 R11_u2 R21_u2 R12_u2 R22_u2 B2_u2 B3_u2 R13_u2 R23_u2 R14_u2 R24_u2 B4_u2
        clear hb m10 m11 m20 m21
        obtain ⟨m30, m31⟩ := B3_u3.out.cells
        obtain ⟨m40, m41⟩ := B4_u3.out.cells
        go_wp2_with fail
        refine (same7_refl RM X3 x3 Y3 y3 X4 x4 Y4 y4 _ HL3.out R13_u3.out R23_u3.out R14_u3.out R24_u3.out).mono ?_
        rintro e u4 ⟨rfl, hb⟩
        have S_u4 := Lib.hid (S_u3.out.up hb)
        have B1_u4 := Lib.hid (B1_u3.out.up hb)
        have R11_u4 := Lib.hid (Reads.up R11_u3.out hb)
        have R21_u4 := Lib.hid (Reads.up R21_u3.out hb)
        have R12_u4 := Lib.hid (Reads.up R12_u3.out hb)
        have R22_u4 := Lib.hid (Reads.up R22_u3.out hb)
        have B2_u4 := Lib.hid (B2_u3.out.up hb)
        have B3_u4 := Lib.hid (B3_u3.out.up hb)
        have R13_u4 := Lib.hid (Reads.up R13_u3.out hb)
        have R23_u4 := Lib.hid (Reads.up R23_u3.out hb)
        have R14_u4 := Lib.hid (Reads.up R14_u3.out hb)
        have R24_u4 := Lib.hid (Reads.up R24_u3.out hb)
        have B4_u4 := Lib.hid (B4_u3.out.up hb)
        clear S_u3 B1_u3 R11_u3 R21_u3 R12_u3 R22_u3 B2_u3 B3_u3 R13_u3 R23_u3 R14_u3 R24_u3 B4_u3
        clear hb m30 m31 m40 m41
        go_wp2_with fail
        go_ret
        exact ⟨rfl, S_u4.out.1⟩
      have HX19 := Lib.hid (HX1.out hE)
      have HX29 := Lib.hid (HX2.out hE)
      obtain ⟨z1, z2⟩ := HRL.out hE
      have HZ1 := Lib.hid z1
      have HZ2 := Lib.hid z2
      have t1 : ((E : Int) != 0) = false := by simp; omega
      clear hE HX1 HX2 HRL z1 z2
      obtain ⟨m10, m11⟩ := B1_u2.out.cells
      have c0 := S_u2.out.cell (i := 0) (j := 0) rfl rfl
      have c1 := S_u2.out.cell (i := 0) (j := 1) rfl rfl
      have d0 := S_u2.out.cell (i := 1) (j := 0) rfl rfl
      have d1 := S_u2.out.cell (i := 1) (j := 1) rfl rfl
      have f0 := S_u2.out.cell (i := 2) (j := 0) rfl rfl
      have f1 := S_u2.out.cell (i := 2) (j := 1) rfl rfl
      simp only [Nat.add_zero] at c0 c1
      go_wp2_with fail
      refine (HX19.out X1 x1 Y1 y1 _ S_u2.out.1 (HPP9.out _ S_u2.out.1) ⟨R11_u2.out, R21_u2.out, HZ1.out.1, HZ1.out.2⟩).mono ?_
      rintro e v5 ⟨⟨X5, x5, Y5, y5, rfl, r1, r2, r3, r4⟩, hb⟩
      have S_v5 := Lib.hid (S_u2.out.up hb)
      have B1_v5 := Lib.hid (B1_u2.out.up hb)
      have R11_v5 := Lib.hid (Reads.up R11_u2.out hb)
      have R21_v5 := Lib.hid (Reads.up R21_u2.out hb)
      have R12_v5 := Lib.hid (Reads.up R12_u2.out hb)
      have R22_v5 := Lib.hid (Reads.up R22_u2.out hb)
      have B2_v5 := Lib.hid (B2_u2.out.up hb)
      have B3_v5 := Lib.hid (B3_u2.out.up hb)
      have R13_v5 := Lib.hid (Reads.up R13_u2.out hb)
      have R23_v5 := Lib.hid (Reads.up R23_u2.out hb)
      have R14_v5 := Lib.hid (Reads.up R14_u2.out hb)
      have R24_v5 := Lib.hid (Reads.up R24_u2.out hb)
      have B4_v5 := Lib.hid (B4_u2.out.up hb)
      clear S_u2 B1_u2 R11_u2 R21_u2 R12_u2 R22_u2 B2_u2 B3_u2 R13_u2 R23_u2 R14_u2 R24_u2 B4_u2
      have R1_v5 := Lib.hid r1
      have R2_v5 := Lib.hid r2
      have HL := Lib.hid (And.intro r3 r4)
      clear r1 r2 r3 r4 hb c0 c1 d0 d1 f0 f1
      go_upto_region 10 with fail
      have hb : Below v5.heap.size v5 (v5.alloc (.cells #[.slice X5 p.ns.length x5, .slice Y5 p.es.length y5] 27)) := (Below.refl _ _).alloc (Nat.le_refl _) _
      have hx : BX v5.heap.size (.slice X5 p.ns.length x5) (.slice Y5 p.es.length y5) 27 (v5.alloc (.cells #[.slice X5 p.ns.length x5, .slice Y5 p.es.length y5] 27)) := heap_alloc_new _ _
      have S_V5 := Lib.hid (S_v5.out.up hb)
      have B1_V5 := Lib.hid (B1_v5.out.up hb)
      have R11_V5 := Lib.hid (Reads.up R11_v5.out hb)
      have R21_V5 := Lib.hid (Reads.up R21_v5.out hb)
      have R12_V5 := Lib.hid (Reads.up R12_v5.out hb)
      have R22_V5 := Lib.hid (Reads.up R22_v5.out hb)
      have B2_V5 := Lib.hid (B2_v5.out.up hb)
      have B3_V5 := Lib.hid (B3_v5.out.up hb)
      have R13_V5 := Lib.hid (Reads.up R13_v5.out hb)
      have R23_V5 := Lib.hid (Reads.up R23_v5.out hb)
      have R14_V5 := Lib.hid (Reads.up R14_v5.out hb)
      have R24_V5 := Lib.hid (Reads.up R24_v5.out hb)
      have B4_V5 := Lib.hid (B4_v5.out.up hb)
      have R15_V5 := Lib.hid (Reads.up R1_v5.out hb)
      have R25_V5 := Lib.hid (Reads.up R2_v5.out hb)
      clear S_v5 B1_v5 R11_v5 R21_v5 R12_v5 R22_v5 B2_v5 B3_v5 R13_v5 R23_v5 R14_v5 R24_v5 B4_v5 R1_v5 R2_v5
      have B5_V5 := Lib.hid hx
      clear hb hx
      generalize v5.alloc (.cells #[.slice X5 p.ns.length x5, .slice Y5 p.es.length y5] 27) = V5 at *
      generalize v5.heap.size = g5 at *
      clear HL m10 m11 t1
      obtain ⟨m30, m31⟩ := B3_V5.out.cells
      have c0 := S_V5.out.cell (i := 0) (j := 0) rfl rfl
      have c1 := S_V5.out.cell (i := 0) (j := 1) rfl rfl
      have d0 := S_V5.out.cell (i := 1) (j := 0) rfl rfl
      have d1 := S_V5.out.cell (i := 1) (j := 1) rfl rfl
      have f0 := S_V5.out.cell (i := 2) (j := 0) rfl rfl
      have f1 := S_V5.out.cell (i := 2) (j := 1) rfl rfl
      simp only [Nat.add_zero] at c0 c1
      go_wp2_with fail
      refine (HX29.out X3 x3 Y3 y3 _ S_V5.out.1 (HPP9.out _ S_V5.out.1) ⟨R13_V5.out, R23_V5.out, HZ2.out.1, HZ2.out.2⟩).mono ?_
      rintro e v6 ⟨⟨X6, x6, Y6, y6, rfl, r1, r2, r3, r4⟩, hb⟩
      have S_v6 := Lib.hid (S_V5.out.up hb)
      have B1_v6 := Lib.hid (B1_V5.out.up hb)
      have R11_v6 := Lib.hid (Reads.up R11_V5.out hb)
      have R21_v6 := Lib.hid (Reads.up R21_V5.out hb)
      have R12_v6 := Lib.hid (Reads.up R12_V5.out hb)
      have R22_v6 := Lib.hid (Reads.up R22_V5.out hb)
      have B2_v6 := Lib.hid (B2_V5.out.up hb)
      have B3_v6 := Lib.hid (B3_V5.out.up hb)
      have R13_v6 := Lib.hid (Reads.up R13_V5.out hb)
      have R23_v6 := Lib.hid (Reads.up R23_V5.out hb)
      have R14_v6 := Lib.hid (Reads.up R14_V5.out hb)
      have R24_v6 := Lib.hid (Reads.up R24_V5.out hb)
      have B4_v6 := Lib.hid (B4_V5.out.up hb)
      have R15_v6 := Lib.hid (Reads.up R15_V5.out hb)
      have R25_v6 := Lib.hid (Reads.up R25_V5.out hb)
      have B5_v6 := Lib.hid (B5_V5.out.up hb)
      clear S_V5 B1_V5 R11_V5 R21_V5 R12_V5 R22_V5 B2_V5 B3_V5 R13_V5 R23_V5 R14_V5 R24_V5 B4_V5 R15_V5 R25_V5 B5_V5
      have R1_v6 := Lib.hid r1
      have R2_v6 := Lib.hid r2
      have HL := Lib.hid (And.intro r3 r4)
      clear r1 r2 r3 r4 hb c0 c1 d0 d1 f0 f1
      go_upto_region 11 with fail
      have hb : Below v6.heap.size v6 (v6.alloc (.cells #[.slice X6 p.ns.length x6, .slice Y6 p.es.length y6] 27)) := (Below.refl _ _).alloc (Nat.le_refl _) _
      have hx : BX v6.heap.size (.slice X6 p.ns.length x6) (.slice Y6 p.es.length y6) 27 (v6.alloc (.cells #[.slice X6 p.ns.length x6, .slice Y6 p.es.length y6] 27)) := heap_alloc_new _ _
      have S_V6 := Lib.hid (S_v6.out.up hb)
      have B1_V6 := Lib.hid (B1_v6.out.up hb)
      have R11_V6 := Lib.hid (Reads.up R11_v6.out hb)
      have R21_V6 := Lib.hid (Reads.up R21_v6.out hb)
      have R12_V6 := Lib.hid (Reads.up R12_v6.out hb)
      have R22_V6 := Lib.hid (Reads.up R22_v6.out hb)
      have B2_V6 := Lib.hid (B2_v6.out.up hb)
      have B3_V6 := Lib.hid (B3_v6.out.up hb)
      have R13_V6 := Lib.hid (Reads.up R13_v6.out hb)
      have R23_V6 := Lib.hid (Reads.up R23_v6.out hb)
      have R14_V6 := Lib.hid (Reads.up R14_v6.out hb)
      have R24_V6 := Lib.hid (Reads.up R24_v6.out hb)
      have B4_V6 := Lib.hid (B4_v6.out.up hb)
      have R15_V6 := Lib.hid (Reads.up R15_v6.out hb)
      have R25_V6 := Lib.hid (Reads.up R25_v6.out hb)
      have B5_V6 := Lib.hid (B5_v6.out.up hb)
      have R16_V6 := Lib.hid (Reads.up R1_v6.out hb)
      have R26_V6 := Lib.hid (Reads.up R2_v6.out hb)
      clear S_v6 B1_v6 R11_v6 R21_v6 R12_v6 R22_v6 B2_v6 B3_v6 R13_v6 R23_v6 R14_v6 R24_v6 B4_v6 R15_v6 R25_v6 B5_v6 R1_v6 R2_v6
      have B6_V6 := Lib.hid hx
      clear hb hx
      generalize v6.alloc (.cells #[.slice X6 p.ns.length x6, .slice Y6 p.es.length y6] 27) = V6 at *
      generalize v6.heap.size = g6 at *
      clear HL m30 m31
      have c0 := S_V6.out.cell (i := 0) (j := 0) rfl rfl
      have c1 := S_V6.out.cell (i := 0) (j := 1) rfl rfl
      have d0 := S_V6.out.cell (i := 1) (j := 0) rfl rfl
      have d1 := S_V6.out.cell (i := 1) (j := 1) rfl rfl
      have f0 := S_V6.out.cell (i := 2) (j := 0) rfl rfl
      have f1 := S_V6.out.cell (i := 2) (j := 1) rfl rfl
      simp only [Nat.add_zero] at c0 c1
      obtain ⟨m50, m51⟩ := B5_V6.out.cells
      go_wp2_with fail
      refine (same7_refl p X5 x5 Y5 y5 Pn pn Pe pe _ HPL.out R15_V6.out R25_V6.out (HPP9.out _ S_V6.out.1).ns (HPP9.out _ S_V6.out.1).es).mono ?_
      rintro e u5 ⟨rfl, hb⟩
      have S_u5 := Lib.hid (S_V6.out.up hb)
      have B1_u5 := Lib.hid (B1_V6.out.up hb)
      have R11_u5 := Lib.hid (Reads.up R11_V6.out hb)
      have R21_u5 := Lib.hid (Reads.up R21_V6.out hb)
      have R12_u5 := Lib.hid (Reads.up R12_V6.out hb)
      have R22_u5 := Lib.hid (Reads.up R22_V6.out hb)
      have B2_u5 := Lib.hid (B2_V6.out.up hb)
      have B3_u5 := Lib.hid (B3_V6.out.up hb)
      have R13_u5 := Lib.hid (Reads.up R13_V6.out hb)
      have R23_u5 := Lib.hid (Reads.up R23_V6.out hb)
      have R14_u5 := Lib.hid (Reads.up R14_V6.out hb)
      have R24_u5 := Lib.hid (Reads.up R24_V6.out hb)
      have B4_u5 := Lib.hid (B4_V6.out.up hb)
      have R15_u5 := Lib.hid (Reads.up R15_V6.out hb)
      have R25_u5 := Lib.hid (Reads.up R25_V6.out hb)
      have B5_u5 := Lib.hid (B5_V6.out.up hb)
      have R16_u5 := Lib.hid (Reads.up R16_V6.out hb)
      have R26_u5 := Lib.hid (Reads.up R26_V6.out hb)
      have B6_u5 := Lib.hid (B6_V6.out.up hb)
      clear S_V6 B1_V6 R11_V6 R21_V6 R12_V6 R22_V6 B2_V6 B3_V6 R13_V6 R23_V6 R14_V6 R24_V6 B4_V6 R15_V6 R25_V6 B5_V6 R16_V6 R26_V6 B6_V6
      clear hb c0 c1 d0 d1 f0 f1 m50 m51
      have c0 := S_u5.out.cell (i := 0) (j := 0) rfl rfl
      have c1 := S_u5.out.cell (i := 0) (j := 1) rfl rfl
      have d0 := S_u5.out.cell (i := 1) (j := 0) rfl rfl
      have d1 := S_u5.out.cell (i := 1) (j := 1) rfl rfl
      have f0 := S_u5.out.cell (i := 2) (j := 0) rfl rfl
      have f1 := S_u5.out.cell (i := 2) (j := 1) rfl rfl
      simp only [Nat.add_zero] at c0 c1
      obtain ⟨m60, m61⟩ := B6_u5.out.cells
      go_wp2_with fail
      refine (same7_refl p X6 x6 Y6 y6 Pn pn Pe pe _ HPL.out R16_u5.out R26_u5.out (HPP9.out _ S_u5.out.1).ns (HPP9.out _ S_u5.out.1).es).mono ?_
      rintro e u6 ⟨rfl, hb⟩
      have S_u6 := Lib.hid (S_u5.out.up hb)
      have B1_u6 := Lib.hid (B1_u5.out.up hb)
      have R11_u6 := Lib.hid (Reads.up R11_u5.out hb)
      have R21_u6 := Lib.hid (Reads.up R21_u5.out hb)
      have R12_u6 := Lib.hid (Reads.up R12_u5.out hb)
      have R22_u6 := Lib.hid (Reads.up R22_u5.out hb)
      have B2_u6 := Lib.hid (B2_u5.out.up hb)
      have B3_u6 := Lib.hid (B3_u5.out.up hb)
      have R13_u6 := Lib.hid (Reads.up R13_u5.out hb)
      have R23_u6 := Lib.hid (Reads.up R23_u5.out hb)
      have R14_u6 := Lib.hid (Reads.up R14_u5.out hb)
      have R24_u6 := Lib.hid (Reads.up R24_u5.out hb)
      have B4_u6 := Lib.hid (B4_u5.out.up hb)
      have R15_u6 := Lib.hid (Reads.up R15_u5.out hb)
      have R25_u6 := Lib.hid (Reads.up R25_u5.out hb)
      have B5_u6 := Lib.hid (B5_u5.out.up hb)
      have R16_u6 := Lib.hid (Reads.up R16_u5.out hb)
      have R26_u6 := Lib.hid (Reads.up R26_u5.out hb)
      have B6_u6 := Lib.hid (B6_u5.out.up hb)
      clear S_u5 B1_u5 R11_u5 R21_u5 R12_u5 R22_u5 B2_u5 B3_u5 R13_u5 R23_u5 R14_u5 R24_u5 B4_u5 R15_u5 R25_u5 B5_u5 R16_u5 R26_u5 B6_u5
      clear hb c0 c1 d0 d1 f0 f1 m60 m61
      go_wp2_with fail
      go_ret
      exact ⟨rfl, S_u6.out.1⟩

end Go.Proofs.YthnhacncnhknnaaDoor
