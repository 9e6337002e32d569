import Derived.Test.YthnhacncnhknnaaGreatDoorZ08
import Derived.Test.YthnhacncnhknnaaGreatDoorZ05
import Derived.Test.YthnhacncnhknnaaGreatDoorZ09
import Derived.Test.YthnhacncnhknnaaGreatDoorZ07
/-
  SubgraphValid. Printed by mkl11.py.
-/
namespace Go.Proofs.YthnhacncnhknnaaGreatDoor
open Go.RowKit Go.Shelf

set_option maxRecDepth 100000 in
set_option maxHeartbeats 4000000 in
theorem lawValid7 (hC : CloseC 17) (hB : BndC 10) (hA : AllC 19) (hV : ValidC 12) (hE : ExtC 6) (g : Gr) (An : Option Addr) (cn : Nat) (Ae : Option Addr) (ce : Nat) (p : Mo) (Pn : Option Addr) (pn : Nat) (Pe : Option Addr) (pe : Nat) (w : World) (hT : TabV w) (hg : GrAt w An cn Ae ce g) (p1 : Ints w w.heap.size Pn p.ns) (p2 : Ints w w.heap.size Pe p.es) (l1 : p.ns.length ≤ 1152921504606846976) (l2 : p.es.length ≤ 1152921504606846976) :
    Calls Tryz.prog 3 #[gval An g.ns.length cn Ae g.es.length ce, gval Pn p.ns.length pn Pe p.es.length pe] w fun e w' => e = .returned (.bool true) ∧ Below w.heap.size w w' := by
  have HAW := Lib.hid (fun (u : World) (hu : Below w.heap.size w u) => awake7 hC hB hA u (hT.up hu))
  have HSM : Hid (∀ (u : World) (b c : Nat), Below w.heap.size w u → u.heap[b]? = some (.cells #[.slice Pn p.ns.length pn, .slice Pe p.es.length pe] 27 (0, 0)) → Calls Tryz.prog 5 #[gval An g.ns.length cn Ae g.es.length ce, .slice (some ⟨b, 0, none⟩) 1 c] u fun e w' => e = .returned (.bool (fewB g && [(⟨p, Pn, pn, Pe, pe⟩ : PtV)].all (fun x => fewM x.p 150))) ∧ Below u.heap.size u w') := Lib.hid fun u b c hu hb =>
    small7_any g [⟨p, Pn, pn, Pe, pe⟩] An cn Ae ce (some ⟨b, 0, none⟩) c u (by simp) (hg.up hu) (fun x hx => by simp at hx; subst hx; exact ⟨l1, l2⟩) (.inr ⟨b, rfl, heap_lt hb, fun i hi => by
      have hi2 : i = 0 := by simp at hi; omega
      subst hi2
      exact ⟨cell_of_row _ _ 0 _ _ _ hb, cell_of_row _ _ 1 _ _ _ hb⟩⟩)
  have HFL : Hid ((fewB g && [(⟨p, Pn, pn, Pe, pe⟩ : PtV)].all (fun x => fewM x.p 150)) = true → (g.ns.length ≤ 1000 ∧ g.es.length ≤ 1000) ∧ (p.ns.length ≤ 1000 ∧ p.es.length ≤ 1000)) := Lib.hid fun h => by
    unfold fewB fewM at h
    simp only [List.all_cons, List.all_nil, Bool.and_true, Bool.and_eq_true, decide_eq_true_eq] at h
    omega
  have HCP := Lib.hid (fun (h : g.ns.length ≤ 1000 ∧ g.es.length ≤ 1000) (u : World) (hu : Below w.heap.size w u) => copyG7 g An cn Ae ce u h (hg.up hu))
  have HPP := Lib.hid (fun (h : p.ns.length ≤ 1000 ∧ p.es.length ≤ 1000) (u : World) (hu : Below w.heap.size w u) => (show PtAt u Pn Pe p from ⟨Reads.up p1 hu, Reads.up p2 hu, h.1, h.2⟩))
  have HO1 := Lib.hid (fun (h : p.ns.length ≤ 1000 ∧ p.es.length ≤ 1000) (u : World) (hu : Below w.heap.size w u) => own7_any p Pn pn Pe pe u ⟨Reads.up p1 hu, Reads.up p2 hu, h.1, h.2⟩)
  have HE1 := Lib.hid (fun X x Y y a1 a2 a3 a4 (u : World) (r1 : GrAt u X x Y y g) (r2 : PtAt u a1 a3 p) => hE g p X x Y y a1 a2 a3 a4 u r1 r2)
  have HB1 := Lib.hid (fun X x Y y a1 a2 a3 a4 (u : World) (r1 : GrAt u X x Y y g) (r2 : PtAt u a1 a3 p) => hB g p X x Y y a1 a2 a3 a4 u r1 r2)
  have HE2 := Lib.hid (fun (u : World) (hu : Below w.heap.size w u) (r2 : PtAt u Pn Pe p) => extract7_any g p An cn Ae ce Pn pn Pe pe u (hg.up hu) r2)
  have HB2 := Lib.hid (fun (u : World) (hu : Below w.heap.size w u) (r2 : PtAt u Pn Pe p) => boundary7_any g p An cn Ae ce Pn pn Pe pe u (hg.up hu) r2)
  have HV1 := Lib.hid (fun (u : World) (hu : Below w.heap.size w u) (r2 : PtAt u Pn Pe p) => hV g p An cn Ae ce Pn pn Pe pe u (hg.up hu) r2)
  have HV2 := Lib.hid (fun (u : World) (hu : Below w.heap.size w u) (r2 : PtAt u Pn Pe p) => valid7_any g p An cn Ae ce Pn pn Pe pe u (hg.up hu) r2)
  have HS0 : Hid (SV w [([.slice An g.ns.length cn, .slice Ae g.es.length ce], 25), ([.slice Pn p.ns.length pn, .slice Pe p.es.length pe], 27)] _) := Lib.hid (SV.push (SV.push (SV.nil w) rfl [.slice An g.ns.length cn, .slice Ae g.es.length ce] 25) (by simp) [.slice Pn p.ns.length pn, .slice Pe p.es.length pe] 27)
  clear hT hC hB hA hE hV hg p1 p2 l1 l2
  generalize (fewB g && [(⟨p, Pn, pn, Pe, pe⟩ : PtV)].all (fun x => fewM x.p 150)) = s1 at *
  generalize partE g p = E at *
  generalize extG g p = Q at *
  generalize extM g p = R at *
  generalize bndR g p = RB at *
  go_enter Tryz.func3, Tryz.ntmps3
  go_wp2_with fail
  refine (HAW.out _ HS0.out.1).mono ?_
  rintro e w1 ⟨rfl, hb⟩
  have HS1 := Lib.hid (HS0.out.up hb)
  clear hb HS0
  have c0 := HS1.out.cell (i := 0) (j := 0) rfl rfl
  have c1 := HS1.out.cell (i := 0) (j := 1) rfl rfl
  have d0 := HS1.out.cell (i := 1) (j := 0) rfl rfl
  have d1 := HS1.out.cell (i := 1) (j := 1) rfl rfl
  simp only [Nat.add_zero] at c0 c1
  go_wp2_with fail
  have hba : Below w1.heap.size w1 (w1.alloc (.cells #[.slice Pn p.ns.length pn, .slice Pe p.es.length pe] 27)) := (Below.refl _ _).alloc (Nat.le_refl _) _
  refine (HSM.out _ _ _ (HS1.out.1.trans (hba.mono HS1.out.1.size)) (heap_alloc_new w1 _)).mono ?_
  rintro e w2 ⟨rfl, hb⟩
  have HS2 := Lib.hid ((HS1.out.up hba).up hb)
  clear hba hb HS1 HSM c0 c1 d0 d1
  cases s1
  case false =>
    go_wp2_with fail
    refine (HAW.out _ HS2.out.1).mono ?_
    rintro e w9 ⟨rfl, hb9⟩
    go_wp2_with fail
    go_ret
    exact ⟨rfl, HS2.out.1.trans (hb9.mono HS2.out.1.size)⟩
  obtain ⟨k1, k2⟩ := HFL.out rfl
  have HCP9 := Lib.hid (HCP.out k1)
  have HPP9 := Lib.hid (HPP.out k2)
  have HO19 := Lib.hid (HO1.out k2)
  clear HCP HPP HO1 HFL HAW k1 k2
  go_upto_region 3 with fail
  go_cut [5, 6, 7] (fun u v z wc => ∃ gx gy Gn gn Ge ge Xn xn Xe xe, u = .pointer (some ⟨gx, 0, none⟩) ∧ v = .pointer (some ⟨gy, 0, none⟩) ∧ z = .int .i64 (E : Nat) ∧ BX gx (.slice Gn Q.ns.length gn) (.slice Ge Q.es.length ge) 25 wc ∧ BX gy (.slice Xn R.ns.length xn) (.slice Xe R.es.length xe) 30 wc ∧ GrAt wc Gn gn Ge ge Q ∧ Ints wc wc.heap.size Xn R.ns ∧ Ints wc wc.heap.size Xe R.es ∧ R2 R ∧ SV w [([.slice An g.ns.length cn, .slice Ae g.es.length ce], 25), ([.slice Pn p.ns.length pn, .slice Pe p.es.length pe], 27)] wc)
  case first =>
    go_wp2_with fail
    have S_wd := Lib.hid (HS2.out.up (below_d w2))
    clear HS2
    have q0 : w2.drew.cell? ⟨w.heap.size, 0, none⟩ = some (.slice An g.ns.length cn) := S_wd.out.cell (i := 0) (j := 0) rfl rfl
    have q1 : w2.drew.cell? ⟨w.heap.size, 1, none⟩ = some (.slice Ae g.es.length ce) := S_wd.out.cell (i := 0) (j := 1) rfl rfl
    have q2 : w2.drew.cell? ⟨w.heap.size + 1, 0, none⟩ = some (.slice Pn p.ns.length pn) := S_wd.out.cell (i := 1) (j := 0) rfl rfl
    have q3 : w2.drew.cell? ⟨w.heap.size + 1, 1, none⟩ = some (.slice Pe p.es.length pe) := S_wd.out.cell (i := 1) (j := 1) rfl rfl
    have HM_wd : Hid (∀ u, Below w2.drew.heap.size w2.drew u → (fun u : World => u.cell? ⟨w.heap.size, 0, none⟩ = some (.slice An g.ns.length cn) ∧ u.cell? ⟨w.heap.size, 1, none⟩ = some (.slice Ae g.es.length ce) ∧ u.cell? ⟨w.heap.size + 1, 0, none⟩ = some (.slice Pn p.ns.length pn) ∧ u.cell? ⟨w.heap.size + 1, 1, none⟩ = some (.slice Pe p.es.length pe)) u) := Lib.hid fun u hb => ⟨cell_up hb q0, cell_up hb q1, cell_up hb q2, cell_up hb q3⟩
    clear q0 q1 q2 q3
    have WD_wd := Lib.hid (Below.refl w2.drew.heap.size w2.drew)
    refine wp_region_noPanic ?_
    refine wp_region_held_drew (S := (fun u : World => u.cell? ⟨w.heap.size, 0, none⟩ = some (.slice An g.ns.length cn) ∧ u.cell? ⟨w.heap.size, 1, none⟩ = some (.slice Ae g.es.length ce) ∧ u.cell? ⟨w.heap.size + 1, 0, none⟩ = some (.slice Pn p.ns.length pn) ∧ u.cell? ⟨w.heap.size + 1, 1, none⟩ = some (.slice Pe p.es.length pe))) (by kernel_rfl) (HM_wd.out _ WD_wd.out) (fun hHeld => ?_)
    generalize w2.drew = wd at *
    have lsv : w.heap.size + 2 ≤ wd.heap.size := S_wd.out.2.1
    refine wpAnyH_take (i := 0) (v := ?_) (oper_at (r := _) rfl) (by kernel_rfl) (by kernel_rfl) (by kernel_rfl) (fun _ _ _ h => h) (Or.inl ⟨by rfl, ?_⟩) (by assumption) ?_
    rotate_left
    · intro w hSw; try dsimp only at hSw
      go_simp
      try with_reducible rfl
    try simp only [Act.put, List.setIfInBounds_toArray, List.set_cons_zero, List.set_cons_succ]
    refine wpAnyH_take (i := 2) (v := ?_) (oper_at (r := _) rfl) (by kernel_rfl) (by kernel_rfl) (by kernel_rfl) (fun _ _ _ h => h) (Or.inl ⟨by rfl, ?_⟩) (by assumption) ?_
    rotate_left
    · intro w hSw; try dsimp only at hSw
      go_simp
      try with_reducible rfl
    try simp only [Act.put, List.setIfInBounds_toArray, List.set_cons_zero, List.set_cons_succ]
    refine wpAnyH_ready (rs := [1, 9, 10]) (by kernel_rfl) (by simp) ?_
    refine (AllReadyH.cons (oper_at (r := _) rfl) (fun K hK => ?_) (AllReadyH.cons (oper_at (r := _) rfl) (fun K hK => ?_) (AllReadyH.cons (oper_at (r := _) rfl) (fun K hK => ?_) AllReadyH.nil)))
    · skip
      go_simp
      refine (HCP9.out _ S_wd.out.1).mono ?_
      rintro e W1 ⟨⟨G1, k1, G2, k2, rfl, r1⟩, hb⟩
      have S_W1 := Lib.hid (S_wd.out.up hb)
      have WD_W1 := Lib.hid (WD_wd.out.trans (hb.mono WD_wd.out.size))
      clear S_wd WD_wd
      have GR_W1 := Lib.hid r1
      clear hb r1
      go_wp2_with fail
      refine hK.out _ _ (HM_wd.out _ WD_W1.out) (fun _ => ?_)
      clear hK K
      try simp only [Act.put, List.setIfInBounds_toArray, List.set_cons_zero, List.set_cons_succ]
      refine wpAnyH_ready (rs := [3, 9, 10]) (by kernel_rfl) (by simp) ?_
      refine (AllReadyH.cons (oper_at (r := _) rfl) (fun K hK => ?_) (AllReadyH.cons (oper_at (r := _) rfl) (fun K hK => ?_) (AllReadyH.cons (oper_at (r := _) rfl) (fun K hK => ?_) AllReadyH.nil)))
      · skip
        go_simp
        refine (HO19.out _ S_W1.out.1).mono ?_
        rintro e W2 ⟨⟨K1, k3, K2, k4, rfl, r1⟩, hb⟩
        have S_W2 := Lib.hid (S_W1.out.up hb)
        have WD_W2 := Lib.hid (WD_W1.out.trans (hb.mono WD_W1.out.size))
        have GR_W2 := Lib.hid (GR_W1.out.up hb)
        clear S_W1 WD_W1 GR_W1
        have PA_W2 := Lib.hid r1
        clear hb r1
        go_wp2_with fail
        refine hK.out _ _ (HM_wd.out _ WD_W2.out) (fun _ => ?_)
        clear hK K
        try simp only [Act.put, List.setIfInBounds_toArray, List.set_cons_zero, List.set_cons_succ]
        refine wpAnyH_ready (rs := [4, 9, 10]) (by kernel_rfl) (by simp) ?_
        refine (AllReadyH.cons (oper_at (r := _) rfl) (fun K hK => ?_) (AllReadyH.cons (oper_at (r := _) rfl) (fun K hK => ?_) (AllReadyH.cons (oper_at (r := _) rfl) (fun K hK => ?_) AllReadyH.nil)))
        · skip
          go_simp
          refine (HE1.out G1 k1 G2 k2 K1 k3 K2 k4 _ GR_W2.out PA_W2.out).mono ?_
          rintro e W3 ⟨⟨Gn, gn, Ge, ge, Xn, xn, Xe, xe, rfl, r1, r2, r3, r4, r5⟩, hb⟩
          have S_W3 := Lib.hid (S_W2.out.up hb)
          have WD_W3 := Lib.hid (WD_W2.out.trans (hb.mono WD_W2.out.size))
          have GR_W3 := Lib.hid (GR_W2.out.up hb)
          have PA_W3 := Lib.hid (PA_W2.out.up hb)
          clear S_W2 WD_W2 GR_W2 PA_W2
          have GQ_W3 := Lib.hid r1
          have R1_W3 := Lib.hid r2
          have R2_W3 := Lib.hid r3
          have LN_W3 := Lib.hid (And.intro r4 r5)
          clear hb r1 r2 r3
          go_wp2_with fail
          refine hK.out _ _ (HM_wd.out _ WD_W3.out) (fun _ => ?_)
          clear hK K
          try simp only [Act.put, List.setIfInBounds_toArray, List.set_cons_zero, List.set_cons_succ]
          clear r4 r5
          refine wpAnyH_take (i := 5) (v := ?_) (oper_at (r := _) rfl) (by kernel_rfl) (by kernel_rfl) (by kernel_rfl) (fun _ _ _ h => h) (Or.inl ⟨by rfl, ?_⟩) (by assumption) ?_
          rotate_left
          · intro w hSw; try dsimp only at hSw
            go_simp
            try with_reducible rfl
          try simp only [Act.put, List.setIfInBounds_toArray, List.set_cons_zero, List.set_cons_succ]
          refine wpAnyH_take (i := 6) (v := ?_) (oper_at (r := _) rfl) (by kernel_rfl) (by kernel_rfl) (by kernel_rfl) (fun _ _ _ h => h) (Or.inl ⟨by rfl, ?_⟩) (by assumption) ?_
          rotate_left
          · intro w hSw; try dsimp only at hSw
            go_simp
            try with_reducible rfl
          try simp only [Act.put, List.setIfInBounds_toArray, List.set_cons_zero, List.set_cons_succ]
          refine wpAnyH_take (i := 7) (v := ?_) (oper_at (r := _) rfl) (by kernel_rfl) (by kernel_rfl) (by kernel_rfl) (fun _ _ _ h => h) (Or.inl ⟨by rfl, ?_⟩) (by assumption) ?_
          rotate_left
          · intro w hSw; try dsimp only at hSw
            go_simp
            try with_reducible rfl
          try simp only [Act.put, List.setIfInBounds_toArray, List.set_cons_zero, List.set_cons_succ]
          refine wpAnyH_take (i := 8) (v := ?_) (oper_at (r := _) rfl) (by kernel_rfl) (by kernel_rfl) (by kernel_rfl) (fun _ _ _ h => h) (Or.inl ⟨by rfl, ?_⟩) (by assumption) ?_
          rotate_left
          · intro w hSw; try dsimp only at hSw
            go_simp
            try with_reducible rfl
          try simp only [Act.put, List.setIfInBounds_toArray, List.set_cons_zero, List.set_cons_succ]
          refine wpAnyH_ready (rs := [9, 10]) (by kernel_rfl) (by simp) ?_
          refine (AllReadyH.cons (oper_at (r := _) rfl) (fun K hK => ?_) (AllReadyH.cons (oper_at (r := _) rfl) (fun K hK => ?_) AllReadyH.nil))
          · skip
            obtain ⟨gx, hg⟩ : ∃ g, g = W3.heap.size := ⟨_, rfl⟩
            have lgx : wd.heap.size ≤ gx := by rw [hg]; exact WD_W3.out.size
            have hx : BX gx (.slice none 0 0) (.slice none 0 0) 25 (W3.alloc (.cells #[.slice none 0 0, .slice none 0 0] 25)) := by rw [hg]; exact heap_alloc_new _ _
            have hb : Below W3.heap.size W3 (W3.alloc (.cells #[.slice none 0 0, .slice none 0 0] 25)) := (Below.refl _ _).alloc (Nat.le_refl _) _
            have S_W4 := Lib.hid (S_W3.out.up hb)
            have WD_W4 := Lib.hid (WD_W3.out.trans (hb.mono WD_W3.out.size))
            have GQ_W4 := Lib.hid (GQ_W3.out.up hb)
            have R1_W4 := Lib.hid (Reads.up R1_W3.out hb)
            have R2_W4 := Lib.hid (Reads.up R2_W3.out hb)
            have LN_W4 := Lib.hid (LN_W3.out)
            clear S_W3 WD_W3 GQ_W3 R1_W3 R2_W3 LN_W3
            have BA_W4 := Lib.hid hx
            clear hx hb
            go_simp
            refine hK.out _ _ (HM_wd.out _ WD_W4.out) (fun _ => ?_)
            clear hK K
            try simp only [Act.put, List.setIfInBounds_toArray, List.set_cons_zero, List.set_cons_succ]
            generalize W3.alloc (.cells #[.slice none 0 0, .slice none 0 0] 25) = W4 at *
            try rw [← hg]
            clear hg
            refine wpAnyH_ready (rs := [10]) (by kernel_rfl) (by simp) ?_
            refine AllReadyH.cons (oper_at (r := _) rfl) (fun K hK => ?_) AllReadyH.nil
            obtain ⟨gy, hg⟩ : ∃ g, g = W4.heap.size := ⟨_, rfl⟩
            have lgy : wd.heap.size ≤ gy := by rw [hg]; exact WD_W4.out.size
            have ngygx : gx ≠ gy := by have := BA_W4.out.lt; omega
            have ngxgy : gy ≠ gx := Ne.symm ngygx
            have hx : BX gy (.slice none 0 0) (.slice none 0 0) 30 (W4.alloc (.cells #[.slice none 0 0, .slice none 0 0] 30)) := by rw [hg]; exact heap_alloc_new _ _
            have hb : Below W4.heap.size W4 (W4.alloc (.cells #[.slice none 0 0, .slice none 0 0] 30)) := (Below.refl _ _).alloc (Nat.le_refl _) _
            have S_W5 := Lib.hid (S_W4.out.up hb)
            have WD_W5 := Lib.hid (WD_W4.out.trans (hb.mono WD_W4.out.size))
            have GQ_W5 := Lib.hid (GQ_W4.out.up hb)
            have R1_W5 := Lib.hid (Reads.up R1_W4.out hb)
            have R2_W5 := Lib.hid (Reads.up R2_W4.out hb)
            have LN_W5 := Lib.hid (LN_W4.out)
            have BA_W5 := Lib.hid (BA_W4.out.up hb)
            clear S_W4 WD_W4 GQ_W4 R1_W4 R2_W4 LN_W4 BA_W4
            have BB_W5 := Lib.hid hx
            clear hx hb
            go_simp
            refine hK.out _ _ (HM_wd.out _ WD_W5.out) (fun _ => ?_)
            clear hK K
            try simp only [Act.put, List.setIfInBounds_toArray, List.set_cons_zero, List.set_cons_succ]
            generalize W4.alloc (.cells #[.slice none 0 0, .slice none 0 0] 30) = W5 at *
            try rw [← hg]
            clear hg
            refine wpAnyH_ready (rs := [11]) (by kernel_rfl) (by simp) ?_
            refine AllReadyH.cons (oper_at (r := _) rfl) (fun K hK => ?_) AllReadyH.nil
            have fr0 := BA_W5.out.free 0
            have fr1 := BA_W5.out.free 1
            obtain ⟨e0, e1⟩ := BA_W5.out.cells
            go_simp
            clear fr0 fr1 e0 e1
            have S_W6 := Lib.hid (S_W5.out.set (g := gx) (by simp; omega) (.slice Gn Q.ns.length gn) (.slice Ge Q.es.length ge))
            have WD_W6 := Lib.hid ((WD_W5.out.setCell (p := ⟨gx, 0, none⟩) (by show wd.heap.size ≤ gx; omega) (.slice Gn Q.ns.length gn)).setCell (p := ⟨gx, 1, none⟩) (by show wd.heap.size ≤ gx; omega) (.slice Ge Q.es.length ge))
            have GQ_W6 := Lib.hid (grAt_set GQ_W5.out BA_W5.out (.slice Gn Q.ns.length gn) (.slice Ge Q.es.length ge))
            have R1_W6 := Lib.hid (ints_set' R1_W5.out BA_W5.out (.slice Gn Q.ns.length gn) (.slice Ge Q.es.length ge))
            have R2_W6 := Lib.hid (ints_set' R2_W5.out BA_W5.out (.slice Gn Q.ns.length gn) (.slice Ge Q.es.length ge))
            have LN_W6 := Lib.hid (LN_W5.out)
            have BA_W6 := Lib.hid (BA_W5.out.put (.slice Gn Q.ns.length gn) (.slice Ge Q.es.length ge))
            have BB_W6 := Lib.hid (BB_W5.out.far ngxgy (.slice Gn Q.ns.length gn) (.slice Ge Q.es.length ge))
            clear S_W5 WD_W5 GQ_W5 R1_W5 R2_W5 LN_W5 BA_W5 BB_W5
            refine hK.out _ _ (HM_wd.out _ WD_W6.out) (fun _ => ?_)
            clear hK K
            try simp only [Act.put, List.setIfInBounds_toArray, List.set_cons_zero, List.set_cons_succ]
            generalize (W5.setCell ⟨gx, 0, none⟩ (.slice Gn Q.ns.length gn)).setCell ⟨gx, 1, none⟩ (.slice Ge Q.es.length ge) = W6 at *
            refine wpAnyH_ready (rs := [12]) (by kernel_rfl) (by simp) ?_
            refine AllReadyH.cons (oper_at (r := _) rfl) (fun K hK => ?_) AllReadyH.nil
            have fr0 := BB_W6.out.free 0
            have fr1 := BB_W6.out.free 1
            obtain ⟨e0, e1⟩ := BB_W6.out.cells
            go_simp
            clear fr0 fr1 e0 e1
            have S_W7 := Lib.hid (S_W6.out.set (g := gy) (by simp; omega) (.slice Xn R.ns.length xn) (.slice Xe R.es.length xe))
            have WD_W7 := Lib.hid ((WD_W6.out.setCell (p := ⟨gy, 0, none⟩) (by show wd.heap.size ≤ gy; omega) (.slice Xn R.ns.length xn)).setCell (p := ⟨gy, 1, none⟩) (by show wd.heap.size ≤ gy; omega) (.slice Xe R.es.length xe))
            have GQ_W7 := Lib.hid (grAt_set GQ_W6.out BB_W6.out (.slice Xn R.ns.length xn) (.slice Xe R.es.length xe))
            have R1_W7 := Lib.hid (ints_set' R1_W6.out BB_W6.out (.slice Xn R.ns.length xn) (.slice Xe R.es.length xe))
            have R2_W7 := Lib.hid (ints_set' R2_W6.out BB_W6.out (.slice Xn R.ns.length xn) (.slice Xe R.es.length xe))
            have LN_W7 := Lib.hid (LN_W6.out)
            have BA_W7 := Lib.hid (BA_W6.out.far ngygx (.slice Xn R.ns.length xn) (.slice Xe R.es.length xe))
            have BB_W7 := Lib.hid (BB_W6.out.put (.slice Xn R.ns.length xn) (.slice Xe R.es.length xe))
            clear S_W6 WD_W6 GQ_W6 R1_W6 R2_W6 LN_W6 BA_W6 BB_W6
            refine hK.out _ _ (HM_wd.out _ WD_W7.out) (fun _ => ?_)
            clear hK K
            try simp only [Act.put, List.setIfInBounds_toArray, List.set_cons_zero, List.set_cons_succ]
            generalize (W6.setCell ⟨gy, 0, none⟩ (.slice Xn R.ns.length xn)).setCell ⟨gy, 1, none⟩ (.slice Xe R.es.length xe) = W7 at *
            refine wpAnyH_take (i := 13) (v := ?_) (oper_at (r := _) rfl) (by kernel_rfl) (by kernel_rfl) (by kernel_rfl) (fun _ _ _ h => h) (Or.inl ⟨by rfl, ?_⟩) (by assumption) ?_
            rotate_left
            · intro w hSw; try dsimp only at hSw
              go_simp
              try with_reducible rfl
            try simp only [Act.put, List.setIfInBounds_toArray, List.set_cons_zero, List.set_cons_succ]
            refine wpAnyH_done (by kernel_rfl) ?_ _
            refine NoPanic.normal ?_
            go_wp2_with fail
            go_meet
            exact ⟨gx, gy, Gn, gn, Ge, ge, Xn, xn, Xe, xe, rfl, rfl, rfl, BA_W7.out, BB_W7.out, GQ_W7.out, R1_W7.out, R2_W7.out, LN_W7.out, S_W7.out⟩
          · skip
            obtain ⟨gy, hg⟩ : ∃ g, g = W3.heap.size := ⟨_, rfl⟩
            have lgy : wd.heap.size ≤ gy := by rw [hg]; exact WD_W3.out.size
            have hx : BX gy (.slice none 0 0) (.slice none 0 0) 30 (W3.alloc (.cells #[.slice none 0 0, .slice none 0 0] 30)) := by rw [hg]; exact heap_alloc_new _ _
            have hb : Below W3.heap.size W3 (W3.alloc (.cells #[.slice none 0 0, .slice none 0 0] 30)) := (Below.refl _ _).alloc (Nat.le_refl _) _
            have S_W8 := Lib.hid (S_W3.out.up hb)
            have WD_W8 := Lib.hid (WD_W3.out.trans (hb.mono WD_W3.out.size))
            have GQ_W8 := Lib.hid (GQ_W3.out.up hb)
            have R1_W8 := Lib.hid (Reads.up R1_W3.out hb)
            have R2_W8 := Lib.hid (Reads.up R2_W3.out hb)
            have LN_W8 := Lib.hid (LN_W3.out)
            clear S_W3 WD_W3 GQ_W3 R1_W3 R2_W3 LN_W3
            have BB_W8 := Lib.hid hx
            clear hx hb
            go_simp
            refine hK.out _ _ (HM_wd.out _ WD_W8.out) (fun _ => ?_)
            clear hK K
            try simp only [Act.put, List.setIfInBounds_toArray, List.set_cons_zero, List.set_cons_succ]
            generalize W3.alloc (.cells #[.slice none 0 0, .slice none 0 0] 30) = W8 at *
            try rw [← hg]
            clear hg
            refine wpAnyH_ready (rs := [9]) (by kernel_rfl) (by simp) ?_
            refine AllReadyH.cons (oper_at (r := _) rfl) (fun K hK => ?_) AllReadyH.nil
            obtain ⟨gx, hg⟩ : ∃ g, g = W8.heap.size := ⟨_, rfl⟩
            have lgx : wd.heap.size ≤ gx := by rw [hg]; exact WD_W8.out.size
            have ngxgy : gy ≠ gx := by have := BB_W8.out.lt; omega
            have ngygx : gx ≠ gy := Ne.symm ngxgy
            have hx : BX gx (.slice none 0 0) (.slice none 0 0) 25 (W8.alloc (.cells #[.slice none 0 0, .slice none 0 0] 25)) := by rw [hg]; exact heap_alloc_new _ _
            have hb : Below W8.heap.size W8 (W8.alloc (.cells #[.slice none 0 0, .slice none 0 0] 25)) := (Below.refl _ _).alloc (Nat.le_refl _) _
            have S_W9 := Lib.hid (S_W8.out.up hb)
            have WD_W9 := Lib.hid (WD_W8.out.trans (hb.mono WD_W8.out.size))
            have GQ_W9 := Lib.hid (GQ_W8.out.up hb)
            have R1_W9 := Lib.hid (Reads.up R1_W8.out hb)
            have R2_W9 := Lib.hid (Reads.up R2_W8.out hb)
            have LN_W9 := Lib.hid (LN_W8.out)
            have BB_W9 := Lib.hid (BB_W8.out.up hb)
            clear S_W8 WD_W8 GQ_W8 R1_W8 R2_W8 LN_W8 BB_W8
            have BA_W9 := Lib.hid hx
            clear hx hb
            go_simp
            refine hK.out _ _ (HM_wd.out _ WD_W9.out) (fun _ => ?_)
            clear hK K
            try simp only [Act.put, List.setIfInBounds_toArray, List.set_cons_zero, List.set_cons_succ]
            generalize W8.alloc (.cells #[.slice none 0 0, .slice none 0 0] 25) = W9 at *
            try rw [← hg]
            clear hg
            refine wpAnyH_ready (rs := [11]) (by kernel_rfl) (by simp) ?_
            refine AllReadyH.cons (oper_at (r := _) rfl) (fun K hK => ?_) AllReadyH.nil
            have fr0 := BA_W9.out.free 0
            have fr1 := BA_W9.out.free 1
            obtain ⟨e0, e1⟩ := BA_W9.out.cells
            go_simp
            clear fr0 fr1 e0 e1
            have S_W10 := Lib.hid (S_W9.out.set (g := gx) (by simp; omega) (.slice Gn Q.ns.length gn) (.slice Ge Q.es.length ge))
            have WD_W10 := Lib.hid ((WD_W9.out.setCell (p := ⟨gx, 0, none⟩) (by show wd.heap.size ≤ gx; omega) (.slice Gn Q.ns.length gn)).setCell (p := ⟨gx, 1, none⟩) (by show wd.heap.size ≤ gx; omega) (.slice Ge Q.es.length ge))
            have GQ_W10 := Lib.hid (grAt_set GQ_W9.out BA_W9.out (.slice Gn Q.ns.length gn) (.slice Ge Q.es.length ge))
            have R1_W10 := Lib.hid (ints_set' R1_W9.out BA_W9.out (.slice Gn Q.ns.length gn) (.slice Ge Q.es.length ge))
            have R2_W10 := Lib.hid (ints_set' R2_W9.out BA_W9.out (.slice Gn Q.ns.length gn) (.slice Ge Q.es.length ge))
            have LN_W10 := Lib.hid (LN_W9.out)
            have BB_W10 := Lib.hid (BB_W9.out.far ngxgy (.slice Gn Q.ns.length gn) (.slice Ge Q.es.length ge))
            have BA_W10 := Lib.hid (BA_W9.out.put (.slice Gn Q.ns.length gn) (.slice Ge Q.es.length ge))
            clear S_W9 WD_W9 GQ_W9 R1_W9 R2_W9 LN_W9 BB_W9 BA_W9
            refine hK.out _ _ (HM_wd.out _ WD_W10.out) (fun _ => ?_)
            clear hK K
            try simp only [Act.put, List.setIfInBounds_toArray, List.set_cons_zero, List.set_cons_succ]
            generalize (W9.setCell ⟨gx, 0, none⟩ (.slice Gn Q.ns.length gn)).setCell ⟨gx, 1, none⟩ (.slice Ge Q.es.length ge) = W10 at *
            refine wpAnyH_ready (rs := [12]) (by kernel_rfl) (by simp) ?_
            refine AllReadyH.cons (oper_at (r := _) rfl) (fun K hK => ?_) AllReadyH.nil
            have fr0 := BB_W10.out.free 0
            have fr1 := BB_W10.out.free 1
            obtain ⟨e0, e1⟩ := BB_W10.out.cells
            go_simp
            clear fr0 fr1 e0 e1
            have S_W11 := Lib.hid (S_W10.out.set (g := gy) (by simp; omega) (.slice Xn R.ns.length xn) (.slice Xe R.es.length xe))
            have WD_W11 := Lib.hid ((WD_W10.out.setCell (p := ⟨gy, 0, none⟩) (by show wd.heap.size ≤ gy; omega) (.slice Xn R.ns.length xn)).setCell (p := ⟨gy, 1, none⟩) (by show wd.heap.size ≤ gy; omega) (.slice Xe R.es.length xe))
            have GQ_W11 := Lib.hid (grAt_set GQ_W10.out BB_W10.out (.slice Xn R.ns.length xn) (.slice Xe R.es.length xe))
            have R1_W11 := Lib.hid (ints_set' R1_W10.out BB_W10.out (.slice Xn R.ns.length xn) (.slice Xe R.es.length xe))
            have R2_W11 := Lib.hid (ints_set' R2_W10.out BB_W10.out (.slice Xn R.ns.length xn) (.slice Xe R.es.length xe))
            have LN_W11 := Lib.hid (LN_W10.out)
            have BB_W11 := Lib.hid (BB_W10.out.put (.slice Xn R.ns.length xn) (.slice Xe R.es.length xe))
            have BA_W11 := Lib.hid (BA_W10.out.far ngygx (.slice Xn R.ns.length xn) (.slice Xe R.es.length xe))
            clear S_W10 WD_W10 GQ_W10 R1_W10 R2_W10 LN_W10 BB_W10 BA_W10
            refine hK.out _ _ (HM_wd.out _ WD_W11.out) (fun _ => ?_)
            clear hK K
            try simp only [Act.put, List.setIfInBounds_toArray, List.set_cons_zero, List.set_cons_succ]
            generalize (W10.setCell ⟨gy, 0, none⟩ (.slice Xn R.ns.length xn)).setCell ⟨gy, 1, none⟩ (.slice Xe R.es.length xe) = W11 at *
            refine wpAnyH_take (i := 13) (v := ?_) (oper_at (r := _) rfl) (by kernel_rfl) (by kernel_rfl) (by kernel_rfl) (fun _ _ _ h => h) (Or.inl ⟨by rfl, ?_⟩) (by assumption) ?_
            rotate_left
            · intro w hSw; try dsimp only at hSw
              go_simp
              try with_reducible rfl
            try simp only [Act.put, List.setIfInBounds_toArray, List.set_cons_zero, List.set_cons_succ]
            refine wpAnyH_done (by kernel_rfl) ?_ _
            refine NoPanic.normal ?_
            go_wp2_with fail
            go_meet
            exact ⟨gx, gy, Gn, gn, Ge, ge, Xn, xn, Xe, xe, rfl, rfl, rfl, BA_W11.out, BB_W11.out, GQ_W11.out, R1_W11.out, R2_W11.out, LN_W11.out, S_W11.out⟩
        · skip
          obtain ⟨gx, hg⟩ : ∃ g, g = W2.heap.size := ⟨_, rfl⟩
          have lgx : wd.heap.size ≤ gx := by rw [hg]; exact WD_W2.out.size
          have hx : BX gx (.slice none 0 0) (.slice none 0 0) 25 (W2.alloc (.cells #[.slice none 0 0, .slice none 0 0] 25)) := by rw [hg]; exact heap_alloc_new _ _
          have hb : Below W2.heap.size W2 (W2.alloc (.cells #[.slice none 0 0, .slice none 0 0] 25)) := (Below.refl _ _).alloc (Nat.le_refl _) _
          have S_W12 := Lib.hid (S_W2.out.up hb)
          have WD_W12 := Lib.hid (WD_W2.out.trans (hb.mono WD_W2.out.size))
          have GR_W12 := Lib.hid (GR_W2.out.up hb)
          have PA_W12 := Lib.hid (PA_W2.out.up hb)
          clear S_W2 WD_W2 GR_W2 PA_W2
          have BA_W12 := Lib.hid hx
          clear hx hb
          go_simp
          refine hK.out _ _ (HM_wd.out _ WD_W12.out) (fun _ => ?_)
          clear hK K
          try simp only [Act.put, List.setIfInBounds_toArray, List.set_cons_zero, List.set_cons_succ]
          generalize W2.alloc (.cells #[.slice none 0 0, .slice none 0 0] 25) = W12 at *
          try rw [← hg]
          clear hg
          refine wpAnyH_ready (rs := [4, 10]) (by kernel_rfl) (by simp) ?_
          refine (AllReadyH.cons (oper_at (r := _) rfl) (fun K hK => ?_) (AllReadyH.cons (oper_at (r := _) rfl) (fun K hK => ?_) AllReadyH.nil))
          · skip
            go_simp
            refine (HE1.out G1 k1 G2 k2 K1 k3 K2 k4 _ GR_W12.out PA_W12.out).mono ?_
            rintro e W13 ⟨⟨Gn, gn, Ge, ge, Xn, xn, Xe, xe, rfl, r1, r2, r3, r4, r5⟩, hb⟩
            have S_W13 := Lib.hid (S_W12.out.up hb)
            have WD_W13 := Lib.hid (WD_W12.out.trans (hb.mono WD_W12.out.size))
            have GR_W13 := Lib.hid (GR_W12.out.up hb)
            have PA_W13 := Lib.hid (PA_W12.out.up hb)
            have BA_W13 := Lib.hid (BA_W12.out.up hb)
            clear S_W12 WD_W12 GR_W12 PA_W12 BA_W12
            have GQ_W13 := Lib.hid r1
            have R1_W13 := Lib.hid r2
            have R2_W13 := Lib.hid r3
            have LN_W13 := Lib.hid (And.intro r4 r5)
            clear hb r1 r2 r3
            go_wp2_with fail
            refine hK.out _ _ (HM_wd.out _ WD_W13.out) (fun _ => ?_)
            clear hK K
            try simp only [Act.put, List.setIfInBounds_toArray, List.set_cons_zero, List.set_cons_succ]
            clear r4 r5
            refine wpAnyH_take (i := 5) (v := ?_) (oper_at (r := _) rfl) (by kernel_rfl) (by kernel_rfl) (by kernel_rfl) (fun _ _ _ h => h) (Or.inl ⟨by rfl, ?_⟩) (by assumption) ?_
            rotate_left
            · intro w hSw; try dsimp only at hSw
              go_simp
              try with_reducible rfl
            try simp only [Act.put, List.setIfInBounds_toArray, List.set_cons_zero, List.set_cons_succ]
            refine wpAnyH_take (i := 6) (v := ?_) (oper_at (r := _) rfl) (by kernel_rfl) (by kernel_rfl) (by kernel_rfl) (fun _ _ _ h => h) (Or.inl ⟨by rfl, ?_⟩) (by assumption) ?_
            rotate_left
            · intro w hSw; try dsimp only at hSw
              go_simp
              try with_reducible rfl
            try simp only [Act.put, List.setIfInBounds_toArray, List.set_cons_zero, List.set_cons_succ]
            refine wpAnyH_take (i := 7) (v := ?_) (oper_at (r := _) rfl) (by kernel_rfl) (by kernel_rfl) (by kernel_rfl) (fun _ _ _ h => h) (Or.inl ⟨by rfl, ?_⟩) (by assumption) ?_
            rotate_left
            · intro w hSw; try dsimp only at hSw
              go_simp
              try with_reducible rfl
            try simp only [Act.put, List.setIfInBounds_toArray, List.set_cons_zero, List.set_cons_succ]
            refine wpAnyH_take (i := 8) (v := ?_) (oper_at (r := _) rfl) (by kernel_rfl) (by kernel_rfl) (by kernel_rfl) (fun _ _ _ h => h) (Or.inl ⟨by rfl, ?_⟩) (by assumption) ?_
            rotate_left
            · intro w hSw; try dsimp only at hSw
              go_simp
              try with_reducible rfl
            try simp only [Act.put, List.setIfInBounds_toArray, List.set_cons_zero, List.set_cons_succ]
            refine wpAnyH_ready (rs := [10]) (by kernel_rfl) (by simp) ?_
            refine AllReadyH.cons (oper_at (r := _) rfl) (fun K hK => ?_) AllReadyH.nil
            obtain ⟨gy, hg⟩ : ∃ g, g = W13.heap.size := ⟨_, rfl⟩
            have lgy : wd.heap.size ≤ gy := by rw [hg]; exact WD_W13.out.size
            have ngygx : gx ≠ gy := by have := BA_W13.out.lt; omega
            have ngxgy : gy ≠ gx := Ne.symm ngygx
            have hx : BX gy (.slice none 0 0) (.slice none 0 0) 30 (W13.alloc (.cells #[.slice none 0 0, .slice none 0 0] 30)) := by rw [hg]; exact heap_alloc_new _ _
            have hb : Below W13.heap.size W13 (W13.alloc (.cells #[.slice none 0 0, .slice none 0 0] 30)) := (Below.refl _ _).alloc (Nat.le_refl _) _
            have S_W14 := Lib.hid (S_W13.out.up hb)
            have WD_W14 := Lib.hid (WD_W13.out.trans (hb.mono WD_W13.out.size))
            have BA_W14 := Lib.hid (BA_W13.out.up hb)
            have GQ_W14 := Lib.hid (GQ_W13.out.up hb)
            have R1_W14 := Lib.hid (Reads.up R1_W13.out hb)
            have R2_W14 := Lib.hid (Reads.up R2_W13.out hb)
            have LN_W14 := Lib.hid (LN_W13.out)
            clear S_W13 WD_W13 BA_W13 GQ_W13 R1_W13 R2_W13 LN_W13
            have BB_W14 := Lib.hid hx
            clear hx hb
            go_simp
            refine hK.out _ _ (HM_wd.out _ WD_W14.out) (fun _ => ?_)
            clear hK K
            try simp only [Act.put, List.setIfInBounds_toArray, List.set_cons_zero, List.set_cons_succ]
            generalize W13.alloc (.cells #[.slice none 0 0, .slice none 0 0] 30) = W14 at *
            try rw [← hg]
            clear hg
            refine wpAnyH_ready (rs := [11]) (by kernel_rfl) (by simp) ?_
            refine AllReadyH.cons (oper_at (r := _) rfl) (fun K hK => ?_) AllReadyH.nil
            have fr0 := BA_W14.out.free 0
            have fr1 := BA_W14.out.free 1
            obtain ⟨e0, e1⟩ := BA_W14.out.cells
            go_simp
            clear fr0 fr1 e0 e1
            have S_W15 := Lib.hid (S_W14.out.set (g := gx) (by simp; omega) (.slice Gn Q.ns.length gn) (.slice Ge Q.es.length ge))
            have WD_W15 := Lib.hid ((WD_W14.out.setCell (p := ⟨gx, 0, none⟩) (by show wd.heap.size ≤ gx; omega) (.slice Gn Q.ns.length gn)).setCell (p := ⟨gx, 1, none⟩) (by show wd.heap.size ≤ gx; omega) (.slice Ge Q.es.length ge))
            have BA_W15 := Lib.hid (BA_W14.out.put (.slice Gn Q.ns.length gn) (.slice Ge Q.es.length ge))
            have GQ_W15 := Lib.hid (grAt_set GQ_W14.out BA_W14.out (.slice Gn Q.ns.length gn) (.slice Ge Q.es.length ge))
            have R1_W15 := Lib.hid (ints_set' R1_W14.out BA_W14.out (.slice Gn Q.ns.length gn) (.slice Ge Q.es.length ge))
            have R2_W15 := Lib.hid (ints_set' R2_W14.out BA_W14.out (.slice Gn Q.ns.length gn) (.slice Ge Q.es.length ge))
            have LN_W15 := Lib.hid (LN_W14.out)
            have BB_W15 := Lib.hid (BB_W14.out.far ngxgy (.slice Gn Q.ns.length gn) (.slice Ge Q.es.length ge))
            clear S_W14 WD_W14 BA_W14 GQ_W14 R1_W14 R2_W14 LN_W14 BB_W14
            refine hK.out _ _ (HM_wd.out _ WD_W15.out) (fun _ => ?_)
            clear hK K
            try simp only [Act.put, List.setIfInBounds_toArray, List.set_cons_zero, List.set_cons_succ]
            generalize (W14.setCell ⟨gx, 0, none⟩ (.slice Gn Q.ns.length gn)).setCell ⟨gx, 1, none⟩ (.slice Ge Q.es.length ge) = W15 at *
            refine wpAnyH_ready (rs := [12]) (by kernel_rfl) (by simp) ?_
            refine AllReadyH.cons (oper_at (r := _) rfl) (fun K hK => ?_) AllReadyH.nil
            have fr0 := BB_W15.out.free 0
            have fr1 := BB_W15.out.free 1
            obtain ⟨e0, e1⟩ := BB_W15.out.cells
            go_simp
            clear fr0 fr1 e0 e1
            have S_W16 := Lib.hid (S_W15.out.set (g := gy) (by simp; omega) (.slice Xn R.ns.length xn) (.slice Xe R.es.length xe))
            have WD_W16 := Lib.hid ((WD_W15.out.setCell (p := ⟨gy, 0, none⟩) (by show wd.heap.size ≤ gy; omega) (.slice Xn R.ns.length xn)).setCell (p := ⟨gy, 1, none⟩) (by show wd.heap.size ≤ gy; omega) (.slice Xe R.es.length xe))
            have BA_W16 := Lib.hid (BA_W15.out.far ngygx (.slice Xn R.ns.length xn) (.slice Xe R.es.length xe))
            have GQ_W16 := Lib.hid (grAt_set GQ_W15.out BB_W15.out (.slice Xn R.ns.length xn) (.slice Xe R.es.length xe))
            have R1_W16 := Lib.hid (ints_set' R1_W15.out BB_W15.out (.slice Xn R.ns.length xn) (.slice Xe R.es.length xe))
            have R2_W16 := Lib.hid (ints_set' R2_W15.out BB_W15.out (.slice Xn R.ns.length xn) (.slice Xe R.es.length xe))
            have LN_W16 := Lib.hid (LN_W15.out)
            have BB_W16 := Lib.hid (BB_W15.out.put (.slice Xn R.ns.length xn) (.slice Xe R.es.length xe))
            clear S_W15 WD_W15 BA_W15 GQ_W15 R1_W15 R2_W15 LN_W15 BB_W15
            refine hK.out _ _ (HM_wd.out _ WD_W16.out) (fun _ => ?_)
            clear hK K
            try simp only [Act.put, List.setIfInBounds_toArray, List.set_cons_zero, List.set_cons_succ]
            generalize (W15.setCell ⟨gy, 0, none⟩ (.slice Xn R.ns.length xn)).setCell ⟨gy, 1, none⟩ (.slice Xe R.es.length xe) = W16 at *
            refine wpAnyH_take (i := 13) (v := ?_) (oper_at (r := _) rfl) (by kernel_rfl) (by kernel_rfl) (by kernel_rfl) (fun _ _ _ h => h) (Or.inl ⟨by rfl, ?_⟩) (by assumption) ?_
            rotate_left
            · intro w hSw; try dsimp only at hSw
              go_simp
              try with_reducible rfl
            try simp only [Act.put, List.setIfInBounds_toArray, List.set_cons_zero, List.set_cons_succ]
            refine wpAnyH_done (by kernel_rfl) ?_ _
            refine NoPanic.normal ?_
            go_wp2_with fail
            go_meet
            exact ⟨gx, gy, Gn, gn, Ge, ge, Xn, xn, Xe, xe, rfl, rfl, rfl, BA_W16.out, BB_W16.out, GQ_W16.out, R1_W16.out, R2_W16.out, LN_W16.out, S_W16.out⟩
          · skip
            obtain ⟨gy, hg⟩ : ∃ g, g = W12.heap.size := ⟨_, rfl⟩
            have lgy : wd.heap.size ≤ gy := by rw [hg]; exact WD_W12.out.size
            have ngygx : gx ≠ gy := by have := BA_W12.out.lt; omega
            have ngxgy : gy ≠ gx := Ne.symm ngygx
            have hx : BX gy (.slice none 0 0) (.slice none 0 0) 30 (W12.alloc (.cells #[.slice none 0 0, .slice none 0 0] 30)) := by rw [hg]; exact heap_alloc_new _ _
            have hb : Below W12.heap.size W12 (W12.alloc (.cells #[.slice none 0 0, .slice none 0 0] 30)) := (Below.refl _ _).alloc (Nat.le_refl _) _
            have S_W17 := Lib.hid (S_W12.out.up hb)
            have WD_W17 := Lib.hid (WD_W12.out.trans (hb.mono WD_W12.out.size))
            have GR_W17 := Lib.hid (GR_W12.out.up hb)
            have PA_W17 := Lib.hid (PA_W12.out.up hb)
            have BA_W17 := Lib.hid (BA_W12.out.up hb)
            clear S_W12 WD_W12 GR_W12 PA_W12 BA_W12
            have BB_W17 := Lib.hid hx
            clear hx hb
            go_simp
            refine hK.out _ _ (HM_wd.out _ WD_W17.out) (fun _ => ?_)
            clear hK K
            try simp only [Act.put, List.setIfInBounds_toArray, List.set_cons_zero, List.set_cons_succ]
            generalize W12.alloc (.cells #[.slice none 0 0, .slice none 0 0] 30) = W17 at *
            try rw [← hg]
            clear hg
            refine wpAnyH_ready (rs := [4]) (by kernel_rfl) (by simp) ?_
            refine AllReadyH.cons (oper_at (r := _) rfl) (fun K hK => ?_) AllReadyH.nil
            go_simp
            refine (HE1.out G1 k1 G2 k2 K1 k3 K2 k4 _ GR_W17.out PA_W17.out).mono ?_
            rintro e W18 ⟨⟨Gn, gn, Ge, ge, Xn, xn, Xe, xe, rfl, r1, r2, r3, r4, r5⟩, hb⟩
            have S_W18 := Lib.hid (S_W17.out.up hb)
            have WD_W18 := Lib.hid (WD_W17.out.trans (hb.mono WD_W17.out.size))
            have GR_W18 := Lib.hid (GR_W17.out.up hb)
            have PA_W18 := Lib.hid (PA_W17.out.up hb)
            have BA_W18 := Lib.hid (BA_W17.out.up hb)
            have BB_W18 := Lib.hid (BB_W17.out.up hb)
            clear S_W17 WD_W17 GR_W17 PA_W17 BA_W17 BB_W17
            have GQ_W18 := Lib.hid r1
            have R1_W18 := Lib.hid r2
            have R2_W18 := Lib.hid r3
            have LN_W18 := Lib.hid (And.intro r4 r5)
            clear hb r1 r2 r3
            go_wp2_with fail
            refine hK.out _ _ (HM_wd.out _ WD_W18.out) (fun _ => ?_)
            clear hK K
            try simp only [Act.put, List.setIfInBounds_toArray, List.set_cons_zero, List.set_cons_succ]
            clear r4 r5
            refine wpAnyH_take (i := 5) (v := ?_) (oper_at (r := _) rfl) (by kernel_rfl) (by kernel_rfl) (by kernel_rfl) (fun _ _ _ h => h) (Or.inl ⟨by rfl, ?_⟩) (by assumption) ?_
            rotate_left
            · intro w hSw; try dsimp only at hSw
              go_simp
              try with_reducible rfl
            try simp only [Act.put, List.setIfInBounds_toArray, List.set_cons_zero, List.set_cons_succ]
            refine wpAnyH_take (i := 6) (v := ?_) (oper_at (r := _) rfl) (by kernel_rfl) (by kernel_rfl) (by kernel_rfl) (fun _ _ _ h => h) (Or.inl ⟨by rfl, ?_⟩) (by assumption) ?_
            rotate_left
            · intro w hSw; try dsimp only at hSw
              go_simp
              try with_reducible rfl
            try simp only [Act.put, List.setIfInBounds_toArray, List.set_cons_zero, List.set_cons_succ]
            refine wpAnyH_take (i := 7) (v := ?_) (oper_at (r := _) rfl) (by kernel_rfl) (by kernel_rfl) (by kernel_rfl) (fun _ _ _ h => h) (Or.inl ⟨by rfl, ?_⟩) (by assumption) ?_
            rotate_left
            · intro w hSw; try dsimp only at hSw
              go_simp
              try with_reducible rfl
            try simp only [Act.put, List.setIfInBounds_toArray, List.set_cons_zero, List.set_cons_succ]
            refine wpAnyH_take (i := 8) (v := ?_) (oper_at (r := _) rfl) (by kernel_rfl) (by kernel_rfl) (by kernel_rfl) (fun _ _ _ h => h) (Or.inl ⟨by rfl, ?_⟩) (by assumption) ?_
            rotate_left
            · intro w hSw; try dsimp only at hSw
              go_simp
              try with_reducible rfl
            try simp only [Act.put, List.setIfInBounds_toArray, List.set_cons_zero, List.set_cons_succ]
            refine wpAnyH_ready (rs := [11]) (by kernel_rfl) (by simp) ?_
            refine AllReadyH.cons (oper_at (r := _) rfl) (fun K hK => ?_) AllReadyH.nil
            have fr0 := BA_W18.out.free 0
            have fr1 := BA_W18.out.free 1
            obtain ⟨e0, e1⟩ := BA_W18.out.cells
            go_simp
            clear fr0 fr1 e0 e1
            have S_W19 := Lib.hid (S_W18.out.set (g := gx) (by simp; omega) (.slice Gn Q.ns.length gn) (.slice Ge Q.es.length ge))
            have WD_W19 := Lib.hid ((WD_W18.out.setCell (p := ⟨gx, 0, none⟩) (by show wd.heap.size ≤ gx; omega) (.slice Gn Q.ns.length gn)).setCell (p := ⟨gx, 1, none⟩) (by show wd.heap.size ≤ gx; omega) (.slice Ge Q.es.length ge))
            have BA_W19 := Lib.hid (BA_W18.out.put (.slice Gn Q.ns.length gn) (.slice Ge Q.es.length ge))
            have BB_W19 := Lib.hid (BB_W18.out.far ngxgy (.slice Gn Q.ns.length gn) (.slice Ge Q.es.length ge))
            have GQ_W19 := Lib.hid (grAt_set GQ_W18.out BA_W18.out (.slice Gn Q.ns.length gn) (.slice Ge Q.es.length ge))
            have R1_W19 := Lib.hid (ints_set' R1_W18.out BA_W18.out (.slice Gn Q.ns.length gn) (.slice Ge Q.es.length ge))
            have R2_W19 := Lib.hid (ints_set' R2_W18.out BA_W18.out (.slice Gn Q.ns.length gn) (.slice Ge Q.es.length ge))
            have LN_W19 := Lib.hid (LN_W18.out)
            clear S_W18 WD_W18 BA_W18 BB_W18 GQ_W18 R1_W18 R2_W18 LN_W18
            refine hK.out _ _ (HM_wd.out _ WD_W19.out) (fun _ => ?_)
            clear hK K
            try simp only [Act.put, List.setIfInBounds_toArray, List.set_cons_zero, List.set_cons_succ]
            generalize (W18.setCell ⟨gx, 0, none⟩ (.slice Gn Q.ns.length gn)).setCell ⟨gx, 1, none⟩ (.slice Ge Q.es.length ge) = W19 at *
            refine wpAnyH_ready (rs := [12]) (by kernel_rfl) (by simp) ?_
            refine AllReadyH.cons (oper_at (r := _) rfl) (fun K hK => ?_) AllReadyH.nil
            have fr0 := BB_W19.out.free 0
            have fr1 := BB_W19.out.free 1
            obtain ⟨e0, e1⟩ := BB_W19.out.cells
            go_simp
            clear fr0 fr1 e0 e1
            have S_W20 := Lib.hid (S_W19.out.set (g := gy) (by simp; omega) (.slice Xn R.ns.length xn) (.slice Xe R.es.length xe))
            have WD_W20 := Lib.hid ((WD_W19.out.setCell (p := ⟨gy, 0, none⟩) (by show wd.heap.size ≤ gy; omega) (.slice Xn R.ns.length xn)).setCell (p := ⟨gy, 1, none⟩) (by show wd.heap.size ≤ gy; omega) (.slice Xe R.es.length xe))
            have BA_W20 := Lib.hid (BA_W19.out.far ngygx (.slice Xn R.ns.length xn) (.slice Xe R.es.length xe))
            have BB_W20 := Lib.hid (BB_W19.out.put (.slice Xn R.ns.length xn) (.slice Xe R.es.length xe))
            have GQ_W20 := Lib.hid (grAt_set GQ_W19.out BB_W19.out (.slice Xn R.ns.length xn) (.slice Xe R.es.length xe))
            have R1_W20 := Lib.hid (ints_set' R1_W19.out BB_W19.out (.slice Xn R.ns.length xn) (.slice Xe R.es.length xe))
            have R2_W20 := Lib.hid (ints_set' R2_W19.out BB_W19.out (.slice Xn R.ns.length xn) (.slice Xe R.es.length xe))
            have LN_W20 := Lib.hid (LN_W19.out)
            clear S_W19 WD_W19 BA_W19 BB_W19 GQ_W19 R1_W19 R2_W19 LN_W19
            refine hK.out _ _ (HM_wd.out _ WD_W20.out) (fun _ => ?_)
            clear hK K
            try simp only [Act.put, List.setIfInBounds_toArray, List.set_cons_zero, List.set_cons_succ]
            generalize (W19.setCell ⟨gy, 0, none⟩ (.slice Xn R.ns.length xn)).setCell ⟨gy, 1, none⟩ (.slice Xe R.es.length xe) = W20 at *
            refine wpAnyH_take (i := 13) (v := ?_) (oper_at (r := _) rfl) (by kernel_rfl) (by kernel_rfl) (by kernel_rfl) (fun _ _ _ h => h) (Or.inl ⟨by rfl, ?_⟩) (by assumption) ?_
            rotate_left
            · intro w hSw; try dsimp only at hSw
              go_simp
              try with_reducible rfl
            try simp only [Act.put, List.setIfInBounds_toArray, List.set_cons_zero, List.set_cons_succ]
            refine wpAnyH_done (by kernel_rfl) ?_ _
            refine NoPanic.normal ?_
            go_wp2_with fail
            go_meet
            exact ⟨gx, gy, Gn, gn, Ge, ge, Xn, xn, Xe, xe, rfl, rfl, rfl, BA_W20.out, BB_W20.out, GQ_W20.out, R1_W20.out, R2_W20.out, LN_W20.out, S_W20.out⟩
        · skip
          obtain ⟨gy, hg⟩ : ∃ g, g = W2.heap.size := ⟨_, rfl⟩
          have lgy : wd.heap.size ≤ gy := by rw [hg]; exact WD_W2.out.size
          have hx : BX gy (.slice none 0 0) (.slice none 0 0) 30 (W2.alloc (.cells #[.slice none 0 0, .slice none 0 0] 30)) := by rw [hg]; exact heap_alloc_new _ _
          have hb : Below W2.heap.size W2 (W2.alloc (.cells #[.slice none 0 0, .slice none 0 0] 30)) := (Below.refl _ _).alloc (Nat.le_refl _) _
          have S_W21 := Lib.hid (S_W2.out.up hb)
          have WD_W21 := Lib.hid (WD_W2.out.trans (hb.mono WD_W2.out.size))
          have GR_W21 := Lib.hid (GR_W2.out.up hb)
          have PA_W21 := Lib.hid (PA_W2.out.up hb)
          clear S_W2 WD_W2 GR_W2 PA_W2
          have BB_W21 := Lib.hid hx
          clear hx hb
          go_simp
          refine hK.out _ _ (HM_wd.out _ WD_W21.out) (fun _ => ?_)
          clear hK K
          try simp only [Act.put, List.setIfInBounds_toArray, List.set_cons_zero, List.set_cons_succ]
          generalize W2.alloc (.cells #[.slice none 0 0, .slice none 0 0] 30) = W21 at *
          try rw [← hg]
          clear hg
          refine wpAnyH_ready (rs := [4, 9]) (by kernel_rfl) (by simp) ?_
          refine (AllReadyH.cons (oper_at (r := _) rfl) (fun K hK => ?_) (AllReadyH.cons (oper_at (r := _) rfl) (fun K hK => ?_) AllReadyH.nil))
          · skip
            go_simp
            refine (HE1.out G1 k1 G2 k2 K1 k3 K2 k4 _ GR_W21.out PA_W21.out).mono ?_
            rintro e W22 ⟨⟨Gn, gn, Ge, ge, Xn, xn, Xe, xe, rfl, r1, r2, r3, r4, r5⟩, hb⟩
            have S_W22 := Lib.hid (S_W21.out.up hb)
            have WD_W22 := Lib.hid (WD_W21.out.trans (hb.mono WD_W21.out.size))
            have GR_W22 := Lib.hid (GR_W21.out.up hb)
            have PA_W22 := Lib.hid (PA_W21.out.up hb)
            have BB_W22 := Lib.hid (BB_W21.out.up hb)
            clear S_W21 WD_W21 GR_W21 PA_W21 BB_W21
            have GQ_W22 := Lib.hid r1
            have R1_W22 := Lib.hid r2
            have R2_W22 := Lib.hid r3
            have LN_W22 := Lib.hid (And.intro r4 r5)
            clear hb r1 r2 r3
            go_wp2_with fail
            refine hK.out _ _ (HM_wd.out _ WD_W22.out) (fun _ => ?_)
            clear hK K
            try simp only [Act.put, List.setIfInBounds_toArray, List.set_cons_zero, List.set_cons_succ]
            clear r4 r5
            refine wpAnyH_take (i := 5) (v := ?_) (oper_at (r := _) rfl) (by kernel_rfl) (by kernel_rfl) (by kernel_rfl) (fun _ _ _ h => h) (Or.inl ⟨by rfl, ?_⟩) (by assumption) ?_
            rotate_left
            · intro w hSw; try dsimp only at hSw
              go_simp
              try with_reducible rfl
            try simp only [Act.put, List.setIfInBounds_toArray, List.set_cons_zero, List.set_cons_succ]
            refine wpAnyH_take (i := 6) (v := ?_) (oper_at (r := _) rfl) (by kernel_rfl) (by kernel_rfl) (by kernel_rfl) (fun _ _ _ h => h) (Or.inl ⟨by rfl, ?_⟩) (by assumption) ?_
            rotate_left
            · intro w hSw; try dsimp only at hSw
              go_simp
              try with_reducible rfl
            try simp only [Act.put, List.setIfInBounds_toArray, List.set_cons_zero, List.set_cons_succ]
            refine wpAnyH_take (i := 7) (v := ?_) (oper_at (r := _) rfl) (by kernel_rfl) (by kernel_rfl) (by kernel_rfl) (fun _ _ _ h => h) (Or.inl ⟨by rfl, ?_⟩) (by assumption) ?_
            rotate_left
            · intro w hSw; try dsimp only at hSw
              go_simp
              try with_reducible rfl
            try simp only [Act.put, List.setIfInBounds_toArray, List.set_cons_zero, List.set_cons_succ]
            refine wpAnyH_take (i := 8) (v := ?_) (oper_at (r := _) rfl) (by kernel_rfl) (by kernel_rfl) (by kernel_rfl) (fun _ _ _ h => h) (Or.inl ⟨by rfl, ?_⟩) (by assumption) ?_
            rotate_left
            · intro w hSw; try dsimp only at hSw
              go_simp
              try with_reducible rfl
            try simp only [Act.put, List.setIfInBounds_toArray, List.set_cons_zero, List.set_cons_succ]
            refine wpAnyH_ready (rs := [9]) (by kernel_rfl) (by simp) ?_
            refine AllReadyH.cons (oper_at (r := _) rfl) (fun K hK => ?_) AllReadyH.nil
            obtain ⟨gx, hg⟩ : ∃ g, g = W22.heap.size := ⟨_, rfl⟩
            have lgx : wd.heap.size ≤ gx := by rw [hg]; exact WD_W22.out.size
            have ngxgy : gy ≠ gx := by have := BB_W22.out.lt; omega
            have ngygx : gx ≠ gy := Ne.symm ngxgy
            have hx : BX gx (.slice none 0 0) (.slice none 0 0) 25 (W22.alloc (.cells #[.slice none 0 0, .slice none 0 0] 25)) := by rw [hg]; exact heap_alloc_new _ _
            have hb : Below W22.heap.size W22 (W22.alloc (.cells #[.slice none 0 0, .slice none 0 0] 25)) := (Below.refl _ _).alloc (Nat.le_refl _) _
            have S_W23 := Lib.hid (S_W22.out.up hb)
            have WD_W23 := Lib.hid (WD_W22.out.trans (hb.mono WD_W22.out.size))
            have BB_W23 := Lib.hid (BB_W22.out.up hb)
            have GQ_W23 := Lib.hid (GQ_W22.out.up hb)
            have R1_W23 := Lib.hid (Reads.up R1_W22.out hb)
            have R2_W23 := Lib.hid (Reads.up R2_W22.out hb)
            have LN_W23 := Lib.hid (LN_W22.out)
            clear S_W22 WD_W22 BB_W22 GQ_W22 R1_W22 R2_W22 LN_W22
            have BA_W23 := Lib.hid hx
            clear hx hb
            go_simp
            refine hK.out _ _ (HM_wd.out _ WD_W23.out) (fun _ => ?_)
            clear hK K
            try simp only [Act.put, List.setIfInBounds_toArray, List.set_cons_zero, List.set_cons_succ]
            generalize W22.alloc (.cells #[.slice none 0 0, .slice none 0 0] 25) = W23 at *
            try rw [← hg]
            clear hg
            refine wpAnyH_ready (rs := [11]) (by kernel_rfl) (by simp) ?_
            refine AllReadyH.cons (oper_at (r := _) rfl) (fun K hK => ?_) AllReadyH.nil
            have fr0 := BA_W23.out.free 0
            have fr1 := BA_W23.out.free 1
            obtain ⟨e0, e1⟩ := BA_W23.out.cells
            go_simp
            clear fr0 fr1 e0 e1
            have S_W24 := Lib.hid (S_W23.out.set (g := gx) (by simp; omega) (.slice Gn Q.ns.length gn) (.slice Ge Q.es.length ge))
            have WD_W24 := Lib.hid ((WD_W23.out.setCell (p := ⟨gx, 0, none⟩) (by show wd.heap.size ≤ gx; omega) (.slice Gn Q.ns.length gn)).setCell (p := ⟨gx, 1, none⟩) (by show wd.heap.size ≤ gx; omega) (.slice Ge Q.es.length ge))
            have BB_W24 := Lib.hid (BB_W23.out.far ngxgy (.slice Gn Q.ns.length gn) (.slice Ge Q.es.length ge))
            have GQ_W24 := Lib.hid (grAt_set GQ_W23.out BA_W23.out (.slice Gn Q.ns.length gn) (.slice Ge Q.es.length ge))
            have R1_W24 := Lib.hid (ints_set' R1_W23.out BA_W23.out (.slice Gn Q.ns.length gn) (.slice Ge Q.es.length ge))
            have R2_W24 := Lib.hid (ints_set' R2_W23.out BA_W23.out (.slice Gn Q.ns.length gn) (.slice Ge Q.es.length ge))
            have LN_W24 := Lib.hid (LN_W23.out)
            have BA_W24 := Lib.hid (BA_W23.out.put (.slice Gn Q.ns.length gn) (.slice Ge Q.es.length ge))
            clear S_W23 WD_W23 BB_W23 GQ_W23 R1_W23 R2_W23 LN_W23 BA_W23
            refine hK.out _ _ (HM_wd.out _ WD_W24.out) (fun _ => ?_)
            clear hK K
            try simp only [Act.put, List.setIfInBounds_toArray, List.set_cons_zero, List.set_cons_succ]
            generalize (W23.setCell ⟨gx, 0, none⟩ (.slice Gn Q.ns.length gn)).setCell ⟨gx, 1, none⟩ (.slice Ge Q.es.length ge) = W24 at *
            refine wpAnyH_ready (rs := [12]) (by kernel_rfl) (by simp) ?_
            refine AllReadyH.cons (oper_at (r := _) rfl) (fun K hK => ?_) AllReadyH.nil
            have fr0 := BB_W24.out.free 0
            have fr1 := BB_W24.out.free 1
            obtain ⟨e0, e1⟩ := BB_W24.out.cells
            go_simp
            clear fr0 fr1 e0 e1
            have S_W25 := Lib.hid (S_W24.out.set (g := gy) (by simp; omega) (.slice Xn R.ns.length xn) (.slice Xe R.es.length xe))
            have WD_W25 := Lib.hid ((WD_W24.out.setCell (p := ⟨gy, 0, none⟩) (by show wd.heap.size ≤ gy; omega) (.slice Xn R.ns.length xn)).setCell (p := ⟨gy, 1, none⟩) (by show wd.heap.size ≤ gy; omega) (.slice Xe R.es.length xe))
            have BB_W25 := Lib.hid (BB_W24.out.put (.slice Xn R.ns.length xn) (.slice Xe R.es.length xe))
            have GQ_W25 := Lib.hid (grAt_set GQ_W24.out BB_W24.out (.slice Xn R.ns.length xn) (.slice Xe R.es.length xe))
            have R1_W25 := Lib.hid (ints_set' R1_W24.out BB_W24.out (.slice Xn R.ns.length xn) (.slice Xe R.es.length xe))
            have R2_W25 := Lib.hid (ints_set' R2_W24.out BB_W24.out (.slice Xn R.ns.length xn) (.slice Xe R.es.length xe))
            have LN_W25 := Lib.hid (LN_W24.out)
            have BA_W25 := Lib.hid (BA_W24.out.far ngygx (.slice Xn R.ns.length xn) (.slice Xe R.es.length xe))
            clear S_W24 WD_W24 BB_W24 GQ_W24 R1_W24 R2_W24 LN_W24 BA_W24
            refine hK.out _ _ (HM_wd.out _ WD_W25.out) (fun _ => ?_)
            clear hK K
            try simp only [Act.put, List.setIfInBounds_toArray, List.set_cons_zero, List.set_cons_succ]
            generalize (W24.setCell ⟨gy, 0, none⟩ (.slice Xn R.ns.length xn)).setCell ⟨gy, 1, none⟩ (.slice Xe R.es.length xe) = W25 at *
            refine wpAnyH_take (i := 13) (v := ?_) (oper_at (r := _) rfl) (by kernel_rfl) (by kernel_rfl) (by kernel_rfl) (fun _ _ _ h => h) (Or.inl ⟨by rfl, ?_⟩) (by assumption) ?_
            rotate_left
            · intro w hSw; try dsimp only at hSw
              go_simp
              try with_reducible rfl
            try simp only [Act.put, List.setIfInBounds_toArray, List.set_cons_zero, List.set_cons_succ]
            refine wpAnyH_done (by kernel_rfl) ?_ _
            refine NoPanic.normal ?_
            go_wp2_with fail
            go_meet
            exact ⟨gx, gy, Gn, gn, Ge, ge, Xn, xn, Xe, xe, rfl, rfl, rfl, BA_W25.out, BB_W25.out, GQ_W25.out, R1_W25.out, R2_W25.out, LN_W25.out, S_W25.out⟩
          · skip
            obtain ⟨gx, hg⟩ : ∃ g, g = W21.heap.size := ⟨_, rfl⟩
            have lgx : wd.heap.size ≤ gx := by rw [hg]; exact WD_W21.out.size
            have ngxgy : gy ≠ gx := by have := BB_W21.out.lt; omega
            have ngygx : gx ≠ gy := Ne.symm ngxgy
            have hx : BX gx (.slice none 0 0) (.slice none 0 0) 25 (W21.alloc (.cells #[.slice none 0 0, .slice none 0 0] 25)) := by rw [hg]; exact heap_alloc_new _ _
            have hb : Below W21.heap.size W21 (W21.alloc (.cells #[.slice none 0 0, .slice none 0 0] 25)) := (Below.refl _ _).alloc (Nat.le_refl _) _
            have S_W26 := Lib.hid (S_W21.out.up hb)
            have WD_W26 := Lib.hid (WD_W21.out.trans (hb.mono WD_W21.out.size))
            have GR_W26 := Lib.hid (GR_W21.out.up hb)
            have PA_W26 := Lib.hid (PA_W21.out.up hb)
            have BB_W26 := Lib.hid (BB_W21.out.up hb)
            clear S_W21 WD_W21 GR_W21 PA_W21 BB_W21
            have BA_W26 := Lib.hid hx
            clear hx hb
            go_simp
            refine hK.out _ _ (HM_wd.out _ WD_W26.out) (fun _ => ?_)
            clear hK K
            try simp only [Act.put, List.setIfInBounds_toArray, List.set_cons_zero, List.set_cons_succ]
            generalize W21.alloc (.cells #[.slice none 0 0, .slice none 0 0] 25) = W26 at *
            try rw [← hg]
            clear hg
            refine wpAnyH_ready (rs := [4]) (by kernel_rfl) (by simp) ?_
            refine AllReadyH.cons (oper_at (r := _) rfl) (fun K hK => ?_) AllReadyH.nil
            go_simp
            refine (HE1.out G1 k1 G2 k2 K1 k3 K2 k4 _ GR_W26.out PA_W26.out).mono ?_
            rintro e W27 ⟨⟨Gn, gn, Ge, ge, Xn, xn, Xe, xe, rfl, r1, r2, r3, r4, r5⟩, hb⟩
            have S_W27 := Lib.hid (S_W26.out.up hb)
            have WD_W27 := Lib.hid (WD_W26.out.trans (hb.mono WD_W26.out.size))
            have GR_W27 := Lib.hid (GR_W26.out.up hb)
            have PA_W27 := Lib.hid (PA_W26.out.up hb)
            have BB_W27 := Lib.hid (BB_W26.out.up hb)
            have BA_W27 := Lib.hid (BA_W26.out.up hb)
            clear S_W26 WD_W26 GR_W26 PA_W26 BB_W26 BA_W26
            have GQ_W27 := Lib.hid r1
            have R1_W27 := Lib.hid r2
            have R2_W27 := Lib.hid r3
            have LN_W27 := Lib.hid (And.intro r4 r5)
            clear hb r1 r2 r3
            go_wp2_with fail
            refine hK.out _ _ (HM_wd.out _ WD_W27.out) (fun _ => ?_)
            clear hK K
            try simp only [Act.put, List.setIfInBounds_toArray, List.set_cons_zero, List.set_cons_succ]
            clear r4 r5
            refine wpAnyH_take (i := 5) (v := ?_) (oper_at (r := _) rfl) (by kernel_rfl) (by kernel_rfl) (by kernel_rfl) (fun _ _ _ h => h) (Or.inl ⟨by rfl, ?_⟩) (by assumption) ?_
            rotate_left
            · intro w hSw; try dsimp only at hSw
              go_simp
              try with_reducible rfl
            try simp only [Act.put, List.setIfInBounds_toArray, List.set_cons_zero, List.set_cons_succ]
            refine wpAnyH_take (i := 6) (v := ?_) (oper_at (r := _) rfl) (by kernel_rfl) (by kernel_rfl) (by kernel_rfl) (fun _ _ _ h => h) (Or.inl ⟨by rfl, ?_⟩) (by assumption) ?_
            rotate_left
            · intro w hSw; try dsimp only at hSw
              go_simp
              try with_reducible rfl
            try simp only [Act.put, List.setIfInBounds_toArray, List.set_cons_zero, List.set_cons_succ]
            refine wpAnyH_take (i := 7) (v := ?_) (oper_at (r := _) rfl) (by kernel_rfl) (by kernel_rfl) (by kernel_rfl) (fun _ _ _ h => h) (Or.inl ⟨by rfl, ?_⟩) (by assumption) ?_
            rotate_left
            · intro w hSw; try dsimp only at hSw
              go_simp
              try with_reducible rfl
            try simp only [Act.put, List.setIfInBounds_toArray, List.set_cons_zero, List.set_cons_succ]
            refine wpAnyH_take (i := 8) (v := ?_) (oper_at (r := _) rfl) (by kernel_rfl) (by kernel_rfl) (by kernel_rfl) (fun _ _ _ h => h) (Or.inl ⟨by rfl, ?_⟩) (by assumption) ?_
            rotate_left
            · intro w hSw; try dsimp only at hSw
              go_simp
              try with_reducible rfl
            try simp only [Act.put, List.setIfInBounds_toArray, List.set_cons_zero, List.set_cons_succ]
            refine wpAnyH_ready (rs := [11]) (by kernel_rfl) (by simp) ?_
            refine AllReadyH.cons (oper_at (r := _) rfl) (fun K hK => ?_) AllReadyH.nil
            have fr0 := BA_W27.out.free 0
            have fr1 := BA_W27.out.free 1
            obtain ⟨e0, e1⟩ := BA_W27.out.cells
            go_simp
            clear fr0 fr1 e0 e1
            have S_W28 := Lib.hid (S_W27.out.set (g := gx) (by simp; omega) (.slice Gn Q.ns.length gn) (.slice Ge Q.es.length ge))
            have WD_W28 := Lib.hid ((WD_W27.out.setCell (p := ⟨gx, 0, none⟩) (by show wd.heap.size ≤ gx; omega) (.slice Gn Q.ns.length gn)).setCell (p := ⟨gx, 1, none⟩) (by show wd.heap.size ≤ gx; omega) (.slice Ge Q.es.length ge))
            have BB_W28 := Lib.hid (BB_W27.out.far ngxgy (.slice Gn Q.ns.length gn) (.slice Ge Q.es.length ge))
            have BA_W28 := Lib.hid (BA_W27.out.put (.slice Gn Q.ns.length gn) (.slice Ge Q.es.length ge))
            have GQ_W28 := Lib.hid (grAt_set GQ_W27.out BA_W27.out (.slice Gn Q.ns.length gn) (.slice Ge Q.es.length ge))
            have R1_W28 := Lib.hid (ints_set' R1_W27.out BA_W27.out (.slice Gn Q.ns.length gn) (.slice Ge Q.es.length ge))
            have R2_W28 := Lib.hid (ints_set' R2_W27.out BA_W27.out (.slice Gn Q.ns.length gn) (.slice Ge Q.es.length ge))
            have LN_W28 := Lib.hid (LN_W27.out)
            clear S_W27 WD_W27 BB_W27 BA_W27 GQ_W27 R1_W27 R2_W27 LN_W27
            refine hK.out _ _ (HM_wd.out _ WD_W28.out) (fun _ => ?_)
            clear hK K
            try simp only [Act.put, List.setIfInBounds_toArray, List.set_cons_zero, List.set_cons_succ]
            generalize (W27.setCell ⟨gx, 0, none⟩ (.slice Gn Q.ns.length gn)).setCell ⟨gx, 1, none⟩ (.slice Ge Q.es.length ge) = W28 at *
            refine wpAnyH_ready (rs := [12]) (by kernel_rfl) (by simp) ?_
            refine AllReadyH.cons (oper_at (r := _) rfl) (fun K hK => ?_) AllReadyH.nil
            have fr0 := BB_W28.out.free 0
            have fr1 := BB_W28.out.free 1
            obtain ⟨e0, e1⟩ := BB_W28.out.cells
            go_simp
            clear fr0 fr1 e0 e1
            have S_W29 := Lib.hid (S_W28.out.set (g := gy) (by simp; omega) (.slice Xn R.ns.length xn) (.slice Xe R.es.length xe))
            have WD_W29 := Lib.hid ((WD_W28.out.setCell (p := ⟨gy, 0, none⟩) (by show wd.heap.size ≤ gy; omega) (.slice Xn R.ns.length xn)).setCell (p := ⟨gy, 1, none⟩) (by show wd.heap.size ≤ gy; omega) (.slice Xe R.es.length xe))
            have BB_W29 := Lib.hid (BB_W28.out.put (.slice Xn R.ns.length xn) (.slice Xe R.es.length xe))
            have BA_W29 := Lib.hid (BA_W28.out.far ngygx (.slice Xn R.ns.length xn) (.slice Xe R.es.length xe))
            have GQ_W29 := Lib.hid (grAt_set GQ_W28.out BB_W28.out (.slice Xn R.ns.length xn) (.slice Xe R.es.length xe))
            have R1_W29 := Lib.hid (ints_set' R1_W28.out BB_W28.out (.slice Xn R.ns.length xn) (.slice Xe R.es.length xe))
            have R2_W29 := Lib.hid (ints_set' R2_W28.out BB_W28.out (.slice Xn R.ns.length xn) (.slice Xe R.es.length xe))
            have LN_W29 := Lib.hid (LN_W28.out)
            clear S_W28 WD_W28 BB_W28 BA_W28 GQ_W28 R1_W28 R2_W28 LN_W28
            refine hK.out _ _ (HM_wd.out _ WD_W29.out) (fun _ => ?_)
            clear hK K
            try simp only [Act.put, List.setIfInBounds_toArray, List.set_cons_zero, List.set_cons_succ]
            generalize (W28.setCell ⟨gy, 0, none⟩ (.slice Xn R.ns.length xn)).setCell ⟨gy, 1, none⟩ (.slice Xe R.es.length xe) = W29 at *
            refine wpAnyH_take (i := 13) (v := ?_) (oper_at (r := _) rfl) (by kernel_rfl) (by kernel_rfl) (by kernel_rfl) (fun _ _ _ h => h) (Or.inl ⟨by rfl, ?_⟩) (by assumption) ?_
            rotate_left
            · intro w hSw; try dsimp only at hSw
              go_simp
              try with_reducible rfl
            try simp only [Act.put, List.setIfInBounds_toArray, List.set_cons_zero, List.set_cons_succ]
            refine wpAnyH_done (by kernel_rfl) ?_ _
            refine NoPanic.normal ?_
            go_wp2_with fail
            go_meet
            exact ⟨gx, gy, Gn, gn, Ge, ge, Xn, xn, Xe, xe, rfl, rfl, rfl, BA_W29.out, BB_W29.out, GQ_W29.out, R1_W29.out, R2_W29.out, LN_W29.out, S_W29.out⟩
      · skip
        obtain ⟨gx, hg⟩ : ∃ g, g = W1.heap.size := ⟨_, rfl⟩
        have lgx : wd.heap.size ≤ gx := by rw [hg]; exact WD_W1.out.size
        have hx : BX gx (.slice none 0 0) (.slice none 0 0) 25 (W1.alloc (.cells #[.slice none 0 0, .slice none 0 0] 25)) := by rw [hg]; exact heap_alloc_new _ _
        have hb : Below W1.heap.size W1 (W1.alloc (.cells #[.slice none 0 0, .slice none 0 0] 25)) := (Below.refl _ _).alloc (Nat.le_refl _) _
        have S_W30 := Lib.hid (S_W1.out.up hb)
        have WD_W30 := Lib.hid (WD_W1.out.trans (hb.mono WD_W1.out.size))
        have GR_W30 := Lib.hid (GR_W1.out.up hb)
        clear S_W1 WD_W1 GR_W1
        have BA_W30 := Lib.hid hx
        clear hx hb
        go_simp
        refine hK.out _ _ (HM_wd.out _ WD_W30.out) (fun _ => ?_)
        clear hK K
        try simp only [Act.put, List.setIfInBounds_toArray, List.set_cons_zero, List.set_cons_succ]
        generalize W1.alloc (.cells #[.slice none 0 0, .slice none 0 0] 25) = W30 at *
        try rw [← hg]
        clear hg
        refine wpAnyH_ready (rs := [3, 10]) (by kernel_rfl) (by simp) ?_
        refine (AllReadyH.cons (oper_at (r := _) rfl) (fun K hK => ?_) (AllReadyH.cons (oper_at (r := _) rfl) (fun K hK => ?_) AllReadyH.nil))
        · skip
          go_simp
          refine (HO19.out _ S_W30.out.1).mono ?_
          rintro e W31 ⟨⟨K1, k3, K2, k4, rfl, r1⟩, hb⟩
          have S_W31 := Lib.hid (S_W30.out.up hb)
          have WD_W31 := Lib.hid (WD_W30.out.trans (hb.mono WD_W30.out.size))
          have GR_W31 := Lib.hid (GR_W30.out.up hb)
          have BA_W31 := Lib.hid (BA_W30.out.up hb)
          clear S_W30 WD_W30 GR_W30 BA_W30
          have PA_W31 := Lib.hid r1
          clear hb r1
          go_wp2_with fail
          refine hK.out _ _ (HM_wd.out _ WD_W31.out) (fun _ => ?_)
          clear hK K
          try simp only [Act.put, List.setIfInBounds_toArray, List.set_cons_zero, List.set_cons_succ]
          refine wpAnyH_ready (rs := [4, 10]) (by kernel_rfl) (by simp) ?_
          refine (AllReadyH.cons (oper_at (r := _) rfl) (fun K hK => ?_) (AllReadyH.cons (oper_at (r := _) rfl) (fun K hK => ?_) AllReadyH.nil))
          · skip
            go_simp
            refine (HE1.out G1 k1 G2 k2 K1 k3 K2 k4 _ GR_W31.out PA_W31.out).mono ?_
            rintro e W32 ⟨⟨Gn, gn, Ge, ge, Xn, xn, Xe, xe, rfl, r1, r2, r3, r4, r5⟩, hb⟩
            have S_W32 := Lib.hid (S_W31.out.up hb)
            have WD_W32 := Lib.hid (WD_W31.out.trans (hb.mono WD_W31.out.size))
            have GR_W32 := Lib.hid (GR_W31.out.up hb)
            have BA_W32 := Lib.hid (BA_W31.out.up hb)
            have PA_W32 := Lib.hid (PA_W31.out.up hb)
            clear S_W31 WD_W31 GR_W31 BA_W31 PA_W31
            have GQ_W32 := Lib.hid r1
            have R1_W32 := Lib.hid r2
            have R2_W32 := Lib.hid r3
            have LN_W32 := Lib.hid (And.intro r4 r5)
            clear hb r1 r2 r3
            go_wp2_with fail
            refine hK.out _ _ (HM_wd.out _ WD_W32.out) (fun _ => ?_)
            clear hK K
            try simp only [Act.put, List.setIfInBounds_toArray, List.set_cons_zero, List.set_cons_succ]
            clear r4 r5
            refine wpAnyH_take (i := 5) (v := ?_) (oper_at (r := _) rfl) (by kernel_rfl) (by kernel_rfl) (by kernel_rfl) (fun _ _ _ h => h) (Or.inl ⟨by rfl, ?_⟩) (by assumption) ?_
            rotate_left
            · intro w hSw; try dsimp only at hSw
              go_simp
              try with_reducible rfl
            try simp only [Act.put, List.setIfInBounds_toArray, List.set_cons_zero, List.set_cons_succ]
            refine wpAnyH_take (i := 6) (v := ?_) (oper_at (r := _) rfl) (by kernel_rfl) (by kernel_rfl) (by kernel_rfl) (fun _ _ _ h => h) (Or.inl ⟨by rfl, ?_⟩) (by assumption) ?_
            rotate_left
            · intro w hSw; try dsimp only at hSw
              go_simp
              try with_reducible rfl
            try simp only [Act.put, List.setIfInBounds_toArray, List.set_cons_zero, List.set_cons_succ]
            refine wpAnyH_take (i := 7) (v := ?_) (oper_at (r := _) rfl) (by kernel_rfl) (by kernel_rfl) (by kernel_rfl) (fun _ _ _ h => h) (Or.inl ⟨by rfl, ?_⟩) (by assumption) ?_
            rotate_left
            · intro w hSw; try dsimp only at hSw
              go_simp
              try with_reducible rfl
            try simp only [Act.put, List.setIfInBounds_toArray, List.set_cons_zero, List.set_cons_succ]
            refine wpAnyH_take (i := 8) (v := ?_) (oper_at (r := _) rfl) (by kernel_rfl) (by kernel_rfl) (by kernel_rfl) (fun _ _ _ h => h) (Or.inl ⟨by rfl, ?_⟩) (by assumption) ?_
            rotate_left
            · intro w hSw; try dsimp only at hSw
              go_simp
              try with_reducible rfl
            try simp only [Act.put, List.setIfInBounds_toArray, List.set_cons_zero, List.set_cons_succ]
            refine wpAnyH_ready (rs := [10]) (by kernel_rfl) (by simp) ?_
            refine AllReadyH.cons (oper_at (r := _) rfl) (fun K hK => ?_) AllReadyH.nil
            obtain ⟨gy, hg⟩ : ∃ g, g = W32.heap.size := ⟨_, rfl⟩
            have lgy : wd.heap.size ≤ gy := by rw [hg]; exact WD_W32.out.size
            have ngygx : gx ≠ gy := by have := BA_W32.out.lt; omega
            have ngxgy : gy ≠ gx := Ne.symm ngygx
            have hx : BX gy (.slice none 0 0) (.slice none 0 0) 30 (W32.alloc (.cells #[.slice none 0 0, .slice none 0 0] 30)) := by rw [hg]; exact heap_alloc_new _ _
            have hb : Below W32.heap.size W32 (W32.alloc (.cells #[.slice none 0 0, .slice none 0 0] 30)) := (Below.refl _ _).alloc (Nat.le_refl _) _
            have S_W33 := Lib.hid (S_W32.out.up hb)
            have WD_W33 := Lib.hid (WD_W32.out.trans (hb.mono WD_W32.out.size))
            have BA_W33 := Lib.hid (BA_W32.out.up hb)
            have GQ_W33 := Lib.hid (GQ_W32.out.up hb)
            have R1_W33 := Lib.hid (Reads.up R1_W32.out hb)
            have R2_W33 := Lib.hid (Reads.up R2_W32.out hb)
            have LN_W33 := Lib.hid (LN_W32.out)
            clear S_W32 WD_W32 BA_W32 GQ_W32 R1_W32 R2_W32 LN_W32
            have BB_W33 := Lib.hid hx
            clear hx hb
            go_simp
            refine hK.out _ _ (HM_wd.out _ WD_W33.out) (fun _ => ?_)
            clear hK K
            try simp only [Act.put, List.setIfInBounds_toArray, List.set_cons_zero, List.set_cons_succ]
            generalize W32.alloc (.cells #[.slice none 0 0, .slice none 0 0] 30) = W33 at *
            try rw [← hg]
            clear hg
            refine wpAnyH_ready (rs := [11]) (by kernel_rfl) (by simp) ?_
            refine AllReadyH.cons (oper_at (r := _) rfl) (fun K hK => ?_) AllReadyH.nil
            have fr0 := BA_W33.out.free 0
            have fr1 := BA_W33.out.free 1
            obtain ⟨e0, e1⟩ := BA_W33.out.cells
            go_simp
            clear fr0 fr1 e0 e1
            have S_W34 := Lib.hid (S_W33.out.set (g := gx) (by simp; omega) (.slice Gn Q.ns.length gn) (.slice Ge Q.es.length ge))
            have WD_W34 := Lib.hid ((WD_W33.out.setCell (p := ⟨gx, 0, none⟩) (by show wd.heap.size ≤ gx; omega) (.slice Gn Q.ns.length gn)).setCell (p := ⟨gx, 1, none⟩) (by show wd.heap.size ≤ gx; omega) (.slice Ge Q.es.length ge))
            have BA_W34 := Lib.hid (BA_W33.out.put (.slice Gn Q.ns.length gn) (.slice Ge Q.es.length ge))
            have GQ_W34 := Lib.hid (grAt_set GQ_W33.out BA_W33.out (.slice Gn Q.ns.length gn) (.slice Ge Q.es.length ge))
            have R1_W34 := Lib.hid (ints_set' R1_W33.out BA_W33.out (.slice Gn Q.ns.length gn) (.slice Ge Q.es.length ge))
            have R2_W34 := Lib.hid (ints_set' R2_W33.out BA_W33.out (.slice Gn Q.ns.length gn) (.slice Ge Q.es.length ge))
            have LN_W34 := Lib.hid (LN_W33.out)
            have BB_W34 := Lib.hid (BB_W33.out.far ngxgy (.slice Gn Q.ns.length gn) (.slice Ge Q.es.length ge))
            clear S_W33 WD_W33 BA_W33 GQ_W33 R1_W33 R2_W33 LN_W33 BB_W33
            refine hK.out _ _ (HM_wd.out _ WD_W34.out) (fun _ => ?_)
            clear hK K
            try simp only [Act.put, List.setIfInBounds_toArray, List.set_cons_zero, List.set_cons_succ]
            generalize (W33.setCell ⟨gx, 0, none⟩ (.slice Gn Q.ns.length gn)).setCell ⟨gx, 1, none⟩ (.slice Ge Q.es.length ge) = W34 at *
            refine wpAnyH_ready (rs := [12]) (by kernel_rfl) (by simp) ?_
            refine AllReadyH.cons (oper_at (r := _) rfl) (fun K hK => ?_) AllReadyH.nil
            have fr0 := BB_W34.out.free 0
            have fr1 := BB_W34.out.free 1
            obtain ⟨e0, e1⟩ := BB_W34.out.cells
            go_simp
            clear fr0 fr1 e0 e1
            have S_W35 := Lib.hid (S_W34.out.set (g := gy) (by simp; omega) (.slice Xn R.ns.length xn) (.slice Xe R.es.length xe))
            have WD_W35 := Lib.hid ((WD_W34.out.setCell (p := ⟨gy, 0, none⟩) (by show wd.heap.size ≤ gy; omega) (.slice Xn R.ns.length xn)).setCell (p := ⟨gy, 1, none⟩) (by show wd.heap.size ≤ gy; omega) (.slice Xe R.es.length xe))
            have BA_W35 := Lib.hid (BA_W34.out.far ngygx (.slice Xn R.ns.length xn) (.slice Xe R.es.length xe))
            have GQ_W35 := Lib.hid (grAt_set GQ_W34.out BB_W34.out (.slice Xn R.ns.length xn) (.slice Xe R.es.length xe))
            have R1_W35 := Lib.hid (ints_set' R1_W34.out BB_W34.out (.slice Xn R.ns.length xn) (.slice Xe R.es.length xe))
            have R2_W35 := Lib.hid (ints_set' R2_W34.out BB_W34.out (.slice Xn R.ns.length xn) (.slice Xe R.es.length xe))
            have LN_W35 := Lib.hid (LN_W34.out)
            have BB_W35 := Lib.hid (BB_W34.out.put (.slice Xn R.ns.length xn) (.slice Xe R.es.length xe))
            clear S_W34 WD_W34 BA_W34 GQ_W34 R1_W34 R2_W34 LN_W34 BB_W34
            refine hK.out _ _ (HM_wd.out _ WD_W35.out) (fun _ => ?_)
            clear hK K
            try simp only [Act.put, List.setIfInBounds_toArray, List.set_cons_zero, List.set_cons_succ]
            generalize (W34.setCell ⟨gy, 0, none⟩ (.slice Xn R.ns.length xn)).setCell ⟨gy, 1, none⟩ (.slice Xe R.es.length xe) = W35 at *
            refine wpAnyH_take (i := 13) (v := ?_) (oper_at (r := _) rfl) (by kernel_rfl) (by kernel_rfl) (by kernel_rfl) (fun _ _ _ h => h) (Or.inl ⟨by rfl, ?_⟩) (by assumption) ?_
            rotate_left
            · intro w hSw; try dsimp only at hSw
              go_simp
              try with_reducible rfl
            try simp only [Act.put, List.setIfInBounds_toArray, List.set_cons_zero, List.set_cons_succ]
            refine wpAnyH_done (by kernel_rfl) ?_ _
            refine NoPanic.normal ?_
            go_wp2_with fail
            go_meet
            exact ⟨gx, gy, Gn, gn, Ge, ge, Xn, xn, Xe, xe, rfl, rfl, rfl, BA_W35.out, BB_W35.out, GQ_W35.out, R1_W35.out, R2_W35.out, LN_W35.out, S_W35.out⟩
          · skip
            obtain ⟨gy, hg⟩ : ∃ g, g = W31.heap.size := ⟨_, rfl⟩
            have lgy : wd.heap.size ≤ gy := by rw [hg]; exact WD_W31.out.size
            have ngygx : gx ≠ gy := by have := BA_W31.out.lt; omega
            have ngxgy : gy ≠ gx := Ne.symm ngygx
            have hx : BX gy (.slice none 0 0) (.slice none 0 0) 30 (W31.alloc (.cells #[.slice none 0 0, .slice none 0 0] 30)) := by rw [hg]; exact heap_alloc_new _ _
            have hb : Below W31.heap.size W31 (W31.alloc (.cells #[.slice none 0 0, .slice none 0 0] 30)) := (Below.refl _ _).alloc (Nat.le_refl _) _
            have S_W36 := Lib.hid (S_W31.out.up hb)
            have WD_W36 := Lib.hid (WD_W31.out.trans (hb.mono WD_W31.out.size))
            have GR_W36 := Lib.hid (GR_W31.out.up hb)
            have BA_W36 := Lib.hid (BA_W31.out.up hb)
            have PA_W36 := Lib.hid (PA_W31.out.up hb)
            clear S_W31 WD_W31 GR_W31 BA_W31 PA_W31
            have BB_W36 := Lib.hid hx
            clear hx hb
            go_simp
            refine hK.out _ _ (HM_wd.out _ WD_W36.out) (fun _ => ?_)
            clear hK K
            try simp only [Act.put, List.setIfInBounds_toArray, List.set_cons_zero, List.set_cons_succ]
            generalize W31.alloc (.cells #[.slice none 0 0, .slice none 0 0] 30) = W36 at *
            try rw [← hg]
            clear hg
            refine wpAnyH_ready (rs := [4]) (by kernel_rfl) (by simp) ?_
            refine AllReadyH.cons (oper_at (r := _) rfl) (fun K hK => ?_) AllReadyH.nil
            go_simp
            refine (HE1.out G1 k1 G2 k2 K1 k3 K2 k4 _ GR_W36.out PA_W36.out).mono ?_
            rintro e W37 ⟨⟨Gn, gn, Ge, ge, Xn, xn, Xe, xe, rfl, r1, r2, r3, r4, r5⟩, hb⟩
            have S_W37 := Lib.hid (S_W36.out.up hb)
            have WD_W37 := Lib.hid (WD_W36.out.trans (hb.mono WD_W36.out.size))
            have GR_W37 := Lib.hid (GR_W36.out.up hb)
            have BA_W37 := Lib.hid (BA_W36.out.up hb)
            have PA_W37 := Lib.hid (PA_W36.out.up hb)
            have BB_W37 := Lib.hid (BB_W36.out.up hb)
            clear S_W36 WD_W36 GR_W36 BA_W36 PA_W36 BB_W36
            have GQ_W37 := Lib.hid r1
            have R1_W37 := Lib.hid r2
            have R2_W37 := Lib.hid r3
            have LN_W37 := Lib.hid (And.intro r4 r5)
            clear hb r1 r2 r3
            go_wp2_with fail
            refine hK.out _ _ (HM_wd.out _ WD_W37.out) (fun _ => ?_)
            clear hK K
            try simp only [Act.put, List.setIfInBounds_toArray, List.set_cons_zero, List.set_cons_succ]
            clear r4 r5
            refine wpAnyH_take (i := 5) (v := ?_) (oper_at (r := _) rfl) (by kernel_rfl) (by kernel_rfl) (by kernel_rfl) (fun _ _ _ h => h) (Or.inl ⟨by rfl, ?_⟩) (by assumption) ?_
            rotate_left
            · intro w hSw; try dsimp only at hSw
              go_simp
              try with_reducible rfl
            try simp only [Act.put, List.setIfInBounds_toArray, List.set_cons_zero, List.set_cons_succ]
            refine wpAnyH_take (i := 6) (v := ?_) (oper_at (r := _) rfl) (by kernel_rfl) (by kernel_rfl) (by kernel_rfl) (fun _ _ _ h => h) (Or.inl ⟨by rfl, ?_⟩) (by assumption) ?_
            rotate_left
            · intro w hSw; try dsimp only at hSw
              go_simp
              try with_reducible rfl
            try simp only [Act.put, List.setIfInBounds_toArray, List.set_cons_zero, List.set_cons_succ]
            refine wpAnyH_take (i := 7) (v := ?_) (oper_at (r := _) rfl) (by kernel_rfl) (by kernel_rfl) (by kernel_rfl) (fun _ _ _ h => h) (Or.inl ⟨by rfl, ?_⟩) (by assumption) ?_
            rotate_left
            · intro w hSw; try dsimp only at hSw
              go_simp
              try with_reducible rfl
            try simp only [Act.put, List.setIfInBounds_toArray, List.set_cons_zero, List.set_cons_succ]
            refine wpAnyH_take (i := 8) (v := ?_) (oper_at (r := _) rfl) (by kernel_rfl) (by kernel_rfl) (by kernel_rfl) (fun _ _ _ h => h) (Or.inl ⟨by rfl, ?_⟩) (by assumption) ?_
            rotate_left
            · intro w hSw; try dsimp only at hSw
              go_simp
              try with_reducible rfl
            try simp only [Act.put, List.setIfInBounds_toArray, List.set_cons_zero, List.set_cons_succ]
            refine wpAnyH_ready (rs := [11]) (by kernel_rfl) (by simp) ?_
            refine AllReadyH.cons (oper_at (r := _) rfl) (fun K hK => ?_) AllReadyH.nil
            have fr0 := BA_W37.out.free 0
            have fr1 := BA_W37.out.free 1
            obtain ⟨e0, e1⟩ := BA_W37.out.cells
            go_simp
            clear fr0 fr1 e0 e1
            have S_W38 := Lib.hid (S_W37.out.set (g := gx) (by simp; omega) (.slice Gn Q.ns.length gn) (.slice Ge Q.es.length ge))
            have WD_W38 := Lib.hid ((WD_W37.out.setCell (p := ⟨gx, 0, none⟩) (by show wd.heap.size ≤ gx; omega) (.slice Gn Q.ns.length gn)).setCell (p := ⟨gx, 1, none⟩) (by show wd.heap.size ≤ gx; omega) (.slice Ge Q.es.length ge))
            have BA_W38 := Lib.hid (BA_W37.out.put (.slice Gn Q.ns.length gn) (.slice Ge Q.es.length ge))
            have BB_W38 := Lib.hid (BB_W37.out.far ngxgy (.slice Gn Q.ns.length gn) (.slice Ge Q.es.length ge))
            have GQ_W38 := Lib.hid (grAt_set GQ_W37.out BA_W37.out (.slice Gn Q.ns.length gn) (.slice Ge Q.es.length ge))
            have R1_W38 := Lib.hid (ints_set' R1_W37.out BA_W37.out (.slice Gn Q.ns.length gn) (.slice Ge Q.es.length ge))
            have R2_W38 := Lib.hid (ints_set' R2_W37.out BA_W37.out (.slice Gn Q.ns.length gn) (.slice Ge Q.es.length ge))
            have LN_W38 := Lib.hid (LN_W37.out)
            clear S_W37 WD_W37 BA_W37 BB_W37 GQ_W37 R1_W37 R2_W37 LN_W37
            refine hK.out _ _ (HM_wd.out _ WD_W38.out) (fun _ => ?_)
            clear hK K
            try simp only [Act.put, List.setIfInBounds_toArray, List.set_cons_zero, List.set_cons_succ]
            generalize (W37.setCell ⟨gx, 0, none⟩ (.slice Gn Q.ns.length gn)).setCell ⟨gx, 1, none⟩ (.slice Ge Q.es.length ge) = W38 at *
            refine wpAnyH_ready (rs := [12]) (by kernel_rfl) (by simp) ?_
            refine AllReadyH.cons (oper_at (r := _) rfl) (fun K hK => ?_) AllReadyH.nil
            have fr0 := BB_W38.out.free 0
            have fr1 := BB_W38.out.free 1
            obtain ⟨e0, e1⟩ := BB_W38.out.cells
            go_simp
            clear fr0 fr1 e0 e1
            have S_W39 := Lib.hid (S_W38.out.set (g := gy) (by simp; omega) (.slice Xn R.ns.length xn) (.slice Xe R.es.length xe))
            have WD_W39 := Lib.hid ((WD_W38.out.setCell (p := ⟨gy, 0, none⟩) (by show wd.heap.size ≤ gy; omega) (.slice Xn R.ns.length xn)).setCell (p := ⟨gy, 1, none⟩) (by show wd.heap.size ≤ gy; omega) (.slice Xe R.es.length xe))
            have BA_W39 := Lib.hid (BA_W38.out.far ngygx (.slice Xn R.ns.length xn) (.slice Xe R.es.length xe))
            have BB_W39 := Lib.hid (BB_W38.out.put (.slice Xn R.ns.length xn) (.slice Xe R.es.length xe))
            have GQ_W39 := Lib.hid (grAt_set GQ_W38.out BB_W38.out (.slice Xn R.ns.length xn) (.slice Xe R.es.length xe))
            have R1_W39 := Lib.hid (ints_set' R1_W38.out BB_W38.out (.slice Xn R.ns.length xn) (.slice Xe R.es.length xe))
            have R2_W39 := Lib.hid (ints_set' R2_W38.out BB_W38.out (.slice Xn R.ns.length xn) (.slice Xe R.es.length xe))
            have LN_W39 := Lib.hid (LN_W38.out)
            clear S_W38 WD_W38 BA_W38 BB_W38 GQ_W38 R1_W38 R2_W38 LN_W38
            refine hK.out _ _ (HM_wd.out _ WD_W39.out) (fun _ => ?_)
            clear hK K
            try simp only [Act.put, List.setIfInBounds_toArray, List.set_cons_zero, List.set_cons_succ]
            generalize (W38.setCell ⟨gy, 0, none⟩ (.slice Xn R.ns.length xn)).setCell ⟨gy, 1, none⟩ (.slice Xe R.es.length xe) = W39 at *
            refine wpAnyH_take (i := 13) (v := ?_) (oper_at (r := _) rfl) (by kernel_rfl) (by kernel_rfl) (by kernel_rfl) (fun _ _ _ h => h) (Or.inl ⟨by rfl, ?_⟩) (by assumption) ?_
            rotate_left
            · intro w hSw; try dsimp only at hSw
              go_simp
              try with_reducible rfl
            try simp only [Act.put, List.setIfInBounds_toArray, List.set_cons_zero, List.set_cons_succ]
            refine wpAnyH_done (by kernel_rfl) ?_ _
            refine NoPanic.normal ?_
            go_wp2_with fail
            go_meet
            exact ⟨gx, gy, Gn, gn, Ge, ge, Xn, xn, Xe, xe, rfl, rfl, rfl, BA_W39.out, BB_W39.out, GQ_W39.out, R1_W39.out, R2_W39.out, LN_W39.out, S_W39.out⟩
        · skip
          obtain ⟨gy, hg⟩ : ∃ g, g = W30.heap.size := ⟨_, rfl⟩
          have lgy : wd.heap.size ≤ gy := by rw [hg]; exact WD_W30.out.size
          have ngygx : gx ≠ gy := by have := BA_W30.out.lt; omega
          have ngxgy : gy ≠ gx := Ne.symm ngygx
          have hx : BX gy (.slice none 0 0) (.slice none 0 0) 30 (W30.alloc (.cells #[.slice none 0 0, .slice none 0 0] 30)) := by rw [hg]; exact heap_alloc_new _ _
          have hb : Below W30.heap.size W30 (W30.alloc (.cells #[.slice none 0 0, .slice none 0 0] 30)) := (Below.refl _ _).alloc (Nat.le_refl _) _
          have S_W40 := Lib.hid (S_W30.out.up hb)
          have WD_W40 := Lib.hid (WD_W30.out.trans (hb.mono WD_W30.out.size))
          have GR_W40 := Lib.hid (GR_W30.out.up hb)
          have BA_W40 := Lib.hid (BA_W30.out.up hb)
          clear S_W30 WD_W30 GR_W30 BA_W30
          have BB_W40 := Lib.hid hx
          clear hx hb
          go_simp
          refine hK.out _ _ (HM_wd.out _ WD_W40.out) (fun _ => ?_)
          clear hK K
          try simp only [Act.put, List.setIfInBounds_toArray, List.set_cons_zero, List.set_cons_succ]
          generalize W30.alloc (.cells #[.slice none 0 0, .slice none 0 0] 30) = W40 at *
          try rw [← hg]
          clear hg
          refine wpAnyH_ready (rs := [3]) (by kernel_rfl) (by simp) ?_
          refine AllReadyH.cons (oper_at (r := _) rfl) (fun K hK => ?_) AllReadyH.nil
          go_simp
          refine (HO19.out _ S_W40.out.1).mono ?_
          rintro e W41 ⟨⟨K1, k3, K2, k4, rfl, r1⟩, hb⟩
          have S_W41 := Lib.hid (S_W40.out.up hb)
          have WD_W41 := Lib.hid (WD_W40.out.trans (hb.mono WD_W40.out.size))
          have GR_W41 := Lib.hid (GR_W40.out.up hb)
          have BA_W41 := Lib.hid (BA_W40.out.up hb)
          have BB_W41 := Lib.hid (BB_W40.out.up hb)
          clear S_W40 WD_W40 GR_W40 BA_W40 BB_W40
          have PA_W41 := Lib.hid r1
          clear hb r1
          go_wp2_with fail
          refine hK.out _ _ (HM_wd.out _ WD_W41.out) (fun _ => ?_)
          clear hK K
          try simp only [Act.put, List.setIfInBounds_toArray, List.set_cons_zero, List.set_cons_succ]
          refine wpAnyH_ready (rs := [4]) (by kernel_rfl) (by simp) ?_
          refine AllReadyH.cons (oper_at (r := _) rfl) (fun K hK => ?_) AllReadyH.nil
          go_simp
          refine (HE1.out G1 k1 G2 k2 K1 k3 K2 k4 _ GR_W41.out PA_W41.out).mono ?_
          rintro e W42 ⟨⟨Gn, gn, Ge, ge, Xn, xn, Xe, xe, rfl, r1, r2, r3, r4, r5⟩, hb⟩
          have S_W42 := Lib.hid (S_W41.out.up hb)
          have WD_W42 := Lib.hid (WD_W41.out.trans (hb.mono WD_W41.out.size))
          have GR_W42 := Lib.hid (GR_W41.out.up hb)
          have BA_W42 := Lib.hid (BA_W41.out.up hb)
          have BB_W42 := Lib.hid (BB_W41.out.up hb)
          have PA_W42 := Lib.hid (PA_W41.out.up hb)
          clear S_W41 WD_W41 GR_W41 BA_W41 BB_W41 PA_W41
          have GQ_W42 := Lib.hid r1
          have R1_W42 := Lib.hid r2
          have R2_W42 := Lib.hid r3
          have LN_W42 := Lib.hid (And.intro r4 r5)
          clear hb r1 r2 r3
          go_wp2_with fail
          refine hK.out _ _ (HM_wd.out _ WD_W42.out) (fun _ => ?_)
          clear hK K
          try simp only [Act.put, List.setIfInBounds_toArray, List.set_cons_zero, List.set_cons_succ]
          clear r4 r5
          refine wpAnyH_take (i := 5) (v := ?_) (oper_at (r := _) rfl) (by kernel_rfl) (by kernel_rfl) (by kernel_rfl) (fun _ _ _ h => h) (Or.inl ⟨by rfl, ?_⟩) (by assumption) ?_
          rotate_left
          · intro w hSw; try dsimp only at hSw
            go_simp
            try with_reducible rfl
          try simp only [Act.put, List.setIfInBounds_toArray, List.set_cons_zero, List.set_cons_succ]
          refine wpAnyH_take (i := 6) (v := ?_) (oper_at (r := _) rfl) (by kernel_rfl) (by kernel_rfl) (by kernel_rfl) (fun _ _ _ h => h) (Or.inl ⟨by rfl, ?_⟩) (by assumption) ?_
          rotate_left
          · intro w hSw; try dsimp only at hSw
            go_simp
            try with_reducible rfl
          try simp only [Act.put, List.setIfInBounds_toArray, List.set_cons_zero, List.set_cons_succ]
          refine wpAnyH_take (i := 7) (v := ?_) (oper_at (r := _) rfl) (by kernel_rfl) (by kernel_rfl) (by kernel_rfl) (fun _ _ _ h => h) (Or.inl ⟨by rfl, ?_⟩) (by assumption) ?_
          rotate_left
          · intro w hSw; try dsimp only at hSw
            go_simp
            try with_reducible rfl
          try simp only [Act.put, List.setIfInBounds_toArray, List.set_cons_zero, List.set_cons_succ]
          refine wpAnyH_take (i := 8) (v := ?_) (oper_at (r := _) rfl) (by kernel_rfl) (by kernel_rfl) (by kernel_rfl) (fun _ _ _ h => h) (Or.inl ⟨by rfl, ?_⟩) (by assumption) ?_
          rotate_left
          · intro w hSw; try dsimp only at hSw
            go_simp
            try with_reducible rfl
          try simp only [Act.put, List.setIfInBounds_toArray, List.set_cons_zero, List.set_cons_succ]
          refine wpAnyH_ready (rs := [11]) (by kernel_rfl) (by simp) ?_
          refine AllReadyH.cons (oper_at (r := _) rfl) (fun K hK => ?_) AllReadyH.nil
          have fr0 := BA_W42.out.free 0
          have fr1 := BA_W42.out.free 1
          obtain ⟨e0, e1⟩ := BA_W42.out.cells
          go_simp
          clear fr0 fr1 e0 e1
          have S_W43 := Lib.hid (S_W42.out.set (g := gx) (by simp; omega) (.slice Gn Q.ns.length gn) (.slice Ge Q.es.length ge))
          have WD_W43 := Lib.hid ((WD_W42.out.setCell (p := ⟨gx, 0, none⟩) (by show wd.heap.size ≤ gx; omega) (.slice Gn Q.ns.length gn)).setCell (p := ⟨gx, 1, none⟩) (by show wd.heap.size ≤ gx; omega) (.slice Ge Q.es.length ge))
          have BA_W43 := Lib.hid (BA_W42.out.put (.slice Gn Q.ns.length gn) (.slice Ge Q.es.length ge))
          have BB_W43 := Lib.hid (BB_W42.out.far ngxgy (.slice Gn Q.ns.length gn) (.slice Ge Q.es.length ge))
          have GQ_W43 := Lib.hid (grAt_set GQ_W42.out BA_W42.out (.slice Gn Q.ns.length gn) (.slice Ge Q.es.length ge))
          have R1_W43 := Lib.hid (ints_set' R1_W42.out BA_W42.out (.slice Gn Q.ns.length gn) (.slice Ge Q.es.length ge))
          have R2_W43 := Lib.hid (ints_set' R2_W42.out BA_W42.out (.slice Gn Q.ns.length gn) (.slice Ge Q.es.length ge))
          have LN_W43 := Lib.hid (LN_W42.out)
          clear S_W42 WD_W42 BA_W42 BB_W42 GQ_W42 R1_W42 R2_W42 LN_W42
          refine hK.out _ _ (HM_wd.out _ WD_W43.out) (fun _ => ?_)
          clear hK K
          try simp only [Act.put, List.setIfInBounds_toArray, List.set_cons_zero, List.set_cons_succ]
          generalize (W42.setCell ⟨gx, 0, none⟩ (.slice Gn Q.ns.length gn)).setCell ⟨gx, 1, none⟩ (.slice Ge Q.es.length ge) = W43 at *
          refine wpAnyH_ready (rs := [12]) (by kernel_rfl) (by simp) ?_
          refine AllReadyH.cons (oper_at (r := _) rfl) (fun K hK => ?_) AllReadyH.nil
          have fr0 := BB_W43.out.free 0
          have fr1 := BB_W43.out.free 1
          obtain ⟨e0, e1⟩ := BB_W43.out.cells
          go_simp
          clear fr0 fr1 e0 e1
          have S_W44 := Lib.hid (S_W43.out.set (g := gy) (by simp; omega) (.slice Xn R.ns.length xn) (.slice Xe R.es.length xe))
          have WD_W44 := Lib.hid ((WD_W43.out.setCell (p := ⟨gy, 0, none⟩) (by show wd.heap.size ≤ gy; omega) (.slice Xn R.ns.length xn)).setCell (p := ⟨gy, 1, none⟩) (by show wd.heap.size ≤ gy; omega) (.slice Xe R.es.length xe))
          have BA_W44 := Lib.hid (BA_W43.out.far ngygx (.slice Xn R.ns.length xn) (.slice Xe R.es.length xe))
          have BB_W44 := Lib.hid (BB_W43.out.put (.slice Xn R.ns.length xn) (.slice Xe R.es.length xe))
          have GQ_W44 := Lib.hid (grAt_set GQ_W43.out BB_W43.out (.slice Xn R.ns.length xn) (.slice Xe R.es.length xe))
          have R1_W44 := Lib.hid (ints_set' R1_W43.out BB_W43.out (.slice Xn R.ns.length xn) (.slice Xe R.es.length xe))
          have R2_W44 := Lib.hid (ints_set' R2_W43.out BB_W43.out (.slice Xn R.ns.length xn) (.slice Xe R.es.length xe))
          have LN_W44 := Lib.hid (LN_W43.out)
          clear S_W43 WD_W43 BA_W43 BB_W43 GQ_W43 R1_W43 R2_W43 LN_W43
          refine hK.out _ _ (HM_wd.out _ WD_W44.out) (fun _ => ?_)
          clear hK K
          try simp only [Act.put, List.setIfInBounds_toArray, List.set_cons_zero, List.set_cons_succ]
          generalize (W43.setCell ⟨gy, 0, none⟩ (.slice Xn R.ns.length xn)).setCell ⟨gy, 1, none⟩ (.slice Xe R.es.length xe) = W44 at *
          refine wpAnyH_take (i := 13) (v := ?_) (oper_at (r := _) rfl) (by kernel_rfl) (by kernel_rfl) (by kernel_rfl) (fun _ _ _ h => h) (Or.inl ⟨by rfl, ?_⟩) (by assumption) ?_
          rotate_left
          · intro w hSw; try dsimp only at hSw
            go_simp
            try with_reducible rfl
          try simp only [Act.put, List.setIfInBounds_toArray, List.set_cons_zero, List.set_cons_succ]
          refine wpAnyH_done (by kernel_rfl) ?_ _
          refine NoPanic.normal ?_
          go_wp2_with fail
          go_meet
          exact ⟨gx, gy, Gn, gn, Ge, ge, Xn, xn, Xe, xe, rfl, rfl, rfl, BA_W44.out, BB_W44.out, GQ_W44.out, R1_W44.out, R2_W44.out, LN_W44.out, S_W44.out⟩
      · skip
        obtain ⟨gy, hg⟩ : ∃ g, g = W1.heap.size := ⟨_, rfl⟩
        have lgy : wd.heap.size ≤ gy := by rw [hg]; exact WD_W1.out.size
        have hx : BX gy (.slice none 0 0) (.slice none 0 0) 30 (W1.alloc (.cells #[.slice none 0 0, .slice none 0 0] 30)) := by rw [hg]; exact heap_alloc_new _ _
        have hb : Below W1.heap.size W1 (W1.alloc (.cells #[.slice none 0 0, .slice none 0 0] 30)) := (Below.refl _ _).alloc (Nat.le_refl _) _
        have S_W45 := Lib.hid (S_W1.out.up hb)
        have WD_W45 := Lib.hid (WD_W1.out.trans (hb.mono WD_W1.out.size))
        have GR_W45 := Lib.hid (GR_W1.out.up hb)
        clear S_W1 WD_W1 GR_W1
        have BB_W45 := Lib.hid hx
        clear hx hb
        go_simp
        refine hK.out _ _ (HM_wd.out _ WD_W45.out) (fun _ => ?_)
        clear hK K
        try simp only [Act.put, List.setIfInBounds_toArray, List.set_cons_zero, List.set_cons_succ]
        generalize W1.alloc (.cells #[.slice none 0 0, .slice none 0 0] 30) = W45 at *
        try rw [← hg]
        clear hg
        refine wpAnyH_ready (rs := [3, 9]) (by kernel_rfl) (by simp) ?_
        refine (AllReadyH.cons (oper_at (r := _) rfl) (fun K hK => ?_) (AllReadyH.cons (oper_at (r := _) rfl) (fun K hK => ?_) AllReadyH.nil))
        · skip
          go_simp
          refine (HO19.out _ S_W45.out.1).mono ?_
          rintro e W46 ⟨⟨K1, k3, K2, k4, rfl, r1⟩, hb⟩
          have S_W46 := Lib.hid (S_W45.out.up hb)
          have WD_W46 := Lib.hid (WD_W45.out.trans (hb.mono WD_W45.out.size))
          have GR_W46 := Lib.hid (GR_W45.out.up hb)
          have BB_W46 := Lib.hid (BB_W45.out.up hb)
          clear S_W45 WD_W45 GR_W45 BB_W45
          have PA_W46 := Lib.hid r1
          clear hb r1
          go_wp2_with fail
          refine hK.out _ _ (HM_wd.out _ WD_W46.out) (fun _ => ?_)
          clear hK K
          try simp only [Act.put, List.setIfInBounds_toArray, List.set_cons_zero, List.set_cons_succ]
          refine wpAnyH_ready (rs := [4, 9]) (by kernel_rfl) (by simp) ?_
          refine (AllReadyH.cons (oper_at (r := _) rfl) (fun K hK => ?_) (AllReadyH.cons (oper_at (r := _) rfl) (fun K hK => ?_) AllReadyH.nil))
          · skip
            go_simp
            refine (HE1.out G1 k1 G2 k2 K1 k3 K2 k4 _ GR_W46.out PA_W46.out).mono ?_
            rintro e W47 ⟨⟨Gn, gn, Ge, ge, Xn, xn, Xe, xe, rfl, r1, r2, r3, r4, r5⟩, hb⟩
            have S_W47 := Lib.hid (S_W46.out.up hb)
            have WD_W47 := Lib.hid (WD_W46.out.trans (hb.mono WD_W46.out.size))
            have GR_W47 := Lib.hid (GR_W46.out.up hb)
            have BB_W47 := Lib.hid (BB_W46.out.up hb)
            have PA_W47 := Lib.hid (PA_W46.out.up hb)
            clear S_W46 WD_W46 GR_W46 BB_W46 PA_W46
            have GQ_W47 := Lib.hid r1
            have R1_W47 := Lib.hid r2
            have R2_W47 := Lib.hid r3
            have LN_W47 := Lib.hid (And.intro r4 r5)
            clear hb r1 r2 r3
            go_wp2_with fail
            refine hK.out _ _ (HM_wd.out _ WD_W47.out) (fun _ => ?_)
            clear hK K
            try simp only [Act.put, List.setIfInBounds_toArray, List.set_cons_zero, List.set_cons_succ]
            clear r4 r5
            refine wpAnyH_take (i := 5) (v := ?_) (oper_at (r := _) rfl) (by kernel_rfl) (by kernel_rfl) (by kernel_rfl) (fun _ _ _ h => h) (Or.inl ⟨by rfl, ?_⟩) (by assumption) ?_
            rotate_left
            · intro w hSw; try dsimp only at hSw
              go_simp
              try with_reducible rfl
            try simp only [Act.put, List.setIfInBounds_toArray, List.set_cons_zero, List.set_cons_succ]
            refine wpAnyH_take (i := 6) (v := ?_) (oper_at (r := _) rfl) (by kernel_rfl) (by kernel_rfl) (by kernel_rfl) (fun _ _ _ h => h) (Or.inl ⟨by rfl, ?_⟩) (by assumption) ?_
            rotate_left
            · intro w hSw; try dsimp only at hSw
              go_simp
              try with_reducible rfl
            try simp only [Act.put, List.setIfInBounds_toArray, List.set_cons_zero, List.set_cons_succ]
            refine wpAnyH_take (i := 7) (v := ?_) (oper_at (r := _) rfl) (by kernel_rfl) (by kernel_rfl) (by kernel_rfl) (fun _ _ _ h => h) (Or.inl ⟨by rfl, ?_⟩) (by assumption) ?_
            rotate_left
            · intro w hSw; try dsimp only at hSw
              go_simp
              try with_reducible rfl
            try simp only [Act.put, List.setIfInBounds_toArray, List.set_cons_zero, List.set_cons_succ]
            refine wpAnyH_take (i := 8) (v := ?_) (oper_at (r := _) rfl) (by kernel_rfl) (by kernel_rfl) (by kernel_rfl) (fun _ _ _ h => h) (Or.inl ⟨by rfl, ?_⟩) (by assumption) ?_
            rotate_left
            · intro w hSw; try dsimp only at hSw
              go_simp
              try with_reducible rfl
            try simp only [Act.put, List.setIfInBounds_toArray, List.set_cons_zero, List.set_cons_succ]
            refine wpAnyH_ready (rs := [9]) (by kernel_rfl) (by simp) ?_
            refine AllReadyH.cons (oper_at (r := _) rfl) (fun K hK => ?_) AllReadyH.nil
            obtain ⟨gx, hg⟩ : ∃ g, g = W47.heap.size := ⟨_, rfl⟩
            have lgx : wd.heap.size ≤ gx := by rw [hg]; exact WD_W47.out.size
            have ngxgy : gy ≠ gx := by have := BB_W47.out.lt; omega
            have ngygx : gx ≠ gy := Ne.symm ngxgy
            have hx : BX gx (.slice none 0 0) (.slice none 0 0) 25 (W47.alloc (.cells #[.slice none 0 0, .slice none 0 0] 25)) := by rw [hg]; exact heap_alloc_new _ _
            have hb : Below W47.heap.size W47 (W47.alloc (.cells #[.slice none 0 0, .slice none 0 0] 25)) := (Below.refl _ _).alloc (Nat.le_refl _) _
            have S_W48 := Lib.hid (S_W47.out.up hb)
            have WD_W48 := Lib.hid (WD_W47.out.trans (hb.mono WD_W47.out.size))
            have BB_W48 := Lib.hid (BB_W47.out.up hb)
            have GQ_W48 := Lib.hid (GQ_W47.out.up hb)
            have R1_W48 := Lib.hid (Reads.up R1_W47.out hb)
            have R2_W48 := Lib.hid (Reads.up R2_W47.out hb)
            have LN_W48 := Lib.hid (LN_W47.out)
            clear S_W47 WD_W47 BB_W47 GQ_W47 R1_W47 R2_W47 LN_W47
            have BA_W48 := Lib.hid hx
            clear hx hb
            go_simp
            refine hK.out _ _ (HM_wd.out _ WD_W48.out) (fun _ => ?_)
            clear hK K
            try simp only [Act.put, List.setIfInBounds_toArray, List.set_cons_zero, List.set_cons_succ]
            generalize W47.alloc (.cells #[.slice none 0 0, .slice none 0 0] 25) = W48 at *
            try rw [← hg]
            clear hg
            refine wpAnyH_ready (rs := [11]) (by kernel_rfl) (by simp) ?_
            refine AllReadyH.cons (oper_at (r := _) rfl) (fun K hK => ?_) AllReadyH.nil
            have fr0 := BA_W48.out.free 0
            have fr1 := BA_W48.out.free 1
            obtain ⟨e0, e1⟩ := BA_W48.out.cells
            go_simp
            clear fr0 fr1 e0 e1
            have S_W49 := Lib.hid (S_W48.out.set (g := gx) (by simp; omega) (.slice Gn Q.ns.length gn) (.slice Ge Q.es.length ge))
            have WD_W49 := Lib.hid ((WD_W48.out.setCell (p := ⟨gx, 0, none⟩) (by show wd.heap.size ≤ gx; omega) (.slice Gn Q.ns.length gn)).setCell (p := ⟨gx, 1, none⟩) (by show wd.heap.size ≤ gx; omega) (.slice Ge Q.es.length ge))
            have BB_W49 := Lib.hid (BB_W48.out.far ngxgy (.slice Gn Q.ns.length gn) (.slice Ge Q.es.length ge))
            have GQ_W49 := Lib.hid (grAt_set GQ_W48.out BA_W48.out (.slice Gn Q.ns.length gn) (.slice Ge Q.es.length ge))
            have R1_W49 := Lib.hid (ints_set' R1_W48.out BA_W48.out (.slice Gn Q.ns.length gn) (.slice Ge Q.es.length ge))
            have R2_W49 := Lib.hid (ints_set' R2_W48.out BA_W48.out (.slice Gn Q.ns.length gn) (.slice Ge Q.es.length ge))
            have LN_W49 := Lib.hid (LN_W48.out)
            have BA_W49 := Lib.hid (BA_W48.out.put (.slice Gn Q.ns.length gn) (.slice Ge Q.es.length ge))
            clear S_W48 WD_W48 BB_W48 GQ_W48 R1_W48 R2_W48 LN_W48 BA_W48
            refine hK.out _ _ (HM_wd.out _ WD_W49.out) (fun _ => ?_)
            clear hK K
            try simp only [Act.put, List.setIfInBounds_toArray, List.set_cons_zero, List.set_cons_succ]
            generalize (W48.setCell ⟨gx, 0, none⟩ (.slice Gn Q.ns.length gn)).setCell ⟨gx, 1, none⟩ (.slice Ge Q.es.length ge) = W49 at *
            refine wpAnyH_ready (rs := [12]) (by kernel_rfl) (by simp) ?_
            refine AllReadyH.cons (oper_at (r := _) rfl) (fun K hK => ?_) AllReadyH.nil
            have fr0 := BB_W49.out.free 0
            have fr1 := BB_W49.out.free 1
            obtain ⟨e0, e1⟩ := BB_W49.out.cells
            go_simp
            clear fr0 fr1 e0 e1
            have S_W50 := Lib.hid (S_W49.out.set (g := gy) (by simp; omega) (.slice Xn R.ns.length xn) (.slice Xe R.es.length xe))
            have WD_W50 := Lib.hid ((WD_W49.out.setCell (p := ⟨gy, 0, none⟩) (by show wd.heap.size ≤ gy; omega) (.slice Xn R.ns.length xn)).setCell (p := ⟨gy, 1, none⟩) (by show wd.heap.size ≤ gy; omega) (.slice Xe R.es.length xe))
            have BB_W50 := Lib.hid (BB_W49.out.put (.slice Xn R.ns.length xn) (.slice Xe R.es.length xe))
            have GQ_W50 := Lib.hid (grAt_set GQ_W49.out BB_W49.out (.slice Xn R.ns.length xn) (.slice Xe R.es.length xe))
            have R1_W50 := Lib.hid (ints_set' R1_W49.out BB_W49.out (.slice Xn R.ns.length xn) (.slice Xe R.es.length xe))
            have R2_W50 := Lib.hid (ints_set' R2_W49.out BB_W49.out (.slice Xn R.ns.length xn) (.slice Xe R.es.length xe))
            have LN_W50 := Lib.hid (LN_W49.out)
            have BA_W50 := Lib.hid (BA_W49.out.far ngygx (.slice Xn R.ns.length xn) (.slice Xe R.es.length xe))
            clear S_W49 WD_W49 BB_W49 GQ_W49 R1_W49 R2_W49 LN_W49 BA_W49
            refine hK.out _ _ (HM_wd.out _ WD_W50.out) (fun _ => ?_)
            clear hK K
            try simp only [Act.put, List.setIfInBounds_toArray, List.set_cons_zero, List.set_cons_succ]
            generalize (W49.setCell ⟨gy, 0, none⟩ (.slice Xn R.ns.length xn)).setCell ⟨gy, 1, none⟩ (.slice Xe R.es.length xe) = W50 at *
            refine wpAnyH_take (i := 13) (v := ?_) (oper_at (r := _) rfl) (by kernel_rfl) (by kernel_rfl) (by kernel_rfl) (fun _ _ _ h => h) (Or.inl ⟨by rfl, ?_⟩) (by assumption) ?_
            rotate_left
            · intro w hSw; try dsimp only at hSw
              go_simp
              try with_reducible rfl
            try simp only [Act.put, List.setIfInBounds_toArray, List.set_cons_zero, List.set_cons_succ]
            refine wpAnyH_done (by kernel_rfl) ?_ _
            refine NoPanic.normal ?_
            go_wp2_with fail
            go_meet
            exact ⟨gx, gy, Gn, gn, Ge, ge, Xn, xn, Xe, xe, rfl, rfl, rfl, BA_W50.out, BB_W50.out, GQ_W50.out, R1_W50.out, R2_W50.out, LN_W50.out, S_W50.out⟩
          · skip
            obtain ⟨gx, hg⟩ : ∃ g, g = W46.heap.size := ⟨_, rfl⟩
            have lgx : wd.heap.size ≤ gx := by rw [hg]; exact WD_W46.out.size
            have ngxgy : gy ≠ gx := by have := BB_W46.out.lt; omega
            have ngygx : gx ≠ gy := Ne.symm ngxgy
            have hx : BX gx (.slice none 0 0) (.slice none 0 0) 25 (W46.alloc (.cells #[.slice none 0 0, .slice none 0 0] 25)) := by rw [hg]; exact heap_alloc_new _ _
            have hb : Below W46.heap.size W46 (W46.alloc (.cells #[.slice none 0 0, .slice none 0 0] 25)) := (Below.refl _ _).alloc (Nat.le_refl _) _
            have S_W51 := Lib.hid (S_W46.out.up hb)
            have WD_W51 := Lib.hid (WD_W46.out.trans (hb.mono WD_W46.out.size))
            have GR_W51 := Lib.hid (GR_W46.out.up hb)
            have BB_W51 := Lib.hid (BB_W46.out.up hb)
            have PA_W51 := Lib.hid (PA_W46.out.up hb)
            clear S_W46 WD_W46 GR_W46 BB_W46 PA_W46
            have BA_W51 := Lib.hid hx
            clear hx hb
            go_simp
            refine hK.out _ _ (HM_wd.out _ WD_W51.out) (fun _ => ?_)
            clear hK K
            try simp only [Act.put, List.setIfInBounds_toArray, List.set_cons_zero, List.set_cons_succ]
            generalize W46.alloc (.cells #[.slice none 0 0, .slice none 0 0] 25) = W51 at *
            try rw [← hg]
            clear hg
            refine wpAnyH_ready (rs := [4]) (by kernel_rfl) (by simp) ?_
            refine AllReadyH.cons (oper_at (r := _) rfl) (fun K hK => ?_) AllReadyH.nil
            go_simp
            refine (HE1.out G1 k1 G2 k2 K1 k3 K2 k4 _ GR_W51.out PA_W51.out).mono ?_
            rintro e W52 ⟨⟨Gn, gn, Ge, ge, Xn, xn, Xe, xe, rfl, r1, r2, r3, r4, r5⟩, hb⟩
            have S_W52 := Lib.hid (S_W51.out.up hb)
            have WD_W52 := Lib.hid (WD_W51.out.trans (hb.mono WD_W51.out.size))
            have GR_W52 := Lib.hid (GR_W51.out.up hb)
            have BB_W52 := Lib.hid (BB_W51.out.up hb)
            have PA_W52 := Lib.hid (PA_W51.out.up hb)
            have BA_W52 := Lib.hid (BA_W51.out.up hb)
            clear S_W51 WD_W51 GR_W51 BB_W51 PA_W51 BA_W51
            have GQ_W52 := Lib.hid r1
            have R1_W52 := Lib.hid r2
            have R2_W52 := Lib.hid r3
            have LN_W52 := Lib.hid (And.intro r4 r5)
            clear hb r1 r2 r3
            go_wp2_with fail
            refine hK.out _ _ (HM_wd.out _ WD_W52.out) (fun _ => ?_)
            clear hK K
            try simp only [Act.put, List.setIfInBounds_toArray, List.set_cons_zero, List.set_cons_succ]
            clear r4 r5
            refine wpAnyH_take (i := 5) (v := ?_) (oper_at (r := _) rfl) (by kernel_rfl) (by kernel_rfl) (by kernel_rfl) (fun _ _ _ h => h) (Or.inl ⟨by rfl, ?_⟩) (by assumption) ?_
            rotate_left
            · intro w hSw; try dsimp only at hSw
              go_simp
              try with_reducible rfl
            try simp only [Act.put, List.setIfInBounds_toArray, List.set_cons_zero, List.set_cons_succ]
            refine wpAnyH_take (i := 6) (v := ?_) (oper_at (r := _) rfl) (by kernel_rfl) (by kernel_rfl) (by kernel_rfl) (fun _ _ _ h => h) (Or.inl ⟨by rfl, ?_⟩) (by assumption) ?_
            rotate_left
            · intro w hSw; try dsimp only at hSw
              go_simp
              try with_reducible rfl
            try simp only [Act.put, List.setIfInBounds_toArray, List.set_cons_zero, List.set_cons_succ]
            refine wpAnyH_take (i := 7) (v := ?_) (oper_at (r := _) rfl) (by kernel_rfl) (by kernel_rfl) (by kernel_rfl) (fun _ _ _ h => h) (Or.inl ⟨by rfl, ?_⟩) (by assumption) ?_
            rotate_left
            · intro w hSw; try dsimp only at hSw
              go_simp
              try with_reducible rfl
            try simp only [Act.put, List.setIfInBounds_toArray, List.set_cons_zero, List.set_cons_succ]
            refine wpAnyH_take (i := 8) (v := ?_) (oper_at (r := _) rfl) (by kernel_rfl) (by kernel_rfl) (by kernel_rfl) (fun _ _ _ h => h) (Or.inl ⟨by rfl, ?_⟩) (by assumption) ?_
            rotate_left
            · intro w hSw; try dsimp only at hSw
              go_simp
              try with_reducible rfl
            try simp only [Act.put, List.setIfInBounds_toArray, List.set_cons_zero, List.set_cons_succ]
            refine wpAnyH_ready (rs := [11]) (by kernel_rfl) (by simp) ?_
            refine AllReadyH.cons (oper_at (r := _) rfl) (fun K hK => ?_) AllReadyH.nil
            have fr0 := BA_W52.out.free 0
            have fr1 := BA_W52.out.free 1
            obtain ⟨e0, e1⟩ := BA_W52.out.cells
            go_simp
            clear fr0 fr1 e0 e1
            have S_W53 := Lib.hid (S_W52.out.set (g := gx) (by simp; omega) (.slice Gn Q.ns.length gn) (.slice Ge Q.es.length ge))
            have WD_W53 := Lib.hid ((WD_W52.out.setCell (p := ⟨gx, 0, none⟩) (by show wd.heap.size ≤ gx; omega) (.slice Gn Q.ns.length gn)).setCell (p := ⟨gx, 1, none⟩) (by show wd.heap.size ≤ gx; omega) (.slice Ge Q.es.length ge))
            have BB_W53 := Lib.hid (BB_W52.out.far ngxgy (.slice Gn Q.ns.length gn) (.slice Ge Q.es.length ge))
            have BA_W53 := Lib.hid (BA_W52.out.put (.slice Gn Q.ns.length gn) (.slice Ge Q.es.length ge))
            have GQ_W53 := Lib.hid (grAt_set GQ_W52.out BA_W52.out (.slice Gn Q.ns.length gn) (.slice Ge Q.es.length ge))
            have R1_W53 := Lib.hid (ints_set' R1_W52.out BA_W52.out (.slice Gn Q.ns.length gn) (.slice Ge Q.es.length ge))
            have R2_W53 := Lib.hid (ints_set' R2_W52.out BA_W52.out (.slice Gn Q.ns.length gn) (.slice Ge Q.es.length ge))
            have LN_W53 := Lib.hid (LN_W52.out)
            clear S_W52 WD_W52 BB_W52 BA_W52 GQ_W52 R1_W52 R2_W52 LN_W52
            refine hK.out _ _ (HM_wd.out _ WD_W53.out) (fun _ => ?_)
            clear hK K
            try simp only [Act.put, List.setIfInBounds_toArray, List.set_cons_zero, List.set_cons_succ]
            generalize (W52.setCell ⟨gx, 0, none⟩ (.slice Gn Q.ns.length gn)).setCell ⟨gx, 1, none⟩ (.slice Ge Q.es.length ge) = W53 at *
            refine wpAnyH_ready (rs := [12]) (by kernel_rfl) (by simp) ?_
            refine AllReadyH.cons (oper_at (r := _) rfl) (fun K hK => ?_) AllReadyH.nil
            have fr0 := BB_W53.out.free 0
            have fr1 := BB_W53.out.free 1
            obtain ⟨e0, e1⟩ := BB_W53.out.cells
            go_simp
            clear fr0 fr1 e0 e1
            have S_W54 := Lib.hid (S_W53.out.set (g := gy) (by simp; omega) (.slice Xn R.ns.length xn) (.slice Xe R.es.length xe))
            have WD_W54 := Lib.hid ((WD_W53.out.setCell (p := ⟨gy, 0, none⟩) (by show wd.heap.size ≤ gy; omega) (.slice Xn R.ns.length xn)).setCell (p := ⟨gy, 1, none⟩) (by show wd.heap.size ≤ gy; omega) (.slice Xe R.es.length xe))
            have BB_W54 := Lib.hid (BB_W53.out.put (.slice Xn R.ns.length xn) (.slice Xe R.es.length xe))
            have BA_W54 := Lib.hid (BA_W53.out.far ngygx (.slice Xn R.ns.length xn) (.slice Xe R.es.length xe))
            have GQ_W54 := Lib.hid (grAt_set GQ_W53.out BB_W53.out (.slice Xn R.ns.length xn) (.slice Xe R.es.length xe))
            have R1_W54 := Lib.hid (ints_set' R1_W53.out BB_W53.out (.slice Xn R.ns.length xn) (.slice Xe R.es.length xe))
            have R2_W54 := Lib.hid (ints_set' R2_W53.out BB_W53.out (.slice Xn R.ns.length xn) (.slice Xe R.es.length xe))
            have LN_W54 := Lib.hid (LN_W53.out)
            clear S_W53 WD_W53 BB_W53 BA_W53 GQ_W53 R1_W53 R2_W53 LN_W53
            refine hK.out _ _ (HM_wd.out _ WD_W54.out) (fun _ => ?_)
            clear hK K
            try simp only [Act.put, List.setIfInBounds_toArray, List.set_cons_zero, List.set_cons_succ]
            generalize (W53.setCell ⟨gy, 0, none⟩ (.slice Xn R.ns.length xn)).setCell ⟨gy, 1, none⟩ (.slice Xe R.es.length xe) = W54 at *
            refine wpAnyH_take (i := 13) (v := ?_) (oper_at (r := _) rfl) (by kernel_rfl) (by kernel_rfl) (by kernel_rfl) (fun _ _ _ h => h) (Or.inl ⟨by rfl, ?_⟩) (by assumption) ?_
            rotate_left
            · intro w hSw; try dsimp only at hSw
              go_simp
              try with_reducible rfl
            try simp only [Act.put, List.setIfInBounds_toArray, List.set_cons_zero, List.set_cons_succ]
            refine wpAnyH_done (by kernel_rfl) ?_ _
            refine NoPanic.normal ?_
            go_wp2_with fail
            go_meet
            exact ⟨gx, gy, Gn, gn, Ge, ge, Xn, xn, Xe, xe, rfl, rfl, rfl, BA_W54.out, BB_W54.out, GQ_W54.out, R1_W54.out, R2_W54.out, LN_W54.out, S_W54.out⟩
        · skip
          obtain ⟨gx, hg⟩ : ∃ g, g = W45.heap.size := ⟨_, rfl⟩
          have lgx : wd.heap.size ≤ gx := by rw [hg]; exact WD_W45.out.size
          have ngxgy : gy ≠ gx := by have := BB_W45.out.lt; omega
          have ngygx : gx ≠ gy := Ne.symm ngxgy
          have hx : BX gx (.slice none 0 0) (.slice none 0 0) 25 (W45.alloc (.cells #[.slice none 0 0, .slice none 0 0] 25)) := by rw [hg]; exact heap_alloc_new _ _
          have hb : Below W45.heap.size W45 (W45.alloc (.cells #[.slice none 0 0, .slice none 0 0] 25)) := (Below.refl _ _).alloc (Nat.le_refl _) _
          have S_W55 := Lib.hid (S_W45.out.up hb)
          have WD_W55 := Lib.hid (WD_W45.out.trans (hb.mono WD_W45.out.size))
          have GR_W55 := Lib.hid (GR_W45.out.up hb)
          have BB_W55 := Lib.hid (BB_W45.out.up hb)
          clear S_W45 WD_W45 GR_W45 BB_W45
          have BA_W55 := Lib.hid hx
          clear hx hb
          go_simp
          refine hK.out _ _ (HM_wd.out _ WD_W55.out) (fun _ => ?_)
          clear hK K
          try simp only [Act.put, List.setIfInBounds_toArray, List.set_cons_zero, List.set_cons_succ]
          generalize W45.alloc (.cells #[.slice none 0 0, .slice none 0 0] 25) = W55 at *
          try rw [← hg]
          clear hg
          refine wpAnyH_ready (rs := [3]) (by kernel_rfl) (by simp) ?_
          refine AllReadyH.cons (oper_at (r := _) rfl) (fun K hK => ?_) AllReadyH.nil
          go_simp
          refine (HO19.out _ S_W55.out.1).mono ?_
          rintro e W56 ⟨⟨K1, k3, K2, k4, rfl, r1⟩, hb⟩
          have S_W56 := Lib.hid (S_W55.out.up hb)
          have WD_W56 := Lib.hid (WD_W55.out.trans (hb.mono WD_W55.out.size))
          have GR_W56 := Lib.hid (GR_W55.out.up hb)
          have BB_W56 := Lib.hid (BB_W55.out.up hb)
          have BA_W56 := Lib.hid (BA_W55.out.up hb)
          clear S_W55 WD_W55 GR_W55 BB_W55 BA_W55
          have PA_W56 := Lib.hid r1
          clear hb r1
          go_wp2_with fail
          refine hK.out _ _ (HM_wd.out _ WD_W56.out) (fun _ => ?_)
          clear hK K
          try simp only [Act.put, List.setIfInBounds_toArray, List.set_cons_zero, List.set_cons_succ]
          refine wpAnyH_ready (rs := [4]) (by kernel_rfl) (by simp) ?_
          refine AllReadyH.cons (oper_at (r := _) rfl) (fun K hK => ?_) AllReadyH.nil
          go_simp
          refine (HE1.out G1 k1 G2 k2 K1 k3 K2 k4 _ GR_W56.out PA_W56.out).mono ?_
          rintro e W57 ⟨⟨Gn, gn, Ge, ge, Xn, xn, Xe, xe, rfl, r1, r2, r3, r4, r5⟩, hb⟩
          have S_W57 := Lib.hid (S_W56.out.up hb)
          have WD_W57 := Lib.hid (WD_W56.out.trans (hb.mono WD_W56.out.size))
          have GR_W57 := Lib.hid (GR_W56.out.up hb)
          have BB_W57 := Lib.hid (BB_W56.out.up hb)
          have BA_W57 := Lib.hid (BA_W56.out.up hb)
          have PA_W57 := Lib.hid (PA_W56.out.up hb)
          clear S_W56 WD_W56 GR_W56 BB_W56 BA_W56 PA_W56
          have GQ_W57 := Lib.hid r1
          have R1_W57 := Lib.hid r2
          have R2_W57 := Lib.hid r3
          have LN_W57 := Lib.hid (And.intro r4 r5)
          clear hb r1 r2 r3
          go_wp2_with fail
          refine hK.out _ _ (HM_wd.out _ WD_W57.out) (fun _ => ?_)
          clear hK K
          try simp only [Act.put, List.setIfInBounds_toArray, List.set_cons_zero, List.set_cons_succ]
          clear r4 r5
          refine wpAnyH_take (i := 5) (v := ?_) (oper_at (r := _) rfl) (by kernel_rfl) (by kernel_rfl) (by kernel_rfl) (fun _ _ _ h => h) (Or.inl ⟨by rfl, ?_⟩) (by assumption) ?_
          rotate_left
          · intro w hSw; try dsimp only at hSw
            go_simp
            try with_reducible rfl
          try simp only [Act.put, List.setIfInBounds_toArray, List.set_cons_zero, List.set_cons_succ]
          refine wpAnyH_take (i := 6) (v := ?_) (oper_at (r := _) rfl) (by kernel_rfl) (by kernel_rfl) (by kernel_rfl) (fun _ _ _ h => h) (Or.inl ⟨by rfl, ?_⟩) (by assumption) ?_
          rotate_left
          · intro w hSw; try dsimp only at hSw
            go_simp
            try with_reducible rfl
          try simp only [Act.put, List.setIfInBounds_toArray, List.set_cons_zero, List.set_cons_succ]
          refine wpAnyH_take (i := 7) (v := ?_) (oper_at (r := _) rfl) (by kernel_rfl) (by kernel_rfl) (by kernel_rfl) (fun _ _ _ h => h) (Or.inl ⟨by rfl, ?_⟩) (by assumption) ?_
          rotate_left
          · intro w hSw; try dsimp only at hSw
            go_simp
            try with_reducible rfl
          try simp only [Act.put, List.setIfInBounds_toArray, List.set_cons_zero, List.set_cons_succ]
          refine wpAnyH_take (i := 8) (v := ?_) (oper_at (r := _) rfl) (by kernel_rfl) (by kernel_rfl) (by kernel_rfl) (fun _ _ _ h => h) (Or.inl ⟨by rfl, ?_⟩) (by assumption) ?_
          rotate_left
          · intro w hSw; try dsimp only at hSw
            go_simp
            try with_reducible rfl
          try simp only [Act.put, List.setIfInBounds_toArray, List.set_cons_zero, List.set_cons_succ]
          refine wpAnyH_ready (rs := [11]) (by kernel_rfl) (by simp) ?_
          refine AllReadyH.cons (oper_at (r := _) rfl) (fun K hK => ?_) AllReadyH.nil
          have fr0 := BA_W57.out.free 0
          have fr1 := BA_W57.out.free 1
          obtain ⟨e0, e1⟩ := BA_W57.out.cells
          go_simp
          clear fr0 fr1 e0 e1
          have S_W58 := Lib.hid (S_W57.out.set (g := gx) (by simp; omega) (.slice Gn Q.ns.length gn) (.slice Ge Q.es.length ge))
          have WD_W58 := Lib.hid ((WD_W57.out.setCell (p := ⟨gx, 0, none⟩) (by show wd.heap.size ≤ gx; omega) (.slice Gn Q.ns.length gn)).setCell (p := ⟨gx, 1, none⟩) (by show wd.heap.size ≤ gx; omega) (.slice Ge Q.es.length ge))
          have BB_W58 := Lib.hid (BB_W57.out.far ngxgy (.slice Gn Q.ns.length gn) (.slice Ge Q.es.length ge))
          have BA_W58 := Lib.hid (BA_W57.out.put (.slice Gn Q.ns.length gn) (.slice Ge Q.es.length ge))
          have GQ_W58 := Lib.hid (grAt_set GQ_W57.out BA_W57.out (.slice Gn Q.ns.length gn) (.slice Ge Q.es.length ge))
          have R1_W58 := Lib.hid (ints_set' R1_W57.out BA_W57.out (.slice Gn Q.ns.length gn) (.slice Ge Q.es.length ge))
          have R2_W58 := Lib.hid (ints_set' R2_W57.out BA_W57.out (.slice Gn Q.ns.length gn) (.slice Ge Q.es.length ge))
          have LN_W58 := Lib.hid (LN_W57.out)
          clear S_W57 WD_W57 BB_W57 BA_W57 GQ_W57 R1_W57 R2_W57 LN_W57
          refine hK.out _ _ (HM_wd.out _ WD_W58.out) (fun _ => ?_)
          clear hK K
          try simp only [Act.put, List.setIfInBounds_toArray, List.set_cons_zero, List.set_cons_succ]
          generalize (W57.setCell ⟨gx, 0, none⟩ (.slice Gn Q.ns.length gn)).setCell ⟨gx, 1, none⟩ (.slice Ge Q.es.length ge) = W58 at *
          refine wpAnyH_ready (rs := [12]) (by kernel_rfl) (by simp) ?_
          refine AllReadyH.cons (oper_at (r := _) rfl) (fun K hK => ?_) AllReadyH.nil
          have fr0 := BB_W58.out.free 0
          have fr1 := BB_W58.out.free 1
          obtain ⟨e0, e1⟩ := BB_W58.out.cells
          go_simp
          clear fr0 fr1 e0 e1
          have S_W59 := Lib.hid (S_W58.out.set (g := gy) (by simp; omega) (.slice Xn R.ns.length xn) (.slice Xe R.es.length xe))
          have WD_W59 := Lib.hid ((WD_W58.out.setCell (p := ⟨gy, 0, none⟩) (by show wd.heap.size ≤ gy; omega) (.slice Xn R.ns.length xn)).setCell (p := ⟨gy, 1, none⟩) (by show wd.heap.size ≤ gy; omega) (.slice Xe R.es.length xe))
          have BB_W59 := Lib.hid (BB_W58.out.put (.slice Xn R.ns.length xn) (.slice Xe R.es.length xe))
          have BA_W59 := Lib.hid (BA_W58.out.far ngygx (.slice Xn R.ns.length xn) (.slice Xe R.es.length xe))
          have GQ_W59 := Lib.hid (grAt_set GQ_W58.out BB_W58.out (.slice Xn R.ns.length xn) (.slice Xe R.es.length xe))
          have R1_W59 := Lib.hid (ints_set' R1_W58.out BB_W58.out (.slice Xn R.ns.length xn) (.slice Xe R.es.length xe))
          have R2_W59 := Lib.hid (ints_set' R2_W58.out BB_W58.out (.slice Xn R.ns.length xn) (.slice Xe R.es.length xe))
          have LN_W59 := Lib.hid (LN_W58.out)
          clear S_W58 WD_W58 BB_W58 BA_W58 GQ_W58 R1_W58 R2_W58 LN_W58
          refine hK.out _ _ (HM_wd.out _ WD_W59.out) (fun _ => ?_)
          clear hK K
          try simp only [Act.put, List.setIfInBounds_toArray, List.set_cons_zero, List.set_cons_succ]
          generalize (W58.setCell ⟨gy, 0, none⟩ (.slice Xn R.ns.length xn)).setCell ⟨gy, 1, none⟩ (.slice Xe R.es.length xe) = W59 at *
          refine wpAnyH_take (i := 13) (v := ?_) (oper_at (r := _) rfl) (by kernel_rfl) (by kernel_rfl) (by kernel_rfl) (fun _ _ _ h => h) (Or.inl ⟨by rfl, ?_⟩) (by assumption) ?_
          rotate_left
          · intro w hSw; try dsimp only at hSw
            go_simp
            try with_reducible rfl
          try simp only [Act.put, List.setIfInBounds_toArray, List.set_cons_zero, List.set_cons_succ]
          refine wpAnyH_done (by kernel_rfl) ?_ _
          refine NoPanic.normal ?_
          go_wp2_with fail
          go_meet
          exact ⟨gx, gy, Gn, gn, Ge, ge, Xn, xn, Xe, xe, rfl, rfl, rfl, BA_W59.out, BB_W59.out, GQ_W59.out, R1_W59.out, R2_W59.out, LN_W59.out, S_W59.out⟩
    · skip
      obtain ⟨gx, hg⟩ : ∃ g, g = wd.heap.size := ⟨_, rfl⟩
      have lgx : wd.heap.size ≤ gx := by rw [hg]; exact WD_wd.out.size
      have hx : BX gx (.slice none 0 0) (.slice none 0 0) 25 (wd.alloc (.cells #[.slice none 0 0, .slice none 0 0] 25)) := by rw [hg]; exact heap_alloc_new _ _
      have hb : Below wd.heap.size wd (wd.alloc (.cells #[.slice none 0 0, .slice none 0 0] 25)) := (Below.refl _ _).alloc (Nat.le_refl _) _
      have S_W60 := Lib.hid (S_wd.out.up hb)
      have WD_W60 := Lib.hid (WD_wd.out.trans (hb.mono WD_wd.out.size))
      clear S_wd WD_wd
      have BA_W60 := Lib.hid hx
      clear hx hb
      go_simp
      refine hK.out _ _ (HM_wd.out _ WD_W60.out) (fun _ => ?_)
      clear hK K
      try simp only [Act.put, List.setIfInBounds_toArray, List.set_cons_zero, List.set_cons_succ]
      generalize wd.alloc (.cells #[.slice none 0 0, .slice none 0 0] 25) = W60 at *
      try rw [← hg]
      clear hg
      refine wpAnyH_ready (rs := [1, 10]) (by kernel_rfl) (by simp) ?_
      refine (AllReadyH.cons (oper_at (r := _) rfl) (fun K hK => ?_) (AllReadyH.cons (oper_at (r := _) rfl) (fun K hK => ?_) AllReadyH.nil))
      · skip
        go_simp
        refine (HCP9.out _ S_W60.out.1).mono ?_
        rintro e W61 ⟨⟨G1, k1, G2, k2, rfl, r1⟩, hb⟩
        have S_W61 := Lib.hid (S_W60.out.up hb)
        have WD_W61 := Lib.hid (WD_W60.out.trans (hb.mono WD_W60.out.size))
        have BA_W61 := Lib.hid (BA_W60.out.up hb)
        clear S_W60 WD_W60 BA_W60
        have GR_W61 := Lib.hid r1
        clear hb r1
        go_wp2_with fail
        refine hK.out _ _ (HM_wd.out _ WD_W61.out) (fun _ => ?_)
        clear hK K
        try simp only [Act.put, List.setIfInBounds_toArray, List.set_cons_zero, List.set_cons_succ]
        refine wpAnyH_ready (rs := [3, 10]) (by kernel_rfl) (by simp) ?_
        refine (AllReadyH.cons (oper_at (r := _) rfl) (fun K hK => ?_) (AllReadyH.cons (oper_at (r := _) rfl) (fun K hK => ?_) AllReadyH.nil))
        · skip
          go_simp
          refine (HO19.out _ S_W61.out.1).mono ?_
          rintro e W62 ⟨⟨K1, k3, K2, k4, rfl, r1⟩, hb⟩
          have S_W62 := Lib.hid (S_W61.out.up hb)
          have WD_W62 := Lib.hid (WD_W61.out.trans (hb.mono WD_W61.out.size))
          have BA_W62 := Lib.hid (BA_W61.out.up hb)
          have GR_W62 := Lib.hid (GR_W61.out.up hb)
          clear S_W61 WD_W61 BA_W61 GR_W61
          have PA_W62 := Lib.hid r1
          clear hb r1
          go_wp2_with fail
          refine hK.out _ _ (HM_wd.out _ WD_W62.out) (fun _ => ?_)
          clear hK K
          try simp only [Act.put, List.setIfInBounds_toArray, List.set_cons_zero, List.set_cons_succ]
          refine wpAnyH_ready (rs := [4, 10]) (by kernel_rfl) (by simp) ?_
          refine (AllReadyH.cons (oper_at (r := _) rfl) (fun K hK => ?_) (AllReadyH.cons (oper_at (r := _) rfl) (fun K hK => ?_) AllReadyH.nil))
          · skip
            go_simp
            refine (HE1.out G1 k1 G2 k2 K1 k3 K2 k4 _ GR_W62.out PA_W62.out).mono ?_
            rintro e W63 ⟨⟨Gn, gn, Ge, ge, Xn, xn, Xe, xe, rfl, r1, r2, r3, r4, r5⟩, hb⟩
            have S_W63 := Lib.hid (S_W62.out.up hb)
            have WD_W63 := Lib.hid (WD_W62.out.trans (hb.mono WD_W62.out.size))
            have BA_W63 := Lib.hid (BA_W62.out.up hb)
            have GR_W63 := Lib.hid (GR_W62.out.up hb)
            have PA_W63 := Lib.hid (PA_W62.out.up hb)
            clear S_W62 WD_W62 BA_W62 GR_W62 PA_W62
            have GQ_W63 := Lib.hid r1
            have R1_W63 := Lib.hid r2
            have R2_W63 := Lib.hid r3
            have LN_W63 := Lib.hid (And.intro r4 r5)
            clear hb r1 r2 r3
            go_wp2_with fail
            refine hK.out _ _ (HM_wd.out _ WD_W63.out) (fun _ => ?_)
            clear hK K
            try simp only [Act.put, List.setIfInBounds_toArray, List.set_cons_zero, List.set_cons_succ]
            clear r4 r5
            refine wpAnyH_take (i := 5) (v := ?_) (oper_at (r := _) rfl) (by kernel_rfl) (by kernel_rfl) (by kernel_rfl) (fun _ _ _ h => h) (Or.inl ⟨by rfl, ?_⟩) (by assumption) ?_
            rotate_left
            · intro w hSw; try dsimp only at hSw
              go_simp
              try with_reducible rfl
            try simp only [Act.put, List.setIfInBounds_toArray, List.set_cons_zero, List.set_cons_succ]
            refine wpAnyH_take (i := 6) (v := ?_) (oper_at (r := _) rfl) (by kernel_rfl) (by kernel_rfl) (by kernel_rfl) (fun _ _ _ h => h) (Or.inl ⟨by rfl, ?_⟩) (by assumption) ?_
            rotate_left
            · intro w hSw; try dsimp only at hSw
              go_simp
              try with_reducible rfl
            try simp only [Act.put, List.setIfInBounds_toArray, List.set_cons_zero, List.set_cons_succ]
            refine wpAnyH_take (i := 7) (v := ?_) (oper_at (r := _) rfl) (by kernel_rfl) (by kernel_rfl) (by kernel_rfl) (fun _ _ _ h => h) (Or.inl ⟨by rfl, ?_⟩) (by assumption) ?_
            rotate_left
            · intro w hSw; try dsimp only at hSw
              go_simp
              try with_reducible rfl
            try simp only [Act.put, List.setIfInBounds_toArray, List.set_cons_zero, List.set_cons_succ]
            refine wpAnyH_take (i := 8) (v := ?_) (oper_at (r := _) rfl) (by kernel_rfl) (by kernel_rfl) (by kernel_rfl) (fun _ _ _ h => h) (Or.inl ⟨by rfl, ?_⟩) (by assumption) ?_
            rotate_left
            · intro w hSw; try dsimp only at hSw
              go_simp
              try with_reducible rfl
            try simp only [Act.put, List.setIfInBounds_toArray, List.set_cons_zero, List.set_cons_succ]
            refine wpAnyH_ready (rs := [10]) (by kernel_rfl) (by simp) ?_
            refine AllReadyH.cons (oper_at (r := _) rfl) (fun K hK => ?_) AllReadyH.nil
            obtain ⟨gy, hg⟩ : ∃ g, g = W63.heap.size := ⟨_, rfl⟩
            have lgy : wd.heap.size ≤ gy := by rw [hg]; exact WD_W63.out.size
            have ngygx : gx ≠ gy := by have := BA_W63.out.lt; omega
            have ngxgy : gy ≠ gx := Ne.symm ngygx
            have hx : BX gy (.slice none 0 0) (.slice none 0 0) 30 (W63.alloc (.cells #[.slice none 0 0, .slice none 0 0] 30)) := by rw [hg]; exact heap_alloc_new _ _
            have hb : Below W63.heap.size W63 (W63.alloc (.cells #[.slice none 0 0, .slice none 0 0] 30)) := (Below.refl _ _).alloc (Nat.le_refl _) _
            have S_W64 := Lib.hid (S_W63.out.up hb)
            have WD_W64 := Lib.hid (WD_W63.out.trans (hb.mono WD_W63.out.size))
            have BA_W64 := Lib.hid (BA_W63.out.up hb)
            have GQ_W64 := Lib.hid (GQ_W63.out.up hb)
            have R1_W64 := Lib.hid (Reads.up R1_W63.out hb)
            have R2_W64 := Lib.hid (Reads.up R2_W63.out hb)
            have LN_W64 := Lib.hid (LN_W63.out)
            clear S_W63 WD_W63 BA_W63 GQ_W63 R1_W63 R2_W63 LN_W63
            have BB_W64 := Lib.hid hx
            clear hx hb
            go_simp
            refine hK.out _ _ (HM_wd.out _ WD_W64.out) (fun _ => ?_)
            clear hK K
            try simp only [Act.put, List.setIfInBounds_toArray, List.set_cons_zero, List.set_cons_succ]
            generalize W63.alloc (.cells #[.slice none 0 0, .slice none 0 0] 30) = W64 at *
            try rw [← hg]
            clear hg
            refine wpAnyH_ready (rs := [11]) (by kernel_rfl) (by simp) ?_
            refine AllReadyH.cons (oper_at (r := _) rfl) (fun K hK => ?_) AllReadyH.nil
            have fr0 := BA_W64.out.free 0
            have fr1 := BA_W64.out.free 1
            obtain ⟨e0, e1⟩ := BA_W64.out.cells
            go_simp
            clear fr0 fr1 e0 e1
            have S_W65 := Lib.hid (S_W64.out.set (g := gx) (by simp; omega) (.slice Gn Q.ns.length gn) (.slice Ge Q.es.length ge))
            have WD_W65 := Lib.hid ((WD_W64.out.setCell (p := ⟨gx, 0, none⟩) (by show wd.heap.size ≤ gx; omega) (.slice Gn Q.ns.length gn)).setCell (p := ⟨gx, 1, none⟩) (by show wd.heap.size ≤ gx; omega) (.slice Ge Q.es.length ge))
            have BA_W65 := Lib.hid (BA_W64.out.put (.slice Gn Q.ns.length gn) (.slice Ge Q.es.length ge))
            have GQ_W65 := Lib.hid (grAt_set GQ_W64.out BA_W64.out (.slice Gn Q.ns.length gn) (.slice Ge Q.es.length ge))
            have R1_W65 := Lib.hid (ints_set' R1_W64.out BA_W64.out (.slice Gn Q.ns.length gn) (.slice Ge Q.es.length ge))
            have R2_W65 := Lib.hid (ints_set' R2_W64.out BA_W64.out (.slice Gn Q.ns.length gn) (.slice Ge Q.es.length ge))
            have LN_W65 := Lib.hid (LN_W64.out)
            have BB_W65 := Lib.hid (BB_W64.out.far ngxgy (.slice Gn Q.ns.length gn) (.slice Ge Q.es.length ge))
            clear S_W64 WD_W64 BA_W64 GQ_W64 R1_W64 R2_W64 LN_W64 BB_W64
            refine hK.out _ _ (HM_wd.out _ WD_W65.out) (fun _ => ?_)
            clear hK K
            try simp only [Act.put, List.setIfInBounds_toArray, List.set_cons_zero, List.set_cons_succ]
            generalize (W64.setCell ⟨gx, 0, none⟩ (.slice Gn Q.ns.length gn)).setCell ⟨gx, 1, none⟩ (.slice Ge Q.es.length ge) = W65 at *
            refine wpAnyH_ready (rs := [12]) (by kernel_rfl) (by simp) ?_
            refine AllReadyH.cons (oper_at (r := _) rfl) (fun K hK => ?_) AllReadyH.nil
            have fr0 := BB_W65.out.free 0
            have fr1 := BB_W65.out.free 1
            obtain ⟨e0, e1⟩ := BB_W65.out.cells
            go_simp
            clear fr0 fr1 e0 e1
            have S_W66 := Lib.hid (S_W65.out.set (g := gy) (by simp; omega) (.slice Xn R.ns.length xn) (.slice Xe R.es.length xe))
            have WD_W66 := Lib.hid ((WD_W65.out.setCell (p := ⟨gy, 0, none⟩) (by show wd.heap.size ≤ gy; omega) (.slice Xn R.ns.length xn)).setCell (p := ⟨gy, 1, none⟩) (by show wd.heap.size ≤ gy; omega) (.slice Xe R.es.length xe))
            have BA_W66 := Lib.hid (BA_W65.out.far ngygx (.slice Xn R.ns.length xn) (.slice Xe R.es.length xe))
            have GQ_W66 := Lib.hid (grAt_set GQ_W65.out BB_W65.out (.slice Xn R.ns.length xn) (.slice Xe R.es.length xe))
            have R1_W66 := Lib.hid (ints_set' R1_W65.out BB_W65.out (.slice Xn R.ns.length xn) (.slice Xe R.es.length xe))
            have R2_W66 := Lib.hid (ints_set' R2_W65.out BB_W65.out (.slice Xn R.ns.length xn) (.slice Xe R.es.length xe))
            have LN_W66 := Lib.hid (LN_W65.out)
            have BB_W66 := Lib.hid (BB_W65.out.put (.slice Xn R.ns.length xn) (.slice Xe R.es.length xe))
            clear S_W65 WD_W65 BA_W65 GQ_W65 R1_W65 R2_W65 LN_W65 BB_W65
            refine hK.out _ _ (HM_wd.out _ WD_W66.out) (fun _ => ?_)
            clear hK K
            try simp only [Act.put, List.setIfInBounds_toArray, List.set_cons_zero, List.set_cons_succ]
            generalize (W65.setCell ⟨gy, 0, none⟩ (.slice Xn R.ns.length xn)).setCell ⟨gy, 1, none⟩ (.slice Xe R.es.length xe) = W66 at *
            refine wpAnyH_take (i := 13) (v := ?_) (oper_at (r := _) rfl) (by kernel_rfl) (by kernel_rfl) (by kernel_rfl) (fun _ _ _ h => h) (Or.inl ⟨by rfl, ?_⟩) (by assumption) ?_
            rotate_left
            · intro w hSw; try dsimp only at hSw
              go_simp
              try with_reducible rfl
            try simp only [Act.put, List.setIfInBounds_toArray, List.set_cons_zero, List.set_cons_succ]
            refine wpAnyH_done (by kernel_rfl) ?_ _
            refine NoPanic.normal ?_
            go_wp2_with fail
            go_meet
            exact ⟨gx, gy, Gn, gn, Ge, ge, Xn, xn, Xe, xe, rfl, rfl, rfl, BA_W66.out, BB_W66.out, GQ_W66.out, R1_W66.out, R2_W66.out, LN_W66.out, S_W66.out⟩
          · skip
            obtain ⟨gy, hg⟩ : ∃ g, g = W62.heap.size := ⟨_, rfl⟩
            have lgy : wd.heap.size ≤ gy := by rw [hg]; exact WD_W62.out.size
            have ngygx : gx ≠ gy := by have := BA_W62.out.lt; omega
            have ngxgy : gy ≠ gx := Ne.symm ngygx
            have hx : BX gy (.slice none 0 0) (.slice none 0 0) 30 (W62.alloc (.cells #[.slice none 0 0, .slice none 0 0] 30)) := by rw [hg]; exact heap_alloc_new _ _
            have hb : Below W62.heap.size W62 (W62.alloc (.cells #[.slice none 0 0, .slice none 0 0] 30)) := (Below.refl _ _).alloc (Nat.le_refl _) _
            have S_W67 := Lib.hid (S_W62.out.up hb)
            have WD_W67 := Lib.hid (WD_W62.out.trans (hb.mono WD_W62.out.size))
            have BA_W67 := Lib.hid (BA_W62.out.up hb)
            have GR_W67 := Lib.hid (GR_W62.out.up hb)
            have PA_W67 := Lib.hid (PA_W62.out.up hb)
            clear S_W62 WD_W62 BA_W62 GR_W62 PA_W62
            have BB_W67 := Lib.hid hx
            clear hx hb
            go_simp
            refine hK.out _ _ (HM_wd.out _ WD_W67.out) (fun _ => ?_)
            clear hK K
            try simp only [Act.put, List.setIfInBounds_toArray, List.set_cons_zero, List.set_cons_succ]
            generalize W62.alloc (.cells #[.slice none 0 0, .slice none 0 0] 30) = W67 at *
            try rw [← hg]
            clear hg
            refine wpAnyH_ready (rs := [4]) (by kernel_rfl) (by simp) ?_
            refine AllReadyH.cons (oper_at (r := _) rfl) (fun K hK => ?_) AllReadyH.nil
            go_simp
            refine (HE1.out G1 k1 G2 k2 K1 k3 K2 k4 _ GR_W67.out PA_W67.out).mono ?_
            rintro e W68 ⟨⟨Gn, gn, Ge, ge, Xn, xn, Xe, xe, rfl, r1, r2, r3, r4, r5⟩, hb⟩
            have S_W68 := Lib.hid (S_W67.out.up hb)
            have WD_W68 := Lib.hid (WD_W67.out.trans (hb.mono WD_W67.out.size))
            have BA_W68 := Lib.hid (BA_W67.out.up hb)
            have GR_W68 := Lib.hid (GR_W67.out.up hb)
            have PA_W68 := Lib.hid (PA_W67.out.up hb)
            have BB_W68 := Lib.hid (BB_W67.out.up hb)
            clear S_W67 WD_W67 BA_W67 GR_W67 PA_W67 BB_W67
            have GQ_W68 := Lib.hid r1
            have R1_W68 := Lib.hid r2
            have R2_W68 := Lib.hid r3
            have LN_W68 := Lib.hid (And.intro r4 r5)
            clear hb r1 r2 r3
            go_wp2_with fail
            refine hK.out _ _ (HM_wd.out _ WD_W68.out) (fun _ => ?_)
            clear hK K
            try simp only [Act.put, List.setIfInBounds_toArray, List.set_cons_zero, List.set_cons_succ]
            clear r4 r5
            refine wpAnyH_take (i := 5) (v := ?_) (oper_at (r := _) rfl) (by kernel_rfl) (by kernel_rfl) (by kernel_rfl) (fun _ _ _ h => h) (Or.inl ⟨by rfl, ?_⟩) (by assumption) ?_
            rotate_left
            · intro w hSw; try dsimp only at hSw
              go_simp
              try with_reducible rfl
            try simp only [Act.put, List.setIfInBounds_toArray, List.set_cons_zero, List.set_cons_succ]
            refine wpAnyH_take (i := 6) (v := ?_) (oper_at (r := _) rfl) (by kernel_rfl) (by kernel_rfl) (by kernel_rfl) (fun _ _ _ h => h) (Or.inl ⟨by rfl, ?_⟩) (by assumption) ?_
            rotate_left
            · intro w hSw; try dsimp only at hSw
              go_simp
              try with_reducible rfl
            try simp only [Act.put, List.setIfInBounds_toArray, List.set_cons_zero, List.set_cons_succ]
            refine wpAnyH_take (i := 7) (v := ?_) (oper_at (r := _) rfl) (by kernel_rfl) (by kernel_rfl) (by kernel_rfl) (fun _ _ _ h => h) (Or.inl ⟨by rfl, ?_⟩) (by assumption) ?_
            rotate_left
            · intro w hSw; try dsimp only at hSw
              go_simp
              try with_reducible rfl
            try simp only [Act.put, List.setIfInBounds_toArray, List.set_cons_zero, List.set_cons_succ]
            refine wpAnyH_take (i := 8) (v := ?_) (oper_at (r := _) rfl) (by kernel_rfl) (by kernel_rfl) (by kernel_rfl) (fun _ _ _ h => h) (Or.inl ⟨by rfl, ?_⟩) (by assumption) ?_
            rotate_left
            · intro w hSw; try dsimp only at hSw
              go_simp
              try with_reducible rfl
            try simp only [Act.put, List.setIfInBounds_toArray, List.set_cons_zero, List.set_cons_succ]
            refine wpAnyH_ready (rs := [11]) (by kernel_rfl) (by simp) ?_
            refine AllReadyH.cons (oper_at (r := _) rfl) (fun K hK => ?_) AllReadyH.nil
            have fr0 := BA_W68.out.free 0
            have fr1 := BA_W68.out.free 1
            obtain ⟨e0, e1⟩ := BA_W68.out.cells
            go_simp
            clear fr0 fr1 e0 e1
            have S_W69 := Lib.hid (S_W68.out.set (g := gx) (by simp; omega) (.slice Gn Q.ns.length gn) (.slice Ge Q.es.length ge))
            have WD_W69 := Lib.hid ((WD_W68.out.setCell (p := ⟨gx, 0, none⟩) (by show wd.heap.size ≤ gx; omega) (.slice Gn Q.ns.length gn)).setCell (p := ⟨gx, 1, none⟩) (by show wd.heap.size ≤ gx; omega) (.slice Ge Q.es.length ge))
            have BA_W69 := Lib.hid (BA_W68.out.put (.slice Gn Q.ns.length gn) (.slice Ge Q.es.length ge))
            have BB_W69 := Lib.hid (BB_W68.out.far ngxgy (.slice Gn Q.ns.length gn) (.slice Ge Q.es.length ge))
            have GQ_W69 := Lib.hid (grAt_set GQ_W68.out BA_W68.out (.slice Gn Q.ns.length gn) (.slice Ge Q.es.length ge))
            have R1_W69 := Lib.hid (ints_set' R1_W68.out BA_W68.out (.slice Gn Q.ns.length gn) (.slice Ge Q.es.length ge))
            have R2_W69 := Lib.hid (ints_set' R2_W68.out BA_W68.out (.slice Gn Q.ns.length gn) (.slice Ge Q.es.length ge))
            have LN_W69 := Lib.hid (LN_W68.out)
            clear S_W68 WD_W68 BA_W68 BB_W68 GQ_W68 R1_W68 R2_W68 LN_W68
            refine hK.out _ _ (HM_wd.out _ WD_W69.out) (fun _ => ?_)
            clear hK K
            try simp only [Act.put, List.setIfInBounds_toArray, List.set_cons_zero, List.set_cons_succ]
            generalize (W68.setCell ⟨gx, 0, none⟩ (.slice Gn Q.ns.length gn)).setCell ⟨gx, 1, none⟩ (.slice Ge Q.es.length ge) = W69 at *
            refine wpAnyH_ready (rs := [12]) (by kernel_rfl) (by simp) ?_
            refine AllReadyH.cons (oper_at (r := _) rfl) (fun K hK => ?_) AllReadyH.nil
            have fr0 := BB_W69.out.free 0
            have fr1 := BB_W69.out.free 1
            obtain ⟨e0, e1⟩ := BB_W69.out.cells
            go_simp
            clear fr0 fr1 e0 e1
            have S_W70 := Lib.hid (S_W69.out.set (g := gy) (by simp; omega) (.slice Xn R.ns.length xn) (.slice Xe R.es.length xe))
            have WD_W70 := Lib.hid ((WD_W69.out.setCell (p := ⟨gy, 0, none⟩) (by show wd.heap.size ≤ gy; omega) (.slice Xn R.ns.length xn)).setCell (p := ⟨gy, 1, none⟩) (by show wd.heap.size ≤ gy; omega) (.slice Xe R.es.length xe))
            have BA_W70 := Lib.hid (BA_W69.out.far ngygx (.slice Xn R.ns.length xn) (.slice Xe R.es.length xe))
            have BB_W70 := Lib.hid (BB_W69.out.put (.slice Xn R.ns.length xn) (.slice Xe R.es.length xe))
            have GQ_W70 := Lib.hid (grAt_set GQ_W69.out BB_W69.out (.slice Xn R.ns.length xn) (.slice Xe R.es.length xe))
            have R1_W70 := Lib.hid (ints_set' R1_W69.out BB_W69.out (.slice Xn R.ns.length xn) (.slice Xe R.es.length xe))
            have R2_W70 := Lib.hid (ints_set' R2_W69.out BB_W69.out (.slice Xn R.ns.length xn) (.slice Xe R.es.length xe))
            have LN_W70 := Lib.hid (LN_W69.out)
            clear S_W69 WD_W69 BA_W69 BB_W69 GQ_W69 R1_W69 R2_W69 LN_W69
            refine hK.out _ _ (HM_wd.out _ WD_W70.out) (fun _ => ?_)
            clear hK K
            try simp only [Act.put, List.setIfInBounds_toArray, List.set_cons_zero, List.set_cons_succ]
            generalize (W69.setCell ⟨gy, 0, none⟩ (.slice Xn R.ns.length xn)).setCell ⟨gy, 1, none⟩ (.slice Xe R.es.length xe) = W70 at *
            refine wpAnyH_take (i := 13) (v := ?_) (oper_at (r := _) rfl) (by kernel_rfl) (by kernel_rfl) (by kernel_rfl) (fun _ _ _ h => h) (Or.inl ⟨by rfl, ?_⟩) (by assumption) ?_
            rotate_left
            · intro w hSw; try dsimp only at hSw
              go_simp
              try with_reducible rfl
            try simp only [Act.put, List.setIfInBounds_toArray, List.set_cons_zero, List.set_cons_succ]
            refine wpAnyH_done (by kernel_rfl) ?_ _
            refine NoPanic.normal ?_
            go_wp2_with fail
            go_meet
            exact ⟨gx, gy, Gn, gn, Ge, ge, Xn, xn, Xe, xe, rfl, rfl, rfl, BA_W70.out, BB_W70.out, GQ_W70.out, R1_W70.out, R2_W70.out, LN_W70.out, S_W70.out⟩
        · skip
          obtain ⟨gy, hg⟩ : ∃ g, g = W61.heap.size := ⟨_, rfl⟩
          have lgy : wd.heap.size ≤ gy := by rw [hg]; exact WD_W61.out.size
          have ngygx : gx ≠ gy := by have := BA_W61.out.lt; omega
          have ngxgy : gy ≠ gx := Ne.symm ngygx
          have hx : BX gy (.slice none 0 0) (.slice none 0 0) 30 (W61.alloc (.cells #[.slice none 0 0, .slice none 0 0] 30)) := by rw [hg]; exact heap_alloc_new _ _
          have hb : Below W61.heap.size W61 (W61.alloc (.cells #[.slice none 0 0, .slice none 0 0] 30)) := (Below.refl _ _).alloc (Nat.le_refl _) _
          have S_W71 := Lib.hid (S_W61.out.up hb)
          have WD_W71 := Lib.hid (WD_W61.out.trans (hb.mono WD_W61.out.size))
          have BA_W71 := Lib.hid (BA_W61.out.up hb)
          have GR_W71 := Lib.hid (GR_W61.out.up hb)
          clear S_W61 WD_W61 BA_W61 GR_W61
          have BB_W71 := Lib.hid hx
          clear hx hb
          go_simp
          refine hK.out _ _ (HM_wd.out _ WD_W71.out) (fun _ => ?_)
          clear hK K
          try simp only [Act.put, List.setIfInBounds_toArray, List.set_cons_zero, List.set_cons_succ]
          generalize W61.alloc (.cells #[.slice none 0 0, .slice none 0 0] 30) = W71 at *
          try rw [← hg]
          clear hg
          refine wpAnyH_ready (rs := [3]) (by kernel_rfl) (by simp) ?_
          refine AllReadyH.cons (oper_at (r := _) rfl) (fun K hK => ?_) AllReadyH.nil
          go_simp
          refine (HO19.out _ S_W71.out.1).mono ?_
          rintro e W72 ⟨⟨K1, k3, K2, k4, rfl, r1⟩, hb⟩
          have S_W72 := Lib.hid (S_W71.out.up hb)
          have WD_W72 := Lib.hid (WD_W71.out.trans (hb.mono WD_W71.out.size))
          have BA_W72 := Lib.hid (BA_W71.out.up hb)
          have GR_W72 := Lib.hid (GR_W71.out.up hb)
          have BB_W72 := Lib.hid (BB_W71.out.up hb)
          clear S_W71 WD_W71 BA_W71 GR_W71 BB_W71
          have PA_W72 := Lib.hid r1
          clear hb r1
          go_wp2_with fail
          refine hK.out _ _ (HM_wd.out _ WD_W72.out) (fun _ => ?_)
          clear hK K
          try simp only [Act.put, List.setIfInBounds_toArray, List.set_cons_zero, List.set_cons_succ]
          refine wpAnyH_ready (rs := [4]) (by kernel_rfl) (by simp) ?_
          refine AllReadyH.cons (oper_at (r := _) rfl) (fun K hK => ?_) AllReadyH.nil
          go_simp
          refine (HE1.out G1 k1 G2 k2 K1 k3 K2 k4 _ GR_W72.out PA_W72.out).mono ?_
          rintro e W73 ⟨⟨Gn, gn, Ge, ge, Xn, xn, Xe, xe, rfl, r1, r2, r3, r4, r5⟩, hb⟩
          have S_W73 := Lib.hid (S_W72.out.up hb)
          have WD_W73 := Lib.hid (WD_W72.out.trans (hb.mono WD_W72.out.size))
          have BA_W73 := Lib.hid (BA_W72.out.up hb)
          have GR_W73 := Lib.hid (GR_W72.out.up hb)
          have BB_W73 := Lib.hid (BB_W72.out.up hb)
          have PA_W73 := Lib.hid (PA_W72.out.up hb)
          clear S_W72 WD_W72 BA_W72 GR_W72 BB_W72 PA_W72
          have GQ_W73 := Lib.hid r1
          have R1_W73 := Lib.hid r2
          have R2_W73 := Lib.hid r3
          have LN_W73 := Lib.hid (And.intro r4 r5)
          clear hb r1 r2 r3
          go_wp2_with fail
          refine hK.out _ _ (HM_wd.out _ WD_W73.out) (fun _ => ?_)
          clear hK K
          try simp only [Act.put, List.setIfInBounds_toArray, List.set_cons_zero, List.set_cons_succ]
          clear r4 r5
          refine wpAnyH_take (i := 5) (v := ?_) (oper_at (r := _) rfl) (by kernel_rfl) (by kernel_rfl) (by kernel_rfl) (fun _ _ _ h => h) (Or.inl ⟨by rfl, ?_⟩) (by assumption) ?_
          rotate_left
          · intro w hSw; try dsimp only at hSw
            go_simp
            try with_reducible rfl
          try simp only [Act.put, List.setIfInBounds_toArray, List.set_cons_zero, List.set_cons_succ]
          refine wpAnyH_take (i := 6) (v := ?_) (oper_at (r := _) rfl) (by kernel_rfl) (by kernel_rfl) (by kernel_rfl) (fun _ _ _ h => h) (Or.inl ⟨by rfl, ?_⟩) (by assumption) ?_
          rotate_left
          · intro w hSw; try dsimp only at hSw
            go_simp
            try with_reducible rfl
          try simp only [Act.put, List.setIfInBounds_toArray, List.set_cons_zero, List.set_cons_succ]
          refine wpAnyH_take (i := 7) (v := ?_) (oper_at (r := _) rfl) (by kernel_rfl) (by kernel_rfl) (by kernel_rfl) (fun _ _ _ h => h) (Or.inl ⟨by rfl, ?_⟩) (by assumption) ?_
          rotate_left
          · intro w hSw; try dsimp only at hSw
            go_simp
            try with_reducible rfl
          try simp only [Act.put, List.setIfInBounds_toArray, List.set_cons_zero, List.set_cons_succ]
          refine wpAnyH_take (i := 8) (v := ?_) (oper_at (r := _) rfl) (by kernel_rfl) (by kernel_rfl) (by kernel_rfl) (fun _ _ _ h => h) (Or.inl ⟨by rfl, ?_⟩) (by assumption) ?_
          rotate_left
          · intro w hSw; try dsimp only at hSw
            go_simp
            try with_reducible rfl
          try simp only [Act.put, List.setIfInBounds_toArray, List.set_cons_zero, List.set_cons_succ]
          refine wpAnyH_ready (rs := [11]) (by kernel_rfl) (by simp) ?_
          refine AllReadyH.cons (oper_at (r := _) rfl) (fun K hK => ?_) AllReadyH.nil
          have fr0 := BA_W73.out.free 0
          have fr1 := BA_W73.out.free 1
          obtain ⟨e0, e1⟩ := BA_W73.out.cells
          go_simp
          clear fr0 fr1 e0 e1
          have S_W74 := Lib.hid (S_W73.out.set (g := gx) (by simp; omega) (.slice Gn Q.ns.length gn) (.slice Ge Q.es.length ge))
          have WD_W74 := Lib.hid ((WD_W73.out.setCell (p := ⟨gx, 0, none⟩) (by show wd.heap.size ≤ gx; omega) (.slice Gn Q.ns.length gn)).setCell (p := ⟨gx, 1, none⟩) (by show wd.heap.size ≤ gx; omega) (.slice Ge Q.es.length ge))
          have BA_W74 := Lib.hid (BA_W73.out.put (.slice Gn Q.ns.length gn) (.slice Ge Q.es.length ge))
          have BB_W74 := Lib.hid (BB_W73.out.far ngxgy (.slice Gn Q.ns.length gn) (.slice Ge Q.es.length ge))
          have GQ_W74 := Lib.hid (grAt_set GQ_W73.out BA_W73.out (.slice Gn Q.ns.length gn) (.slice Ge Q.es.length ge))
          have R1_W74 := Lib.hid (ints_set' R1_W73.out BA_W73.out (.slice Gn Q.ns.length gn) (.slice Ge Q.es.length ge))
          have R2_W74 := Lib.hid (ints_set' R2_W73.out BA_W73.out (.slice Gn Q.ns.length gn) (.slice Ge Q.es.length ge))
          have LN_W74 := Lib.hid (LN_W73.out)
          clear S_W73 WD_W73 BA_W73 BB_W73 GQ_W73 R1_W73 R2_W73 LN_W73
          refine hK.out _ _ (HM_wd.out _ WD_W74.out) (fun _ => ?_)
          clear hK K
          try simp only [Act.put, List.setIfInBounds_toArray, List.set_cons_zero, List.set_cons_succ]
          generalize (W73.setCell ⟨gx, 0, none⟩ (.slice Gn Q.ns.length gn)).setCell ⟨gx, 1, none⟩ (.slice Ge Q.es.length ge) = W74 at *
          refine wpAnyH_ready (rs := [12]) (by kernel_rfl) (by simp) ?_
          refine AllReadyH.cons (oper_at (r := _) rfl) (fun K hK => ?_) AllReadyH.nil
          have fr0 := BB_W74.out.free 0
          have fr1 := BB_W74.out.free 1
          obtain ⟨e0, e1⟩ := BB_W74.out.cells
          go_simp
          clear fr0 fr1 e0 e1
          have S_W75 := Lib.hid (S_W74.out.set (g := gy) (by simp; omega) (.slice Xn R.ns.length xn) (.slice Xe R.es.length xe))
          have WD_W75 := Lib.hid ((WD_W74.out.setCell (p := ⟨gy, 0, none⟩) (by show wd.heap.size ≤ gy; omega) (.slice Xn R.ns.length xn)).setCell (p := ⟨gy, 1, none⟩) (by show wd.heap.size ≤ gy; omega) (.slice Xe R.es.length xe))
          have BA_W75 := Lib.hid (BA_W74.out.far ngygx (.slice Xn R.ns.length xn) (.slice Xe R.es.length xe))
          have BB_W75 := Lib.hid (BB_W74.out.put (.slice Xn R.ns.length xn) (.slice Xe R.es.length xe))
          have GQ_W75 := Lib.hid (grAt_set GQ_W74.out BB_W74.out (.slice Xn R.ns.length xn) (.slice Xe R.es.length xe))
          have R1_W75 := Lib.hid (ints_set' R1_W74.out BB_W74.out (.slice Xn R.ns.length xn) (.slice Xe R.es.length xe))
          have R2_W75 := Lib.hid (ints_set' R2_W74.out BB_W74.out (.slice Xn R.ns.length xn) (.slice Xe R.es.length xe))
          have LN_W75 := Lib.hid (LN_W74.out)
          clear S_W74 WD_W74 BA_W74 BB_W74 GQ_W74 R1_W74 R2_W74 LN_W74
          refine hK.out _ _ (HM_wd.out _ WD_W75.out) (fun _ => ?_)
          clear hK K
          try simp only [Act.put, List.setIfInBounds_toArray, List.set_cons_zero, List.set_cons_succ]
          generalize (W74.setCell ⟨gy, 0, none⟩ (.slice Xn R.ns.length xn)).setCell ⟨gy, 1, none⟩ (.slice Xe R.es.length xe) = W75 at *
          refine wpAnyH_take (i := 13) (v := ?_) (oper_at (r := _) rfl) (by kernel_rfl) (by kernel_rfl) (by kernel_rfl) (fun _ _ _ h => h) (Or.inl ⟨by rfl, ?_⟩) (by assumption) ?_
          rotate_left
          · intro w hSw; try dsimp only at hSw
            go_simp
            try with_reducible rfl
          try simp only [Act.put, List.setIfInBounds_toArray, List.set_cons_zero, List.set_cons_succ]
          refine wpAnyH_done (by kernel_rfl) ?_ _
          refine NoPanic.normal ?_
          go_wp2_with fail
          go_meet
          exact ⟨gx, gy, Gn, gn, Ge, ge, Xn, xn, Xe, xe, rfl, rfl, rfl, BA_W75.out, BB_W75.out, GQ_W75.out, R1_W75.out, R2_W75.out, LN_W75.out, S_W75.out⟩
      · skip
        obtain ⟨gy, hg⟩ : ∃ g, g = W60.heap.size := ⟨_, rfl⟩
        have lgy : wd.heap.size ≤ gy := by rw [hg]; exact WD_W60.out.size
        have ngygx : gx ≠ gy := by have := BA_W60.out.lt; omega
        have ngxgy : gy ≠ gx := Ne.symm ngygx
        have hx : BX gy (.slice none 0 0) (.slice none 0 0) 30 (W60.alloc (.cells #[.slice none 0 0, .slice none 0 0] 30)) := by rw [hg]; exact heap_alloc_new _ _
        have hb : Below W60.heap.size W60 (W60.alloc (.cells #[.slice none 0 0, .slice none 0 0] 30)) := (Below.refl _ _).alloc (Nat.le_refl _) _
        have S_W76 := Lib.hid (S_W60.out.up hb)
        have WD_W76 := Lib.hid (WD_W60.out.trans (hb.mono WD_W60.out.size))
        have BA_W76 := Lib.hid (BA_W60.out.up hb)
        clear S_W60 WD_W60 BA_W60
        have BB_W76 := Lib.hid hx
        clear hx hb
        go_simp
        refine hK.out _ _ (HM_wd.out _ WD_W76.out) (fun _ => ?_)
        clear hK K
        try simp only [Act.put, List.setIfInBounds_toArray, List.set_cons_zero, List.set_cons_succ]
        generalize W60.alloc (.cells #[.slice none 0 0, .slice none 0 0] 30) = W76 at *
        try rw [← hg]
        clear hg
        refine wpAnyH_ready (rs := [1]) (by kernel_rfl) (by simp) ?_
        refine AllReadyH.cons (oper_at (r := _) rfl) (fun K hK => ?_) AllReadyH.nil
        go_simp
        refine (HCP9.out _ S_W76.out.1).mono ?_
        rintro e W77 ⟨⟨G1, k1, G2, k2, rfl, r1⟩, hb⟩
        have S_W77 := Lib.hid (S_W76.out.up hb)
        have WD_W77 := Lib.hid (WD_W76.out.trans (hb.mono WD_W76.out.size))
        have BA_W77 := Lib.hid (BA_W76.out.up hb)
        have BB_W77 := Lib.hid (BB_W76.out.up hb)
        clear S_W76 WD_W76 BA_W76 BB_W76
        have GR_W77 := Lib.hid r1
        clear hb r1
        go_wp2_with fail
        refine hK.out _ _ (HM_wd.out _ WD_W77.out) (fun _ => ?_)
        clear hK K
        try simp only [Act.put, List.setIfInBounds_toArray, List.set_cons_zero, List.set_cons_succ]
        refine wpAnyH_ready (rs := [3]) (by kernel_rfl) (by simp) ?_
        refine AllReadyH.cons (oper_at (r := _) rfl) (fun K hK => ?_) AllReadyH.nil
        go_simp
        refine (HO19.out _ S_W77.out.1).mono ?_
        rintro e W78 ⟨⟨K1, k3, K2, k4, rfl, r1⟩, hb⟩
        have S_W78 := Lib.hid (S_W77.out.up hb)
        have WD_W78 := Lib.hid (WD_W77.out.trans (hb.mono WD_W77.out.size))
        have BA_W78 := Lib.hid (BA_W77.out.up hb)
        have BB_W78 := Lib.hid (BB_W77.out.up hb)
        have GR_W78 := Lib.hid (GR_W77.out.up hb)
        clear S_W77 WD_W77 BA_W77 BB_W77 GR_W77
        have PA_W78 := Lib.hid r1
        clear hb r1
        go_wp2_with fail
        refine hK.out _ _ (HM_wd.out _ WD_W78.out) (fun _ => ?_)
        clear hK K
        try simp only [Act.put, List.setIfInBounds_toArray, List.set_cons_zero, List.set_cons_succ]
        refine wpAnyH_ready (rs := [4]) (by kernel_rfl) (by simp) ?_
        refine AllReadyH.cons (oper_at (r := _) rfl) (fun K hK => ?_) AllReadyH.nil
        go_simp
        refine (HE1.out G1 k1 G2 k2 K1 k3 K2 k4 _ GR_W78.out PA_W78.out).mono ?_
        rintro e W79 ⟨⟨Gn, gn, Ge, ge, Xn, xn, Xe, xe, rfl, r1, r2, r3, r4, r5⟩, hb⟩
        have S_W79 := Lib.hid (S_W78.out.up hb)
        have WD_W79 := Lib.hid (WD_W78.out.trans (hb.mono WD_W78.out.size))
        have BA_W79 := Lib.hid (BA_W78.out.up hb)
        have BB_W79 := Lib.hid (BB_W78.out.up hb)
        have GR_W79 := Lib.hid (GR_W78.out.up hb)
        have PA_W79 := Lib.hid (PA_W78.out.up hb)
        clear S_W78 WD_W78 BA_W78 BB_W78 GR_W78 PA_W78
        have GQ_W79 := Lib.hid r1
        have R1_W79 := Lib.hid r2
        have R2_W79 := Lib.hid r3
        have LN_W79 := Lib.hid (And.intro r4 r5)
        clear hb r1 r2 r3
        go_wp2_with fail
        refine hK.out _ _ (HM_wd.out _ WD_W79.out) (fun _ => ?_)
        clear hK K
        try simp only [Act.put, List.setIfInBounds_toArray, List.set_cons_zero, List.set_cons_succ]
        clear r4 r5
        refine wpAnyH_take (i := 5) (v := ?_) (oper_at (r := _) rfl) (by kernel_rfl) (by kernel_rfl) (by kernel_rfl) (fun _ _ _ h => h) (Or.inl ⟨by rfl, ?_⟩) (by assumption) ?_
        rotate_left
        · intro w hSw; try dsimp only at hSw
          go_simp
          try with_reducible rfl
        try simp only [Act.put, List.setIfInBounds_toArray, List.set_cons_zero, List.set_cons_succ]
        refine wpAnyH_take (i := 6) (v := ?_) (oper_at (r := _) rfl) (by kernel_rfl) (by kernel_rfl) (by kernel_rfl) (fun _ _ _ h => h) (Or.inl ⟨by rfl, ?_⟩) (by assumption) ?_
        rotate_left
        · intro w hSw; try dsimp only at hSw
          go_simp
          try with_reducible rfl
        try simp only [Act.put, List.setIfInBounds_toArray, List.set_cons_zero, List.set_cons_succ]
        refine wpAnyH_take (i := 7) (v := ?_) (oper_at (r := _) rfl) (by kernel_rfl) (by kernel_rfl) (by kernel_rfl) (fun _ _ _ h => h) (Or.inl ⟨by rfl, ?_⟩) (by assumption) ?_
        rotate_left
        · intro w hSw; try dsimp only at hSw
          go_simp
          try with_reducible rfl
        try simp only [Act.put, List.setIfInBounds_toArray, List.set_cons_zero, List.set_cons_succ]
        refine wpAnyH_take (i := 8) (v := ?_) (oper_at (r := _) rfl) (by kernel_rfl) (by kernel_rfl) (by kernel_rfl) (fun _ _ _ h => h) (Or.inl ⟨by rfl, ?_⟩) (by assumption) ?_
        rotate_left
        · intro w hSw; try dsimp only at hSw
          go_simp
          try with_reducible rfl
        try simp only [Act.put, List.setIfInBounds_toArray, List.set_cons_zero, List.set_cons_succ]
        refine wpAnyH_ready (rs := [11]) (by kernel_rfl) (by simp) ?_
        refine AllReadyH.cons (oper_at (r := _) rfl) (fun K hK => ?_) AllReadyH.nil
        have fr0 := BA_W79.out.free 0
        have fr1 := BA_W79.out.free 1
        obtain ⟨e0, e1⟩ := BA_W79.out.cells
        go_simp
        clear fr0 fr1 e0 e1
        have S_W80 := Lib.hid (S_W79.out.set (g := gx) (by simp; omega) (.slice Gn Q.ns.length gn) (.slice Ge Q.es.length ge))
        have WD_W80 := Lib.hid ((WD_W79.out.setCell (p := ⟨gx, 0, none⟩) (by show wd.heap.size ≤ gx; omega) (.slice Gn Q.ns.length gn)).setCell (p := ⟨gx, 1, none⟩) (by show wd.heap.size ≤ gx; omega) (.slice Ge Q.es.length ge))
        have BA_W80 := Lib.hid (BA_W79.out.put (.slice Gn Q.ns.length gn) (.slice Ge Q.es.length ge))
        have BB_W80 := Lib.hid (BB_W79.out.far ngxgy (.slice Gn Q.ns.length gn) (.slice Ge Q.es.length ge))
        have GQ_W80 := Lib.hid (grAt_set GQ_W79.out BA_W79.out (.slice Gn Q.ns.length gn) (.slice Ge Q.es.length ge))
        have R1_W80 := Lib.hid (ints_set' R1_W79.out BA_W79.out (.slice Gn Q.ns.length gn) (.slice Ge Q.es.length ge))
        have R2_W80 := Lib.hid (ints_set' R2_W79.out BA_W79.out (.slice Gn Q.ns.length gn) (.slice Ge Q.es.length ge))
        have LN_W80 := Lib.hid (LN_W79.out)
        clear S_W79 WD_W79 BA_W79 BB_W79 GQ_W79 R1_W79 R2_W79 LN_W79
        refine hK.out _ _ (HM_wd.out _ WD_W80.out) (fun _ => ?_)
        clear hK K
        try simp only [Act.put, List.setIfInBounds_toArray, List.set_cons_zero, List.set_cons_succ]
        generalize (W79.setCell ⟨gx, 0, none⟩ (.slice Gn Q.ns.length gn)).setCell ⟨gx, 1, none⟩ (.slice Ge Q.es.length ge) = W80 at *
        refine wpAnyH_ready (rs := [12]) (by kernel_rfl) (by simp) ?_
        refine AllReadyH.cons (oper_at (r := _) rfl) (fun K hK => ?_) AllReadyH.nil
        have fr0 := BB_W80.out.free 0
        have fr1 := BB_W80.out.free 1
        obtain ⟨e0, e1⟩ := BB_W80.out.cells
        go_simp
        clear fr0 fr1 e0 e1
        have S_W81 := Lib.hid (S_W80.out.set (g := gy) (by simp; omega) (.slice Xn R.ns.length xn) (.slice Xe R.es.length xe))
        have WD_W81 := Lib.hid ((WD_W80.out.setCell (p := ⟨gy, 0, none⟩) (by show wd.heap.size ≤ gy; omega) (.slice Xn R.ns.length xn)).setCell (p := ⟨gy, 1, none⟩) (by show wd.heap.size ≤ gy; omega) (.slice Xe R.es.length xe))
        have BA_W81 := Lib.hid (BA_W80.out.far ngygx (.slice Xn R.ns.length xn) (.slice Xe R.es.length xe))
        have BB_W81 := Lib.hid (BB_W80.out.put (.slice Xn R.ns.length xn) (.slice Xe R.es.length xe))
        have GQ_W81 := Lib.hid (grAt_set GQ_W80.out BB_W80.out (.slice Xn R.ns.length xn) (.slice Xe R.es.length xe))
        have R1_W81 := Lib.hid (ints_set' R1_W80.out BB_W80.out (.slice Xn R.ns.length xn) (.slice Xe R.es.length xe))
        have R2_W81 := Lib.hid (ints_set' R2_W80.out BB_W80.out (.slice Xn R.ns.length xn) (.slice Xe R.es.length xe))
        have LN_W81 := Lib.hid (LN_W80.out)
        clear S_W80 WD_W80 BA_W80 BB_W80 GQ_W80 R1_W80 R2_W80 LN_W80
        refine hK.out _ _ (HM_wd.out _ WD_W81.out) (fun _ => ?_)
        clear hK K
        try simp only [Act.put, List.setIfInBounds_toArray, List.set_cons_zero, List.set_cons_succ]
        generalize (W80.setCell ⟨gy, 0, none⟩ (.slice Xn R.ns.length xn)).setCell ⟨gy, 1, none⟩ (.slice Xe R.es.length xe) = W81 at *
        refine wpAnyH_take (i := 13) (v := ?_) (oper_at (r := _) rfl) (by kernel_rfl) (by kernel_rfl) (by kernel_rfl) (fun _ _ _ h => h) (Or.inl ⟨by rfl, ?_⟩) (by assumption) ?_
        rotate_left
        · intro w hSw; try dsimp only at hSw
          go_simp
          try with_reducible rfl
        try simp only [Act.put, List.setIfInBounds_toArray, List.set_cons_zero, List.set_cons_succ]
        refine wpAnyH_done (by kernel_rfl) ?_ _
        refine NoPanic.normal ?_
        go_wp2_with fail
        go_meet
        exact ⟨gx, gy, Gn, gn, Ge, ge, Xn, xn, Xe, xe, rfl, rfl, rfl, BA_W81.out, BB_W81.out, GQ_W81.out, R1_W81.out, R2_W81.out, LN_W81.out, S_W81.out⟩
    · skip
      obtain ⟨gy, hg⟩ : ∃ g, g = wd.heap.size := ⟨_, rfl⟩
      have lgy : wd.heap.size ≤ gy := by rw [hg]; exact WD_wd.out.size
      have hx : BX gy (.slice none 0 0) (.slice none 0 0) 30 (wd.alloc (.cells #[.slice none 0 0, .slice none 0 0] 30)) := by rw [hg]; exact heap_alloc_new _ _
      have hb : Below wd.heap.size wd (wd.alloc (.cells #[.slice none 0 0, .slice none 0 0] 30)) := (Below.refl _ _).alloc (Nat.le_refl _) _
      have S_W82 := Lib.hid (S_wd.out.up hb)
      have WD_W82 := Lib.hid (WD_wd.out.trans (hb.mono WD_wd.out.size))
      clear S_wd WD_wd
      have BB_W82 := Lib.hid hx
      clear hx hb
      go_simp
      refine hK.out _ _ (HM_wd.out _ WD_W82.out) (fun _ => ?_)
      clear hK K
      try simp only [Act.put, List.setIfInBounds_toArray, List.set_cons_zero, List.set_cons_succ]
      generalize wd.alloc (.cells #[.slice none 0 0, .slice none 0 0] 30) = W82 at *
      try rw [← hg]
      clear hg
      refine wpAnyH_ready (rs := [1, 9]) (by kernel_rfl) (by simp) ?_
      refine (AllReadyH.cons (oper_at (r := _) rfl) (fun K hK => ?_) (AllReadyH.cons (oper_at (r := _) rfl) (fun K hK => ?_) AllReadyH.nil))
      · skip
        go_simp
        refine (HCP9.out _ S_W82.out.1).mono ?_
        rintro e W83 ⟨⟨G1, k1, G2, k2, rfl, r1⟩, hb⟩
        have S_W83 := Lib.hid (S_W82.out.up hb)
        have WD_W83 := Lib.hid (WD_W82.out.trans (hb.mono WD_W82.out.size))
        have BB_W83 := Lib.hid (BB_W82.out.up hb)
        clear S_W82 WD_W82 BB_W82
        have GR_W83 := Lib.hid r1
        clear hb r1
        go_wp2_with fail
        refine hK.out _ _ (HM_wd.out _ WD_W83.out) (fun _ => ?_)
        clear hK K
        try simp only [Act.put, List.setIfInBounds_toArray, List.set_cons_zero, List.set_cons_succ]
        refine wpAnyH_ready (rs := [3, 9]) (by kernel_rfl) (by simp) ?_
        refine (AllReadyH.cons (oper_at (r := _) rfl) (fun K hK => ?_) (AllReadyH.cons (oper_at (r := _) rfl) (fun K hK => ?_) AllReadyH.nil))
        · skip
          go_simp
          refine (HO19.out _ S_W83.out.1).mono ?_
          rintro e W84 ⟨⟨K1, k3, K2, k4, rfl, r1⟩, hb⟩
          have S_W84 := Lib.hid (S_W83.out.up hb)
          have WD_W84 := Lib.hid (WD_W83.out.trans (hb.mono WD_W83.out.size))
          have BB_W84 := Lib.hid (BB_W83.out.up hb)
          have GR_W84 := Lib.hid (GR_W83.out.up hb)
          clear S_W83 WD_W83 BB_W83 GR_W83
          have PA_W84 := Lib.hid r1
          clear hb r1
          go_wp2_with fail
          refine hK.out _ _ (HM_wd.out _ WD_W84.out) (fun _ => ?_)
          clear hK K
          try simp only [Act.put, List.setIfInBounds_toArray, List.set_cons_zero, List.set_cons_succ]
          refine wpAnyH_ready (rs := [4, 9]) (by kernel_rfl) (by simp) ?_
          refine (AllReadyH.cons (oper_at (r := _) rfl) (fun K hK => ?_) (AllReadyH.cons (oper_at (r := _) rfl) (fun K hK => ?_) AllReadyH.nil))
          · skip
            go_simp
            refine (HE1.out G1 k1 G2 k2 K1 k3 K2 k4 _ GR_W84.out PA_W84.out).mono ?_
            rintro e W85 ⟨⟨Gn, gn, Ge, ge, Xn, xn, Xe, xe, rfl, r1, r2, r3, r4, r5⟩, hb⟩
            have S_W85 := Lib.hid (S_W84.out.up hb)
            have WD_W85 := Lib.hid (WD_W84.out.trans (hb.mono WD_W84.out.size))
            have BB_W85 := Lib.hid (BB_W84.out.up hb)
            have GR_W85 := Lib.hid (GR_W84.out.up hb)
            have PA_W85 := Lib.hid (PA_W84.out.up hb)
            clear S_W84 WD_W84 BB_W84 GR_W84 PA_W84
            have GQ_W85 := Lib.hid r1
            have R1_W85 := Lib.hid r2
            have R2_W85 := Lib.hid r3
            have LN_W85 := Lib.hid (And.intro r4 r5)
            clear hb r1 r2 r3
            go_wp2_with fail
            refine hK.out _ _ (HM_wd.out _ WD_W85.out) (fun _ => ?_)
            clear hK K
            try simp only [Act.put, List.setIfInBounds_toArray, List.set_cons_zero, List.set_cons_succ]
            clear r4 r5
            refine wpAnyH_take (i := 5) (v := ?_) (oper_at (r := _) rfl) (by kernel_rfl) (by kernel_rfl) (by kernel_rfl) (fun _ _ _ h => h) (Or.inl ⟨by rfl, ?_⟩) (by assumption) ?_
            rotate_left
            · intro w hSw; try dsimp only at hSw
              go_simp
              try with_reducible rfl
            try simp only [Act.put, List.setIfInBounds_toArray, List.set_cons_zero, List.set_cons_succ]
            refine wpAnyH_take (i := 6) (v := ?_) (oper_at (r := _) rfl) (by kernel_rfl) (by kernel_rfl) (by kernel_rfl) (fun _ _ _ h => h) (Or.inl ⟨by rfl, ?_⟩) (by assumption) ?_
            rotate_left
            · intro w hSw; try dsimp only at hSw
              go_simp
              try with_reducible rfl
            try simp only [Act.put, List.setIfInBounds_toArray, List.set_cons_zero, List.set_cons_succ]
            refine wpAnyH_take (i := 7) (v := ?_) (oper_at (r := _) rfl) (by kernel_rfl) (by kernel_rfl) (by kernel_rfl) (fun _ _ _ h => h) (Or.inl ⟨by rfl, ?_⟩) (by assumption) ?_
            rotate_left
            · intro w hSw; try dsimp only at hSw
              go_simp
              try with_reducible rfl
            try simp only [Act.put, List.setIfInBounds_toArray, List.set_cons_zero, List.set_cons_succ]
            refine wpAnyH_take (i := 8) (v := ?_) (oper_at (r := _) rfl) (by kernel_rfl) (by kernel_rfl) (by kernel_rfl) (fun _ _ _ h => h) (Or.inl ⟨by rfl, ?_⟩) (by assumption) ?_
            rotate_left
            · intro w hSw; try dsimp only at hSw
              go_simp
              try with_reducible rfl
            try simp only [Act.put, List.setIfInBounds_toArray, List.set_cons_zero, List.set_cons_succ]
            refine wpAnyH_ready (rs := [9]) (by kernel_rfl) (by simp) ?_
            refine AllReadyH.cons (oper_at (r := _) rfl) (fun K hK => ?_) AllReadyH.nil
            obtain ⟨gx, hg⟩ : ∃ g, g = W85.heap.size := ⟨_, rfl⟩
            have lgx : wd.heap.size ≤ gx := by rw [hg]; exact WD_W85.out.size
            have ngxgy : gy ≠ gx := by have := BB_W85.out.lt; omega
            have ngygx : gx ≠ gy := Ne.symm ngxgy
            have hx : BX gx (.slice none 0 0) (.slice none 0 0) 25 (W85.alloc (.cells #[.slice none 0 0, .slice none 0 0] 25)) := by rw [hg]; exact heap_alloc_new _ _
            have hb : Below W85.heap.size W85 (W85.alloc (.cells #[.slice none 0 0, .slice none 0 0] 25)) := (Below.refl _ _).alloc (Nat.le_refl _) _
            have S_W86 := Lib.hid (S_W85.out.up hb)
            have WD_W86 := Lib.hid (WD_W85.out.trans (hb.mono WD_W85.out.size))
            have BB_W86 := Lib.hid (BB_W85.out.up hb)
            have GQ_W86 := Lib.hid (GQ_W85.out.up hb)
            have R1_W86 := Lib.hid (Reads.up R1_W85.out hb)
            have R2_W86 := Lib.hid (Reads.up R2_W85.out hb)
            have LN_W86 := Lib.hid (LN_W85.out)
            clear S_W85 WD_W85 BB_W85 GQ_W85 R1_W85 R2_W85 LN_W85
            have BA_W86 := Lib.hid hx
            clear hx hb
            go_simp
            refine hK.out _ _ (HM_wd.out _ WD_W86.out) (fun _ => ?_)
            clear hK K
            try simp only [Act.put, List.setIfInBounds_toArray, List.set_cons_zero, List.set_cons_succ]
            generalize W85.alloc (.cells #[.slice none 0 0, .slice none 0 0] 25) = W86 at *
            try rw [← hg]
            clear hg
            refine wpAnyH_ready (rs := [11]) (by kernel_rfl) (by simp) ?_
            refine AllReadyH.cons (oper_at (r := _) rfl) (fun K hK => ?_) AllReadyH.nil
            have fr0 := BA_W86.out.free 0
            have fr1 := BA_W86.out.free 1
            obtain ⟨e0, e1⟩ := BA_W86.out.cells
            go_simp
            clear fr0 fr1 e0 e1
            have S_W87 := Lib.hid (S_W86.out.set (g := gx) (by simp; omega) (.slice Gn Q.ns.length gn) (.slice Ge Q.es.length ge))
            have WD_W87 := Lib.hid ((WD_W86.out.setCell (p := ⟨gx, 0, none⟩) (by show wd.heap.size ≤ gx; omega) (.slice Gn Q.ns.length gn)).setCell (p := ⟨gx, 1, none⟩) (by show wd.heap.size ≤ gx; omega) (.slice Ge Q.es.length ge))
            have BB_W87 := Lib.hid (BB_W86.out.far ngxgy (.slice Gn Q.ns.length gn) (.slice Ge Q.es.length ge))
            have GQ_W87 := Lib.hid (grAt_set GQ_W86.out BA_W86.out (.slice Gn Q.ns.length gn) (.slice Ge Q.es.length ge))
            have R1_W87 := Lib.hid (ints_set' R1_W86.out BA_W86.out (.slice Gn Q.ns.length gn) (.slice Ge Q.es.length ge))
            have R2_W87 := Lib.hid (ints_set' R2_W86.out BA_W86.out (.slice Gn Q.ns.length gn) (.slice Ge Q.es.length ge))
            have LN_W87 := Lib.hid (LN_W86.out)
            have BA_W87 := Lib.hid (BA_W86.out.put (.slice Gn Q.ns.length gn) (.slice Ge Q.es.length ge))
            clear S_W86 WD_W86 BB_W86 GQ_W86 R1_W86 R2_W86 LN_W86 BA_W86
            refine hK.out _ _ (HM_wd.out _ WD_W87.out) (fun _ => ?_)
            clear hK K
            try simp only [Act.put, List.setIfInBounds_toArray, List.set_cons_zero, List.set_cons_succ]
            generalize (W86.setCell ⟨gx, 0, none⟩ (.slice Gn Q.ns.length gn)).setCell ⟨gx, 1, none⟩ (.slice Ge Q.es.length ge) = W87 at *
            refine wpAnyH_ready (rs := [12]) (by kernel_rfl) (by simp) ?_
            refine AllReadyH.cons (oper_at (r := _) rfl) (fun K hK => ?_) AllReadyH.nil
            have fr0 := BB_W87.out.free 0
            have fr1 := BB_W87.out.free 1
            obtain ⟨e0, e1⟩ := BB_W87.out.cells
            go_simp
            clear fr0 fr1 e0 e1
            have S_W88 := Lib.hid (S_W87.out.set (g := gy) (by simp; omega) (.slice Xn R.ns.length xn) (.slice Xe R.es.length xe))
            have WD_W88 := Lib.hid ((WD_W87.out.setCell (p := ⟨gy, 0, none⟩) (by show wd.heap.size ≤ gy; omega) (.slice Xn R.ns.length xn)).setCell (p := ⟨gy, 1, none⟩) (by show wd.heap.size ≤ gy; omega) (.slice Xe R.es.length xe))
            have BB_W88 := Lib.hid (BB_W87.out.put (.slice Xn R.ns.length xn) (.slice Xe R.es.length xe))
            have GQ_W88 := Lib.hid (grAt_set GQ_W87.out BB_W87.out (.slice Xn R.ns.length xn) (.slice Xe R.es.length xe))
            have R1_W88 := Lib.hid (ints_set' R1_W87.out BB_W87.out (.slice Xn R.ns.length xn) (.slice Xe R.es.length xe))
            have R2_W88 := Lib.hid (ints_set' R2_W87.out BB_W87.out (.slice Xn R.ns.length xn) (.slice Xe R.es.length xe))
            have LN_W88 := Lib.hid (LN_W87.out)
            have BA_W88 := Lib.hid (BA_W87.out.far ngygx (.slice Xn R.ns.length xn) (.slice Xe R.es.length xe))
            clear S_W87 WD_W87 BB_W87 GQ_W87 R1_W87 R2_W87 LN_W87 BA_W87
            refine hK.out _ _ (HM_wd.out _ WD_W88.out) (fun _ => ?_)
            clear hK K
            try simp only [Act.put, List.setIfInBounds_toArray, List.set_cons_zero, List.set_cons_succ]
            generalize (W87.setCell ⟨gy, 0, none⟩ (.slice Xn R.ns.length xn)).setCell ⟨gy, 1, none⟩ (.slice Xe R.es.length xe) = W88 at *
            refine wpAnyH_take (i := 13) (v := ?_) (oper_at (r := _) rfl) (by kernel_rfl) (by kernel_rfl) (by kernel_rfl) (fun _ _ _ h => h) (Or.inl ⟨by rfl, ?_⟩) (by assumption) ?_
            rotate_left
            · intro w hSw; try dsimp only at hSw
              go_simp
              try with_reducible rfl
            try simp only [Act.put, List.setIfInBounds_toArray, List.set_cons_zero, List.set_cons_succ]
            refine wpAnyH_done (by kernel_rfl) ?_ _
            refine NoPanic.normal ?_
            go_wp2_with fail
            go_meet
            exact ⟨gx, gy, Gn, gn, Ge, ge, Xn, xn, Xe, xe, rfl, rfl, rfl, BA_W88.out, BB_W88.out, GQ_W88.out, R1_W88.out, R2_W88.out, LN_W88.out, S_W88.out⟩
          · skip
            obtain ⟨gx, hg⟩ : ∃ g, g = W84.heap.size := ⟨_, rfl⟩
            have lgx : wd.heap.size ≤ gx := by rw [hg]; exact WD_W84.out.size
            have ngxgy : gy ≠ gx := by have := BB_W84.out.lt; omega
            have ngygx : gx ≠ gy := Ne.symm ngxgy
            have hx : BX gx (.slice none 0 0) (.slice none 0 0) 25 (W84.alloc (.cells #[.slice none 0 0, .slice none 0 0] 25)) := by rw [hg]; exact heap_alloc_new _ _
            have hb : Below W84.heap.size W84 (W84.alloc (.cells #[.slice none 0 0, .slice none 0 0] 25)) := (Below.refl _ _).alloc (Nat.le_refl _) _
            have S_W89 := Lib.hid (S_W84.out.up hb)
            have WD_W89 := Lib.hid (WD_W84.out.trans (hb.mono WD_W84.out.size))
            have BB_W89 := Lib.hid (BB_W84.out.up hb)
            have GR_W89 := Lib.hid (GR_W84.out.up hb)
            have PA_W89 := Lib.hid (PA_W84.out.up hb)
            clear S_W84 WD_W84 BB_W84 GR_W84 PA_W84
            have BA_W89 := Lib.hid hx
            clear hx hb
            go_simp
            refine hK.out _ _ (HM_wd.out _ WD_W89.out) (fun _ => ?_)
            clear hK K
            try simp only [Act.put, List.setIfInBounds_toArray, List.set_cons_zero, List.set_cons_succ]
            generalize W84.alloc (.cells #[.slice none 0 0, .slice none 0 0] 25) = W89 at *
            try rw [← hg]
            clear hg
            refine wpAnyH_ready (rs := [4]) (by kernel_rfl) (by simp) ?_
            refine AllReadyH.cons (oper_at (r := _) rfl) (fun K hK => ?_) AllReadyH.nil
            go_simp
            refine (HE1.out G1 k1 G2 k2 K1 k3 K2 k4 _ GR_W89.out PA_W89.out).mono ?_
            rintro e W90 ⟨⟨Gn, gn, Ge, ge, Xn, xn, Xe, xe, rfl, r1, r2, r3, r4, r5⟩, hb⟩
            have S_W90 := Lib.hid (S_W89.out.up hb)
            have WD_W90 := Lib.hid (WD_W89.out.trans (hb.mono WD_W89.out.size))
            have BB_W90 := Lib.hid (BB_W89.out.up hb)
            have GR_W90 := Lib.hid (GR_W89.out.up hb)
            have PA_W90 := Lib.hid (PA_W89.out.up hb)
            have BA_W90 := Lib.hid (BA_W89.out.up hb)
            clear S_W89 WD_W89 BB_W89 GR_W89 PA_W89 BA_W89
            have GQ_W90 := Lib.hid r1
            have R1_W90 := Lib.hid r2
            have R2_W90 := Lib.hid r3
            have LN_W90 := Lib.hid (And.intro r4 r5)
            clear hb r1 r2 r3
            go_wp2_with fail
            refine hK.out _ _ (HM_wd.out _ WD_W90.out) (fun _ => ?_)
            clear hK K
            try simp only [Act.put, List.setIfInBounds_toArray, List.set_cons_zero, List.set_cons_succ]
            clear r4 r5
            refine wpAnyH_take (i := 5) (v := ?_) (oper_at (r := _) rfl) (by kernel_rfl) (by kernel_rfl) (by kernel_rfl) (fun _ _ _ h => h) (Or.inl ⟨by rfl, ?_⟩) (by assumption) ?_
            rotate_left
            · intro w hSw; try dsimp only at hSw
              go_simp
              try with_reducible rfl
            try simp only [Act.put, List.setIfInBounds_toArray, List.set_cons_zero, List.set_cons_succ]
            refine wpAnyH_take (i := 6) (v := ?_) (oper_at (r := _) rfl) (by kernel_rfl) (by kernel_rfl) (by kernel_rfl) (fun _ _ _ h => h) (Or.inl ⟨by rfl, ?_⟩) (by assumption) ?_
            rotate_left
            · intro w hSw; try dsimp only at hSw
              go_simp
              try with_reducible rfl
            try simp only [Act.put, List.setIfInBounds_toArray, List.set_cons_zero, List.set_cons_succ]
            refine wpAnyH_take (i := 7) (v := ?_) (oper_at (r := _) rfl) (by kernel_rfl) (by kernel_rfl) (by kernel_rfl) (fun _ _ _ h => h) (Or.inl ⟨by rfl, ?_⟩) (by assumption) ?_
            rotate_left
            · intro w hSw; try dsimp only at hSw
              go_simp
              try with_reducible rfl
            try simp only [Act.put, List.setIfInBounds_toArray, List.set_cons_zero, List.set_cons_succ]
            refine wpAnyH_take (i := 8) (v := ?_) (oper_at (r := _) rfl) (by kernel_rfl) (by kernel_rfl) (by kernel_rfl) (fun _ _ _ h => h) (Or.inl ⟨by rfl, ?_⟩) (by assumption) ?_
            rotate_left
            · intro w hSw; try dsimp only at hSw
              go_simp
              try with_reducible rfl
            try simp only [Act.put, List.setIfInBounds_toArray, List.set_cons_zero, List.set_cons_succ]
            refine wpAnyH_ready (rs := [11]) (by kernel_rfl) (by simp) ?_
            refine AllReadyH.cons (oper_at (r := _) rfl) (fun K hK => ?_) AllReadyH.nil
            have fr0 := BA_W90.out.free 0
            have fr1 := BA_W90.out.free 1
            obtain ⟨e0, e1⟩ := BA_W90.out.cells
            go_simp
            clear fr0 fr1 e0 e1
            have S_W91 := Lib.hid (S_W90.out.set (g := gx) (by simp; omega) (.slice Gn Q.ns.length gn) (.slice Ge Q.es.length ge))
            have WD_W91 := Lib.hid ((WD_W90.out.setCell (p := ⟨gx, 0, none⟩) (by show wd.heap.size ≤ gx; omega) (.slice Gn Q.ns.length gn)).setCell (p := ⟨gx, 1, none⟩) (by show wd.heap.size ≤ gx; omega) (.slice Ge Q.es.length ge))
            have BB_W91 := Lib.hid (BB_W90.out.far ngxgy (.slice Gn Q.ns.length gn) (.slice Ge Q.es.length ge))
            have BA_W91 := Lib.hid (BA_W90.out.put (.slice Gn Q.ns.length gn) (.slice Ge Q.es.length ge))
            have GQ_W91 := Lib.hid (grAt_set GQ_W90.out BA_W90.out (.slice Gn Q.ns.length gn) (.slice Ge Q.es.length ge))
            have R1_W91 := Lib.hid (ints_set' R1_W90.out BA_W90.out (.slice Gn Q.ns.length gn) (.slice Ge Q.es.length ge))
            have R2_W91 := Lib.hid (ints_set' R2_W90.out BA_W90.out (.slice Gn Q.ns.length gn) (.slice Ge Q.es.length ge))
            have LN_W91 := Lib.hid (LN_W90.out)
            clear S_W90 WD_W90 BB_W90 BA_W90 GQ_W90 R1_W90 R2_W90 LN_W90
            refine hK.out _ _ (HM_wd.out _ WD_W91.out) (fun _ => ?_)
            clear hK K
            try simp only [Act.put, List.setIfInBounds_toArray, List.set_cons_zero, List.set_cons_succ]
            generalize (W90.setCell ⟨gx, 0, none⟩ (.slice Gn Q.ns.length gn)).setCell ⟨gx, 1, none⟩ (.slice Ge Q.es.length ge) = W91 at *
            refine wpAnyH_ready (rs := [12]) (by kernel_rfl) (by simp) ?_
            refine AllReadyH.cons (oper_at (r := _) rfl) (fun K hK => ?_) AllReadyH.nil
            have fr0 := BB_W91.out.free 0
            have fr1 := BB_W91.out.free 1
            obtain ⟨e0, e1⟩ := BB_W91.out.cells
            go_simp
            clear fr0 fr1 e0 e1
            have S_W92 := Lib.hid (S_W91.out.set (g := gy) (by simp; omega) (.slice Xn R.ns.length xn) (.slice Xe R.es.length xe))
            have WD_W92 := Lib.hid ((WD_W91.out.setCell (p := ⟨gy, 0, none⟩) (by show wd.heap.size ≤ gy; omega) (.slice Xn R.ns.length xn)).setCell (p := ⟨gy, 1, none⟩) (by show wd.heap.size ≤ gy; omega) (.slice Xe R.es.length xe))
            have BB_W92 := Lib.hid (BB_W91.out.put (.slice Xn R.ns.length xn) (.slice Xe R.es.length xe))
            have BA_W92 := Lib.hid (BA_W91.out.far ngygx (.slice Xn R.ns.length xn) (.slice Xe R.es.length xe))
            have GQ_W92 := Lib.hid (grAt_set GQ_W91.out BB_W91.out (.slice Xn R.ns.length xn) (.slice Xe R.es.length xe))
            have R1_W92 := Lib.hid (ints_set' R1_W91.out BB_W91.out (.slice Xn R.ns.length xn) (.slice Xe R.es.length xe))
            have R2_W92 := Lib.hid (ints_set' R2_W91.out BB_W91.out (.slice Xn R.ns.length xn) (.slice Xe R.es.length xe))
            have LN_W92 := Lib.hid (LN_W91.out)
            clear S_W91 WD_W91 BB_W91 BA_W91 GQ_W91 R1_W91 R2_W91 LN_W91
            refine hK.out _ _ (HM_wd.out _ WD_W92.out) (fun _ => ?_)
            clear hK K
            try simp only [Act.put, List.setIfInBounds_toArray, List.set_cons_zero, List.set_cons_succ]
            generalize (W91.setCell ⟨gy, 0, none⟩ (.slice Xn R.ns.length xn)).setCell ⟨gy, 1, none⟩ (.slice Xe R.es.length xe) = W92 at *
            refine wpAnyH_take (i := 13) (v := ?_) (oper_at (r := _) rfl) (by kernel_rfl) (by kernel_rfl) (by kernel_rfl) (fun _ _ _ h => h) (Or.inl ⟨by rfl, ?_⟩) (by assumption) ?_
            rotate_left
            · intro w hSw; try dsimp only at hSw
              go_simp
              try with_reducible rfl
            try simp only [Act.put, List.setIfInBounds_toArray, List.set_cons_zero, List.set_cons_succ]
            refine wpAnyH_done (by kernel_rfl) ?_ _
            refine NoPanic.normal ?_
            go_wp2_with fail
            go_meet
            exact ⟨gx, gy, Gn, gn, Ge, ge, Xn, xn, Xe, xe, rfl, rfl, rfl, BA_W92.out, BB_W92.out, GQ_W92.out, R1_W92.out, R2_W92.out, LN_W92.out, S_W92.out⟩
        · skip
          obtain ⟨gx, hg⟩ : ∃ g, g = W83.heap.size := ⟨_, rfl⟩
          have lgx : wd.heap.size ≤ gx := by rw [hg]; exact WD_W83.out.size
          have ngxgy : gy ≠ gx := by have := BB_W83.out.lt; omega
          have ngygx : gx ≠ gy := Ne.symm ngxgy
          have hx : BX gx (.slice none 0 0) (.slice none 0 0) 25 (W83.alloc (.cells #[.slice none 0 0, .slice none 0 0] 25)) := by rw [hg]; exact heap_alloc_new _ _
          have hb : Below W83.heap.size W83 (W83.alloc (.cells #[.slice none 0 0, .slice none 0 0] 25)) := (Below.refl _ _).alloc (Nat.le_refl _) _
          have S_W93 := Lib.hid (S_W83.out.up hb)
          have WD_W93 := Lib.hid (WD_W83.out.trans (hb.mono WD_W83.out.size))
          have BB_W93 := Lib.hid (BB_W83.out.up hb)
          have GR_W93 := Lib.hid (GR_W83.out.up hb)
          clear S_W83 WD_W83 BB_W83 GR_W83
          have BA_W93 := Lib.hid hx
          clear hx hb
          go_simp
          refine hK.out _ _ (HM_wd.out _ WD_W93.out) (fun _ => ?_)
          clear hK K
          try simp only [Act.put, List.setIfInBounds_toArray, List.set_cons_zero, List.set_cons_succ]
          generalize W83.alloc (.cells #[.slice none 0 0, .slice none 0 0] 25) = W93 at *
          try rw [← hg]
          clear hg
          refine wpAnyH_ready (rs := [3]) (by kernel_rfl) (by simp) ?_
          refine AllReadyH.cons (oper_at (r := _) rfl) (fun K hK => ?_) AllReadyH.nil
          go_simp
          refine (HO19.out _ S_W93.out.1).mono ?_
          rintro e W94 ⟨⟨K1, k3, K2, k4, rfl, r1⟩, hb⟩
          have S_W94 := Lib.hid (S_W93.out.up hb)
          have WD_W94 := Lib.hid (WD_W93.out.trans (hb.mono WD_W93.out.size))
          have BB_W94 := Lib.hid (BB_W93.out.up hb)
          have GR_W94 := Lib.hid (GR_W93.out.up hb)
          have BA_W94 := Lib.hid (BA_W93.out.up hb)
          clear S_W93 WD_W93 BB_W93 GR_W93 BA_W93
          have PA_W94 := Lib.hid r1
          clear hb r1
          go_wp2_with fail
          refine hK.out _ _ (HM_wd.out _ WD_W94.out) (fun _ => ?_)
          clear hK K
          try simp only [Act.put, List.setIfInBounds_toArray, List.set_cons_zero, List.set_cons_succ]
          refine wpAnyH_ready (rs := [4]) (by kernel_rfl) (by simp) ?_
          refine AllReadyH.cons (oper_at (r := _) rfl) (fun K hK => ?_) AllReadyH.nil
          go_simp
          refine (HE1.out G1 k1 G2 k2 K1 k3 K2 k4 _ GR_W94.out PA_W94.out).mono ?_
          rintro e W95 ⟨⟨Gn, gn, Ge, ge, Xn, xn, Xe, xe, rfl, r1, r2, r3, r4, r5⟩, hb⟩
          have S_W95 := Lib.hid (S_W94.out.up hb)
          have WD_W95 := Lib.hid (WD_W94.out.trans (hb.mono WD_W94.out.size))
          have BB_W95 := Lib.hid (BB_W94.out.up hb)
          have GR_W95 := Lib.hid (GR_W94.out.up hb)
          have BA_W95 := Lib.hid (BA_W94.out.up hb)
          have PA_W95 := Lib.hid (PA_W94.out.up hb)
          clear S_W94 WD_W94 BB_W94 GR_W94 BA_W94 PA_W94
          have GQ_W95 := Lib.hid r1
          have R1_W95 := Lib.hid r2
          have R2_W95 := Lib.hid r3
          have LN_W95 := Lib.hid (And.intro r4 r5)
          clear hb r1 r2 r3
          go_wp2_with fail
          refine hK.out _ _ (HM_wd.out _ WD_W95.out) (fun _ => ?_)
          clear hK K
          try simp only [Act.put, List.setIfInBounds_toArray, List.set_cons_zero, List.set_cons_succ]
          clear r4 r5
          refine wpAnyH_take (i := 5) (v := ?_) (oper_at (r := _) rfl) (by kernel_rfl) (by kernel_rfl) (by kernel_rfl) (fun _ _ _ h => h) (Or.inl ⟨by rfl, ?_⟩) (by assumption) ?_
          rotate_left
          · intro w hSw; try dsimp only at hSw
            go_simp
            try with_reducible rfl
          try simp only [Act.put, List.setIfInBounds_toArray, List.set_cons_zero, List.set_cons_succ]
          refine wpAnyH_take (i := 6) (v := ?_) (oper_at (r := _) rfl) (by kernel_rfl) (by kernel_rfl) (by kernel_rfl) (fun _ _ _ h => h) (Or.inl ⟨by rfl, ?_⟩) (by assumption) ?_
          rotate_left
          · intro w hSw; try dsimp only at hSw
            go_simp
            try with_reducible rfl
          try simp only [Act.put, List.setIfInBounds_toArray, List.set_cons_zero, List.set_cons_succ]
          refine wpAnyH_take (i := 7) (v := ?_) (oper_at (r := _) rfl) (by kernel_rfl) (by kernel_rfl) (by kernel_rfl) (fun _ _ _ h => h) (Or.inl ⟨by rfl, ?_⟩) (by assumption) ?_
          rotate_left
          · intro w hSw; try dsimp only at hSw
            go_simp
            try with_reducible rfl
          try simp only [Act.put, List.setIfInBounds_toArray, List.set_cons_zero, List.set_cons_succ]
          refine wpAnyH_take (i := 8) (v := ?_) (oper_at (r := _) rfl) (by kernel_rfl) (by kernel_rfl) (by kernel_rfl) (fun _ _ _ h => h) (Or.inl ⟨by rfl, ?_⟩) (by assumption) ?_
          rotate_left
          · intro w hSw; try dsimp only at hSw
            go_simp
            try with_reducible rfl
          try simp only [Act.put, List.setIfInBounds_toArray, List.set_cons_zero, List.set_cons_succ]
          refine wpAnyH_ready (rs := [11]) (by kernel_rfl) (by simp) ?_
          refine AllReadyH.cons (oper_at (r := _) rfl) (fun K hK => ?_) AllReadyH.nil
          have fr0 := BA_W95.out.free 0
          have fr1 := BA_W95.out.free 1
          obtain ⟨e0, e1⟩ := BA_W95.out.cells
          go_simp
          clear fr0 fr1 e0 e1
          have S_W96 := Lib.hid (S_W95.out.set (g := gx) (by simp; omega) (.slice Gn Q.ns.length gn) (.slice Ge Q.es.length ge))
          have WD_W96 := Lib.hid ((WD_W95.out.setCell (p := ⟨gx, 0, none⟩) (by show wd.heap.size ≤ gx; omega) (.slice Gn Q.ns.length gn)).setCell (p := ⟨gx, 1, none⟩) (by show wd.heap.size ≤ gx; omega) (.slice Ge Q.es.length ge))
          have BB_W96 := Lib.hid (BB_W95.out.far ngxgy (.slice Gn Q.ns.length gn) (.slice Ge Q.es.length ge))
          have BA_W96 := Lib.hid (BA_W95.out.put (.slice Gn Q.ns.length gn) (.slice Ge Q.es.length ge))
          have GQ_W96 := Lib.hid (grAt_set GQ_W95.out BA_W95.out (.slice Gn Q.ns.length gn) (.slice Ge Q.es.length ge))
          have R1_W96 := Lib.hid (ints_set' R1_W95.out BA_W95.out (.slice Gn Q.ns.length gn) (.slice Ge Q.es.length ge))
          have R2_W96 := Lib.hid (ints_set' R2_W95.out BA_W95.out (.slice Gn Q.ns.length gn) (.slice Ge Q.es.length ge))
          have LN_W96 := Lib.hid (LN_W95.out)
          clear S_W95 WD_W95 BB_W95 BA_W95 GQ_W95 R1_W95 R2_W95 LN_W95
          refine hK.out _ _ (HM_wd.out _ WD_W96.out) (fun _ => ?_)
          clear hK K
          try simp only [Act.put, List.setIfInBounds_toArray, List.set_cons_zero, List.set_cons_succ]
          generalize (W95.setCell ⟨gx, 0, none⟩ (.slice Gn Q.ns.length gn)).setCell ⟨gx, 1, none⟩ (.slice Ge Q.es.length ge) = W96 at *
          refine wpAnyH_ready (rs := [12]) (by kernel_rfl) (by simp) ?_
          refine AllReadyH.cons (oper_at (r := _) rfl) (fun K hK => ?_) AllReadyH.nil
          have fr0 := BB_W96.out.free 0
          have fr1 := BB_W96.out.free 1
          obtain ⟨e0, e1⟩ := BB_W96.out.cells
          go_simp
          clear fr0 fr1 e0 e1
          have S_W97 := Lib.hid (S_W96.out.set (g := gy) (by simp; omega) (.slice Xn R.ns.length xn) (.slice Xe R.es.length xe))
          have WD_W97 := Lib.hid ((WD_W96.out.setCell (p := ⟨gy, 0, none⟩) (by show wd.heap.size ≤ gy; omega) (.slice Xn R.ns.length xn)).setCell (p := ⟨gy, 1, none⟩) (by show wd.heap.size ≤ gy; omega) (.slice Xe R.es.length xe))
          have BB_W97 := Lib.hid (BB_W96.out.put (.slice Xn R.ns.length xn) (.slice Xe R.es.length xe))
          have BA_W97 := Lib.hid (BA_W96.out.far ngygx (.slice Xn R.ns.length xn) (.slice Xe R.es.length xe))
          have GQ_W97 := Lib.hid (grAt_set GQ_W96.out BB_W96.out (.slice Xn R.ns.length xn) (.slice Xe R.es.length xe))
          have R1_W97 := Lib.hid (ints_set' R1_W96.out BB_W96.out (.slice Xn R.ns.length xn) (.slice Xe R.es.length xe))
          have R2_W97 := Lib.hid (ints_set' R2_W96.out BB_W96.out (.slice Xn R.ns.length xn) (.slice Xe R.es.length xe))
          have LN_W97 := Lib.hid (LN_W96.out)
          clear S_W96 WD_W96 BB_W96 BA_W96 GQ_W96 R1_W96 R2_W96 LN_W96
          refine hK.out _ _ (HM_wd.out _ WD_W97.out) (fun _ => ?_)
          clear hK K
          try simp only [Act.put, List.setIfInBounds_toArray, List.set_cons_zero, List.set_cons_succ]
          generalize (W96.setCell ⟨gy, 0, none⟩ (.slice Xn R.ns.length xn)).setCell ⟨gy, 1, none⟩ (.slice Xe R.es.length xe) = W97 at *
          refine wpAnyH_take (i := 13) (v := ?_) (oper_at (r := _) rfl) (by kernel_rfl) (by kernel_rfl) (by kernel_rfl) (fun _ _ _ h => h) (Or.inl ⟨by rfl, ?_⟩) (by assumption) ?_
          rotate_left
          · intro w hSw; try dsimp only at hSw
            go_simp
            try with_reducible rfl
          try simp only [Act.put, List.setIfInBounds_toArray, List.set_cons_zero, List.set_cons_succ]
          refine wpAnyH_done (by kernel_rfl) ?_ _
          refine NoPanic.normal ?_
          go_wp2_with fail
          go_meet
          exact ⟨gx, gy, Gn, gn, Ge, ge, Xn, xn, Xe, xe, rfl, rfl, rfl, BA_W97.out, BB_W97.out, GQ_W97.out, R1_W97.out, R2_W97.out, LN_W97.out, S_W97.out⟩
      · skip
        obtain ⟨gx, hg⟩ : ∃ g, g = W82.heap.size := ⟨_, rfl⟩
        have lgx : wd.heap.size ≤ gx := by rw [hg]; exact WD_W82.out.size
        have ngxgy : gy ≠ gx := by have := BB_W82.out.lt; omega
        have ngygx : gx ≠ gy := Ne.symm ngxgy
        have hx : BX gx (.slice none 0 0) (.slice none 0 0) 25 (W82.alloc (.cells #[.slice none 0 0, .slice none 0 0] 25)) := by rw [hg]; exact heap_alloc_new _ _
        have hb : Below W82.heap.size W82 (W82.alloc (.cells #[.slice none 0 0, .slice none 0 0] 25)) := (Below.refl _ _).alloc (Nat.le_refl _) _
        have S_W98 := Lib.hid (S_W82.out.up hb)
        have WD_W98 := Lib.hid (WD_W82.out.trans (hb.mono WD_W82.out.size))
        have BB_W98 := Lib.hid (BB_W82.out.up hb)
        clear S_W82 WD_W82 BB_W82
        have BA_W98 := Lib.hid hx
        clear hx hb
        go_simp
        refine hK.out _ _ (HM_wd.out _ WD_W98.out) (fun _ => ?_)
        clear hK K
        try simp only [Act.put, List.setIfInBounds_toArray, List.set_cons_zero, List.set_cons_succ]
        generalize W82.alloc (.cells #[.slice none 0 0, .slice none 0 0] 25) = W98 at *
        try rw [← hg]
        clear hg
        refine wpAnyH_ready (rs := [1]) (by kernel_rfl) (by simp) ?_
        refine AllReadyH.cons (oper_at (r := _) rfl) (fun K hK => ?_) AllReadyH.nil
        go_simp
        refine (HCP9.out _ S_W98.out.1).mono ?_
        rintro e W99 ⟨⟨G1, k1, G2, k2, rfl, r1⟩, hb⟩
        have S_W99 := Lib.hid (S_W98.out.up hb)
        have WD_W99 := Lib.hid (WD_W98.out.trans (hb.mono WD_W98.out.size))
        have BB_W99 := Lib.hid (BB_W98.out.up hb)
        have BA_W99 := Lib.hid (BA_W98.out.up hb)
        clear S_W98 WD_W98 BB_W98 BA_W98
        have GR_W99 := Lib.hid r1
        clear hb r1
        go_wp2_with fail
        refine hK.out _ _ (HM_wd.out _ WD_W99.out) (fun _ => ?_)
        clear hK K
        try simp only [Act.put, List.setIfInBounds_toArray, List.set_cons_zero, List.set_cons_succ]
        refine wpAnyH_ready (rs := [3]) (by kernel_rfl) (by simp) ?_
        refine AllReadyH.cons (oper_at (r := _) rfl) (fun K hK => ?_) AllReadyH.nil
        go_simp
        refine (HO19.out _ S_W99.out.1).mono ?_
        rintro e W100 ⟨⟨K1, k3, K2, k4, rfl, r1⟩, hb⟩
        have S_W100 := Lib.hid (S_W99.out.up hb)
        have WD_W100 := Lib.hid (WD_W99.out.trans (hb.mono WD_W99.out.size))
        have BB_W100 := Lib.hid (BB_W99.out.up hb)
        have BA_W100 := Lib.hid (BA_W99.out.up hb)
        have GR_W100 := Lib.hid (GR_W99.out.up hb)
        clear S_W99 WD_W99 BB_W99 BA_W99 GR_W99
        have PA_W100 := Lib.hid r1
        clear hb r1
        go_wp2_with fail
        refine hK.out _ _ (HM_wd.out _ WD_W100.out) (fun _ => ?_)
        clear hK K
        try simp only [Act.put, List.setIfInBounds_toArray, List.set_cons_zero, List.set_cons_succ]
        refine wpAnyH_ready (rs := [4]) (by kernel_rfl) (by simp) ?_
        refine AllReadyH.cons (oper_at (r := _) rfl) (fun K hK => ?_) AllReadyH.nil
        go_simp
        refine (HE1.out G1 k1 G2 k2 K1 k3 K2 k4 _ GR_W100.out PA_W100.out).mono ?_
        rintro e W101 ⟨⟨Gn, gn, Ge, ge, Xn, xn, Xe, xe, rfl, r1, r2, r3, r4, r5⟩, hb⟩
        have S_W101 := Lib.hid (S_W100.out.up hb)
        have WD_W101 := Lib.hid (WD_W100.out.trans (hb.mono WD_W100.out.size))
        have BB_W101 := Lib.hid (BB_W100.out.up hb)
        have BA_W101 := Lib.hid (BA_W100.out.up hb)
        have GR_W101 := Lib.hid (GR_W100.out.up hb)
        have PA_W101 := Lib.hid (PA_W100.out.up hb)
        clear S_W100 WD_W100 BB_W100 BA_W100 GR_W100 PA_W100
        have GQ_W101 := Lib.hid r1
        have R1_W101 := Lib.hid r2
        have R2_W101 := Lib.hid r3
        have LN_W101 := Lib.hid (And.intro r4 r5)
        clear hb r1 r2 r3
        go_wp2_with fail
        refine hK.out _ _ (HM_wd.out _ WD_W101.out) (fun _ => ?_)
        clear hK K
        try simp only [Act.put, List.setIfInBounds_toArray, List.set_cons_zero, List.set_cons_succ]
        clear r4 r5
        refine wpAnyH_take (i := 5) (v := ?_) (oper_at (r := _) rfl) (by kernel_rfl) (by kernel_rfl) (by kernel_rfl) (fun _ _ _ h => h) (Or.inl ⟨by rfl, ?_⟩) (by assumption) ?_
        rotate_left
        · intro w hSw; try dsimp only at hSw
          go_simp
          try with_reducible rfl
        try simp only [Act.put, List.setIfInBounds_toArray, List.set_cons_zero, List.set_cons_succ]
        refine wpAnyH_take (i := 6) (v := ?_) (oper_at (r := _) rfl) (by kernel_rfl) (by kernel_rfl) (by kernel_rfl) (fun _ _ _ h => h) (Or.inl ⟨by rfl, ?_⟩) (by assumption) ?_
        rotate_left
        · intro w hSw; try dsimp only at hSw
          go_simp
          try with_reducible rfl
        try simp only [Act.put, List.setIfInBounds_toArray, List.set_cons_zero, List.set_cons_succ]
        refine wpAnyH_take (i := 7) (v := ?_) (oper_at (r := _) rfl) (by kernel_rfl) (by kernel_rfl) (by kernel_rfl) (fun _ _ _ h => h) (Or.inl ⟨by rfl, ?_⟩) (by assumption) ?_
        rotate_left
        · intro w hSw; try dsimp only at hSw
          go_simp
          try with_reducible rfl
        try simp only [Act.put, List.setIfInBounds_toArray, List.set_cons_zero, List.set_cons_succ]
        refine wpAnyH_take (i := 8) (v := ?_) (oper_at (r := _) rfl) (by kernel_rfl) (by kernel_rfl) (by kernel_rfl) (fun _ _ _ h => h) (Or.inl ⟨by rfl, ?_⟩) (by assumption) ?_
        rotate_left
        · intro w hSw; try dsimp only at hSw
          go_simp
          try with_reducible rfl
        try simp only [Act.put, List.setIfInBounds_toArray, List.set_cons_zero, List.set_cons_succ]
        refine wpAnyH_ready (rs := [11]) (by kernel_rfl) (by simp) ?_
        refine AllReadyH.cons (oper_at (r := _) rfl) (fun K hK => ?_) AllReadyH.nil
        have fr0 := BA_W101.out.free 0
        have fr1 := BA_W101.out.free 1
        obtain ⟨e0, e1⟩ := BA_W101.out.cells
        go_simp
        clear fr0 fr1 e0 e1
        have S_W102 := Lib.hid (S_W101.out.set (g := gx) (by simp; omega) (.slice Gn Q.ns.length gn) (.slice Ge Q.es.length ge))
        have WD_W102 := Lib.hid ((WD_W101.out.setCell (p := ⟨gx, 0, none⟩) (by show wd.heap.size ≤ gx; omega) (.slice Gn Q.ns.length gn)).setCell (p := ⟨gx, 1, none⟩) (by show wd.heap.size ≤ gx; omega) (.slice Ge Q.es.length ge))
        have BB_W102 := Lib.hid (BB_W101.out.far ngxgy (.slice Gn Q.ns.length gn) (.slice Ge Q.es.length ge))
        have BA_W102 := Lib.hid (BA_W101.out.put (.slice Gn Q.ns.length gn) (.slice Ge Q.es.length ge))
        have GQ_W102 := Lib.hid (grAt_set GQ_W101.out BA_W101.out (.slice Gn Q.ns.length gn) (.slice Ge Q.es.length ge))
        have R1_W102 := Lib.hid (ints_set' R1_W101.out BA_W101.out (.slice Gn Q.ns.length gn) (.slice Ge Q.es.length ge))
        have R2_W102 := Lib.hid (ints_set' R2_W101.out BA_W101.out (.slice Gn Q.ns.length gn) (.slice Ge Q.es.length ge))
        have LN_W102 := Lib.hid (LN_W101.out)
        clear S_W101 WD_W101 BB_W101 BA_W101 GQ_W101 R1_W101 R2_W101 LN_W101
        refine hK.out _ _ (HM_wd.out _ WD_W102.out) (fun _ => ?_)
        clear hK K
        try simp only [Act.put, List.setIfInBounds_toArray, List.set_cons_zero, List.set_cons_succ]
        generalize (W101.setCell ⟨gx, 0, none⟩ (.slice Gn Q.ns.length gn)).setCell ⟨gx, 1, none⟩ (.slice Ge Q.es.length ge) = W102 at *
        refine wpAnyH_ready (rs := [12]) (by kernel_rfl) (by simp) ?_
        refine AllReadyH.cons (oper_at (r := _) rfl) (fun K hK => ?_) AllReadyH.nil
        have fr0 := BB_W102.out.free 0
        have fr1 := BB_W102.out.free 1
        obtain ⟨e0, e1⟩ := BB_W102.out.cells
        go_simp
        clear fr0 fr1 e0 e1
        have S_W103 := Lib.hid (S_W102.out.set (g := gy) (by simp; omega) (.slice Xn R.ns.length xn) (.slice Xe R.es.length xe))
        have WD_W103 := Lib.hid ((WD_W102.out.setCell (p := ⟨gy, 0, none⟩) (by show wd.heap.size ≤ gy; omega) (.slice Xn R.ns.length xn)).setCell (p := ⟨gy, 1, none⟩) (by show wd.heap.size ≤ gy; omega) (.slice Xe R.es.length xe))
        have BB_W103 := Lib.hid (BB_W102.out.put (.slice Xn R.ns.length xn) (.slice Xe R.es.length xe))
        have BA_W103 := Lib.hid (BA_W102.out.far ngygx (.slice Xn R.ns.length xn) (.slice Xe R.es.length xe))
        have GQ_W103 := Lib.hid (grAt_set GQ_W102.out BB_W102.out (.slice Xn R.ns.length xn) (.slice Xe R.es.length xe))
        have R1_W103 := Lib.hid (ints_set' R1_W102.out BB_W102.out (.slice Xn R.ns.length xn) (.slice Xe R.es.length xe))
        have R2_W103 := Lib.hid (ints_set' R2_W102.out BB_W102.out (.slice Xn R.ns.length xn) (.slice Xe R.es.length xe))
        have LN_W103 := Lib.hid (LN_W102.out)
        clear S_W102 WD_W102 BB_W102 BA_W102 GQ_W102 R1_W102 R2_W102 LN_W102
        refine hK.out _ _ (HM_wd.out _ WD_W103.out) (fun _ => ?_)
        clear hK K
        try simp only [Act.put, List.setIfInBounds_toArray, List.set_cons_zero, List.set_cons_succ]
        generalize (W102.setCell ⟨gy, 0, none⟩ (.slice Xn R.ns.length xn)).setCell ⟨gy, 1, none⟩ (.slice Xe R.es.length xe) = W103 at *
        refine wpAnyH_take (i := 13) (v := ?_) (oper_at (r := _) rfl) (by kernel_rfl) (by kernel_rfl) (by kernel_rfl) (fun _ _ _ h => h) (Or.inl ⟨by rfl, ?_⟩) (by assumption) ?_
        rotate_left
        · intro w hSw; try dsimp only at hSw
          go_simp
          try with_reducible rfl
        try simp only [Act.put, List.setIfInBounds_toArray, List.set_cons_zero, List.set_cons_succ]
        refine wpAnyH_done (by kernel_rfl) ?_ _
        refine NoPanic.normal ?_
        go_wp2_with fail
        go_meet
        exact ⟨gx, gy, Gn, gn, Ge, ge, Xn, xn, Xe, xe, rfl, rfl, rfl, BA_W103.out, BB_W103.out, GQ_W103.out, R1_W103.out, R2_W103.out, LN_W103.out, S_W103.out⟩
  case rest =>
    obtain ⟨g1, g2, G1, n1, G2, n2, X1, x1, Y1, y1, rfl, rfl, rfl, hb1, hb2, hq, r1, r2, hl, hS⟩ := hcut
    have B1_wc := Lib.hid hb1
    have B2_wc := Lib.hid hb2
    have GQ_wc := Lib.hid hq
    have R1_wc := Lib.hid r1
    have R2_wc := Lib.hid r2
    have HL1 := Lib.hid hl
    have S_wc := Lib.hid hS
    clear hb1 hb2 hq r1 r2 hl hS HS2 HE1
    have c0 := S_wc.out.cell (i := 0) (j := 0) rfl rfl
    have c1 := S_wc.out.cell (i := 0) (j := 1) rfl rfl
    have d0 := S_wc.out.cell (i := 1) (j := 0) rfl rfl
    have d1 := S_wc.out.cell (i := 1) (j := 1) rfl rfl
    simp only [Nat.add_zero] at c0 c1
    go_wp2_with fail
    refine (HE2.out _ S_wc.out.1 (HPP9.out _ S_wc.out.1)).mono ?_
    rintro e w5 ⟨⟨G3, n3, G4, n4, X3, x3, Y3, y3, rfl, hgr, r1, r2, _, _⟩, hb⟩
    have S_w5 := Lib.hid (S_wc.out.up hb)
    have B1_w5 := Lib.hid (B1_wc.out.up hb)
    have B2_w5 := Lib.hid (B2_wc.out.up hb)
    have GQ_w5 := Lib.hid (GQ_wc.out.up hb)
    have R1_w5 := Lib.hid (Reads.up R1_wc.out hb)
    have R2_w5 := Lib.hid (Reads.up R2_wc.out hb)
    clear S_wc B1_wc B2_wc GQ_wc R1_wc R2_wc
    have GS_w5 := Lib.hid hgr
    have R3_w5 := Lib.hid r1
    have R4_w5 := Lib.hid r2
    clear hb hgr r1 r2 c0 c1 d0 d1
    go_upto_region 5 with fail
    have hb : Below w5.heap.size w5 ((w5.alloc (.cells #[.slice G3 Q.ns.length n3, .slice G4 Q.es.length n4] 25)).alloc (.cells #[.slice X3 R.ns.length x3, .slice Y3 R.es.length y3] 30)) := ((Below.refl _ _).alloc (Nat.le_refl _) _).alloc (by simp) _
    have B3_W5 : Hid (BX w5.heap.size (.slice G3 Q.ns.length n3) (.slice G4 Q.es.length n4) 25 ((w5.alloc (.cells #[.slice G3 Q.ns.length n3, .slice G4 Q.es.length n4] 25)).alloc (.cells #[.slice X3 R.ns.length x3, .slice Y3 R.es.length y3] 30))) := Lib.hid (heap_two _ _ _)
    have B4_W5 : Hid (BX (w5.heap.size + 1) (.slice X3 R.ns.length x3) (.slice Y3 R.es.length y3) 30 ((w5.alloc (.cells #[.slice G3 Q.ns.length n3, .slice G4 Q.es.length n4] 25)).alloc (.cells #[.slice X3 R.ns.length x3, .slice Y3 R.es.length y3] 30))) := Lib.hid (heap_two' _ _ _)
    have S_W5 := Lib.hid (S_w5.out.up hb)
    have B1_W5 := Lib.hid (B1_w5.out.up hb)
    have B2_W5 := Lib.hid (B2_w5.out.up hb)
    have GQ_W5 := Lib.hid (GQ_w5.out.up hb)
    have R1_W5 := Lib.hid (Reads.up R1_w5.out hb)
    have R2_W5 := Lib.hid (Reads.up R2_w5.out hb)
    have GS_W5 := Lib.hid (GS_w5.out.up hb)
    have R3_W5 := Lib.hid (Reads.up R3_w5.out hb)
    have R4_W5 := Lib.hid (Reads.up R4_w5.out hb)
    clear S_w5 B1_w5 B2_w5 GQ_w5 R1_w5 R2_w5 GS_w5 R3_w5 R4_w5
    clear hb
    generalize (w5.alloc (.cells #[.slice G3 Q.ns.length n3, .slice G4 Q.es.length n4] 25)).alloc (.cells #[.slice X3 R.ns.length x3, .slice Y3 R.es.length y3] 30) = W5 at *
    generalize w5.heap.size = g3 at *
    go_wp2_with fail
    have S_we := Lib.hid (S_W5.out.up (below_d W5))
    have B1_we := Lib.hid (B1_W5.out.up (below_d W5))
    have B2_we := Lib.hid (B2_W5.out.up (below_d W5))
    have GQ_we := Lib.hid (GQ_W5.out.up (below_d W5))
    have R1_we := Lib.hid (Reads.up R1_W5.out (below_d W5))
    have R2_we := Lib.hid (Reads.up R2_W5.out (below_d W5))
    have GS_we := Lib.hid (GS_W5.out.up (below_d W5))
    have R3_we := Lib.hid (Reads.up R3_W5.out (below_d W5))
    have R4_we := Lib.hid (Reads.up R4_W5.out (below_d W5))
    have B3_we := Lib.hid (B3_W5.out.up (below_d W5))
    have B4_we := Lib.hid (B4_W5.out.up (below_d W5))
    clear S_W5 B1_W5 B2_W5 GQ_W5 R1_W5 R2_W5 GS_W5 R3_W5 R4_W5 B3_W5 B4_W5
    have q0 : W5.drew.cell? ⟨w.heap.size, 0, none⟩ = some (.slice An g.ns.length cn) := S_we.out.cell (i := 0) (j := 0) rfl rfl
    have q1 : W5.drew.cell? ⟨w.heap.size, 1, none⟩ = some (.slice Ae g.es.length ce) := S_we.out.cell (i := 0) (j := 1) rfl rfl
    have q2 : W5.drew.cell? ⟨w.heap.size + 1, 0, none⟩ = some (.slice Pn p.ns.length pn) := S_we.out.cell (i := 1) (j := 0) rfl rfl
    have q3 : W5.drew.cell? ⟨w.heap.size + 1, 1, none⟩ = some (.slice Pe p.es.length pe) := S_we.out.cell (i := 1) (j := 1) rfl rfl
    have HM_we : Hid (∀ u, Below W5.drew.heap.size W5.drew u → (fun u : World => u.cell? ⟨w.heap.size, 0, none⟩ = some (.slice An g.ns.length cn) ∧ u.cell? ⟨w.heap.size, 1, none⟩ = some (.slice Ae g.es.length ce) ∧ u.cell? ⟨w.heap.size + 1, 0, none⟩ = some (.slice Pn p.ns.length pn) ∧ u.cell? ⟨w.heap.size + 1, 1, none⟩ = some (.slice Pe p.es.length pe)) u) := Lib.hid fun u hb => ⟨cell_up hb q0, cell_up hb q1, cell_up hb q2, cell_up hb q3⟩
    clear q0 q1 q2 q3
    have WD_we := Lib.hid (Below.refl W5.drew.heap.size W5.drew)
    refine wp_region_noPanic ?_
    refine wp_region_held_drew (S := (fun u : World => u.cell? ⟨w.heap.size, 0, none⟩ = some (.slice An g.ns.length cn) ∧ u.cell? ⟨w.heap.size, 1, none⟩ = some (.slice Ae g.es.length ce) ∧ u.cell? ⟨w.heap.size + 1, 0, none⟩ = some (.slice Pn p.ns.length pn) ∧ u.cell? ⟨w.heap.size + 1, 1, none⟩ = some (.slice Pe p.es.length pe))) (by kernel_rfl) (HM_we.out _ WD_we.out) (fun hHeld => ?_)
    generalize W5.drew = we at *
    refine wpAnyH_take (i := 0) (v := ?_) (oper_at (r := _) rfl) (by kernel_rfl) (by kernel_rfl) (by kernel_rfl) (fun _ _ _ h => h) (Or.inl ⟨by rfl, ?_⟩) (by assumption) ?_
    rotate_left
    · intro w hSw; try dsimp only at hSw
      go_simp
      try with_reducible rfl
    try simp only [Act.put, List.setIfInBounds_toArray, List.set_cons_zero, List.set_cons_succ]
    refine wpAnyH_take (i := 2) (v := ?_) (oper_at (r := _) rfl) (by kernel_rfl) (by kernel_rfl) (by kernel_rfl) (fun _ _ _ h => h) (Or.inl ⟨by rfl, ?_⟩) (by assumption) ?_
    rotate_left
    · intro w hSw; try dsimp only at hSw
      go_simp
      try with_reducible rfl
    try simp only [Act.put, List.setIfInBounds_toArray, List.set_cons_zero, List.set_cons_succ]
    refine wpAnyH_ready (rs := [1]) (by kernel_rfl) (by simp) ?_
    refine AllReadyH.cons (oper_at (r := _) rfl) (fun K hK => ?_) AllReadyH.nil
    go_simp
    refine (HCP9.out _ S_we.out.1).mono ?_
    rintro e W104 ⟨⟨G5, n5, G6, n6, rfl, r1⟩, hb⟩
    have S_W104 := Lib.hid (S_we.out.up hb)
    have B1_W104 := Lib.hid (B1_we.out.up hb)
    have B2_W104 := Lib.hid (B2_we.out.up hb)
    have GQ_W104 := Lib.hid (GQ_we.out.up hb)
    have R1_W104 := Lib.hid (Reads.up R1_we.out hb)
    have R2_W104 := Lib.hid (Reads.up R2_we.out hb)
    have GS_W104 := Lib.hid (GS_we.out.up hb)
    have R3_W104 := Lib.hid (Reads.up R3_we.out hb)
    have R4_W104 := Lib.hid (Reads.up R4_we.out hb)
    have B3_W104 := Lib.hid (B3_we.out.up hb)
    have B4_W104 := Lib.hid (B4_we.out.up hb)
    have WD_W104 := Lib.hid (WD_we.out.trans (hb.mono WD_we.out.size))
    clear S_we B1_we B2_we GQ_we R1_we R2_we GS_we R3_we R4_we B3_we B4_we WD_we
    have GR_W104 := Lib.hid r1
    clear hb r1
    go_wp2_with fail
    refine hK.out _ _ (HM_we.out _ WD_W104.out) (fun _ => ?_)
    clear hK K
    try simp only [Act.put, List.setIfInBounds_toArray, List.set_cons_zero, List.set_cons_succ]
    refine wpAnyH_ready (rs := [3]) (by kernel_rfl) (by simp) ?_
    refine AllReadyH.cons (oper_at (r := _) rfl) (fun K hK => ?_) AllReadyH.nil
    go_simp
    refine (HO19.out _ S_W104.out.1).mono ?_
    rintro e W105 ⟨⟨K5, k5, K6, k6, rfl, r1⟩, hb⟩
    have S_W105 := Lib.hid (S_W104.out.up hb)
    have B1_W105 := Lib.hid (B1_W104.out.up hb)
    have B2_W105 := Lib.hid (B2_W104.out.up hb)
    have GQ_W105 := Lib.hid (GQ_W104.out.up hb)
    have R1_W105 := Lib.hid (Reads.up R1_W104.out hb)
    have R2_W105 := Lib.hid (Reads.up R2_W104.out hb)
    have GS_W105 := Lib.hid (GS_W104.out.up hb)
    have R3_W105 := Lib.hid (Reads.up R3_W104.out hb)
    have R4_W105 := Lib.hid (Reads.up R4_W104.out hb)
    have B3_W105 := Lib.hid (B3_W104.out.up hb)
    have B4_W105 := Lib.hid (B4_W104.out.up hb)
    have WD_W105 := Lib.hid (WD_W104.out.trans (hb.mono WD_W104.out.size))
    have GR_W105 := Lib.hid (GR_W104.out.up hb)
    clear S_W104 B1_W104 B2_W104 GQ_W104 R1_W104 R2_W104 GS_W104 R3_W104 R4_W104 B3_W104 B4_W104 WD_W104 GR_W104
    have PA_W105 := Lib.hid r1
    clear hb r1
    go_wp2_with fail
    refine hK.out _ _ (HM_we.out _ WD_W105.out) (fun _ => ?_)
    clear hK K
    try simp only [Act.put, List.setIfInBounds_toArray, List.set_cons_zero, List.set_cons_succ]
    refine wpAnyH_ready (rs := [4]) (by kernel_rfl) (by simp) ?_
    refine AllReadyH.cons (oper_at (r := _) rfl) (fun K hK => ?_) AllReadyH.nil
    go_simp
    refine (HB1.out G5 n5 G6 n6 K5 k5 K6 k6 _ GR_W105.out PA_W105.out).mono ?_
    rintro e W106 ⟨⟨X7, x7, rfl, r1, r2⟩, hb⟩
    have S_W106 := Lib.hid (S_W105.out.up hb)
    have B1_W106 := Lib.hid (B1_W105.out.up hb)
    have B2_W106 := Lib.hid (B2_W105.out.up hb)
    have GQ_W106 := Lib.hid (GQ_W105.out.up hb)
    have R1_W106 := Lib.hid (Reads.up R1_W105.out hb)
    have R2_W106 := Lib.hid (Reads.up R2_W105.out hb)
    have GS_W106 := Lib.hid (GS_W105.out.up hb)
    have R3_W106 := Lib.hid (Reads.up R3_W105.out hb)
    have R4_W106 := Lib.hid (Reads.up R4_W105.out hb)
    have B3_W106 := Lib.hid (B3_W105.out.up hb)
    have B4_W106 := Lib.hid (B4_W105.out.up hb)
    have WD_W106 := Lib.hid (WD_W105.out.trans (hb.mono WD_W105.out.size))
    have GR_W106 := Lib.hid (GR_W105.out.up hb)
    have PA_W106 := Lib.hid (PA_W105.out.up hb)
    clear S_W105 B1_W105 B2_W105 GQ_W105 R1_W105 R2_W105 GS_W105 R3_W105 R4_W105 B3_W105 B4_W105 WD_W105 GR_W105 PA_W105
    have RI_W106 := Lib.hid r1
    have LB_W106 := Lib.hid r2
    clear hb r1
    go_wp2_with fail
    refine hK.out _ _ (HM_we.out _ WD_W106.out) (fun _ => ?_)
    clear hK K
    try simp only [Act.put, List.setIfInBounds_toArray, List.set_cons_zero, List.set_cons_succ]
    refine wpAnyH_take (i := 5) (v := ?_) (oper_at (r := _) rfl) (by kernel_rfl) (by kernel_rfl) (by kernel_rfl) (fun _ _ _ h => h) (Or.inl ⟨by rfl, ?_⟩) (by assumption) ?_
    rotate_left
    · intro w hSw; try dsimp only at hSw
      go_simp
      try with_reducible rfl
    try simp only [Act.put, List.setIfInBounds_toArray, List.set_cons_zero, List.set_cons_succ]
    refine wpAnyH_take (i := 6) (v := ?_) (oper_at (r := _) rfl) (by kernel_rfl) (by kernel_rfl) (by kernel_rfl) (fun _ _ _ h => h) (Or.inl ⟨by rfl, ?_⟩) (by assumption) ?_
    rotate_left
    · intro w hSw; try dsimp only at hSw
      go_simp
      try with_reducible rfl
    try simp only [Act.put, List.setIfInBounds_toArray, List.set_cons_zero, List.set_cons_succ]
    refine wpAnyH_take (i := 7) (v := ?_) (oper_at (r := _) rfl) (by kernel_rfl) (by kernel_rfl) (by kernel_rfl) (fun _ _ _ h => h) (Or.inl ⟨by rfl, ?_⟩) (by assumption) ?_
    rotate_left
    · intro w hSw; try dsimp only at hSw
      go_simp
      try with_reducible rfl
    try simp only [Act.put, List.setIfInBounds_toArray, List.set_cons_zero, List.set_cons_succ]
    refine wpAnyH_take (i := 8) (v := ?_) (oper_at (r := _) rfl) (by kernel_rfl) (by kernel_rfl) (by kernel_rfl) (fun _ _ _ h => h) (Or.inl ⟨by rfl, ?_⟩) (by assumption) ?_
    rotate_left
    · intro w hSw; try dsimp only at hSw
      go_simp
      try with_reducible rfl
    try simp only [Act.put, List.setIfInBounds_toArray, List.set_cons_zero, List.set_cons_succ]
    refine wpAnyH_take (i := 9) (v := ?_) (oper_at (r := _) rfl) (by kernel_rfl) (by kernel_rfl) (by kernel_rfl) (fun _ _ _ h => h) (Or.inl ⟨by rfl, ?_⟩) (by assumption) ?_
    rotate_left
    · intro w hSw; try dsimp only at hSw
      go_simp
      try with_reducible rfl
    try simp only [Act.put, List.setIfInBounds_toArray, List.set_cons_zero, List.set_cons_succ]
    refine wpAnyH_done (by kernel_rfl) ?_ _
    refine NoPanic.normal ?_
    have c0 := S_W106.out.cell (i := 0) (j := 0) rfl rfl
    have c1 := S_W106.out.cell (i := 0) (j := 1) rfl rfl
    have d0 := S_W106.out.cell (i := 1) (j := 0) rfl rfl
    have d1 := S_W106.out.cell (i := 1) (j := 1) rfl rfl
    simp only [Nat.add_zero] at c0 c1
    go_wp2_with fail
    refine (HB2.out _ S_W106.out.1 (HPP9.out _ S_W106.out.1)).mono ?_
    rintro e w7 ⟨⟨X8, x8, rfl, r1, _⟩, hb⟩
    have S_w7 := Lib.hid (S_W106.out.up hb)
    have B1_w7 := Lib.hid (B1_W106.out.up hb)
    have B2_w7 := Lib.hid (B2_W106.out.up hb)
    have GQ_w7 := Lib.hid (GQ_W106.out.up hb)
    have R1_w7 := Lib.hid (Reads.up R1_W106.out hb)
    have R2_w7 := Lib.hid (Reads.up R2_W106.out hb)
    have GS_w7 := Lib.hid (GS_W106.out.up hb)
    have R3_w7 := Lib.hid (Reads.up R3_W106.out hb)
    have R4_w7 := Lib.hid (Reads.up R4_W106.out hb)
    have B3_w7 := Lib.hid (B3_W106.out.up hb)
    have B4_w7 := Lib.hid (B4_W106.out.up hb)
    have RI_w7 := Lib.hid (Reads.up RI_W106.out hb)
    have LB_w7 := Lib.hid (LB_W106.out)
    clear S_W106 B1_W106 B2_W106 GQ_W106 R1_W106 R2_W106 GS_W106 R3_W106 R4_W106 B3_W106 B4_W106 RI_W106 LB_W106
    have RJ_w7 := Lib.hid r1
    clear hb r1 c0 c1 d0 d1
    go_upto_region 7 with fail
    have S_wf := Lib.hid (S_w7.out.up (below_d w7))
    have B1_wf := Lib.hid (B1_w7.out.up (below_d w7))
    have B2_wf := Lib.hid (B2_w7.out.up (below_d w7))
    have GQ_wf := Lib.hid (GQ_w7.out.up (below_d w7))
    have R1_wf := Lib.hid (Reads.up R1_w7.out (below_d w7))
    have R2_wf := Lib.hid (Reads.up R2_w7.out (below_d w7))
    have GS_wf := Lib.hid (GS_w7.out.up (below_d w7))
    have R3_wf := Lib.hid (Reads.up R3_w7.out (below_d w7))
    have R4_wf := Lib.hid (Reads.up R4_w7.out (below_d w7))
    have B3_wf := Lib.hid (B3_w7.out.up (below_d w7))
    have B4_wf := Lib.hid (B4_w7.out.up (below_d w7))
    have RI_wf := Lib.hid (Reads.up RI_w7.out (below_d w7))
    have LB_wf := Lib.hid (LB_w7.out)
    have RJ_wf := Lib.hid (Reads.up RJ_w7.out (below_d w7))
    clear S_w7 B1_w7 B2_w7 GQ_w7 R1_w7 R2_w7 GS_w7 R3_w7 R4_w7 B3_w7 B4_w7 RI_w7 LB_w7 RJ_w7
    have q0 : w7.drew.cell? ⟨w.heap.size, 0, none⟩ = some (.slice An g.ns.length cn) := S_wf.out.cell (i := 0) (j := 0) rfl rfl
    have q1 : w7.drew.cell? ⟨w.heap.size, 1, none⟩ = some (.slice Ae g.es.length ce) := S_wf.out.cell (i := 0) (j := 1) rfl rfl
    have q2 : w7.drew.cell? ⟨w.heap.size + 1, 0, none⟩ = some (.slice Pn p.ns.length pn) := S_wf.out.cell (i := 1) (j := 0) rfl rfl
    have q3 : w7.drew.cell? ⟨w.heap.size + 1, 1, none⟩ = some (.slice Pe p.es.length pe) := S_wf.out.cell (i := 1) (j := 1) rfl rfl
    have q4 : w7.drew.cell? ⟨g1, 0, none⟩ = some (.slice G1 Q.ns.length n1) := B1_wf.out.cells.1
    have q5 : w7.drew.cell? ⟨g1, 1, none⟩ = some (.slice G2 Q.es.length n2) := B1_wf.out.cells.2
    have q6 : w7.drew.cell? ⟨g3, 0, none⟩ = some (.slice G3 Q.ns.length n3) := B3_wf.out.cells.1
    have q7 : w7.drew.cell? ⟨g3, 1, none⟩ = some (.slice G4 Q.es.length n4) := B3_wf.out.cells.2
    have q8 : w7.drew.cell? ⟨g2, 0, none⟩ = some (.slice X1 R.ns.length x1) := B2_wf.out.cells.1
    have q9 : w7.drew.cell? ⟨g2, 1, none⟩ = some (.slice Y1 R.es.length y1) := B2_wf.out.cells.2
    have q10 : w7.drew.cell? ⟨g3 + 1, 0, none⟩ = some (.slice X3 R.ns.length x3) := B4_wf.out.cells.1
    have q11 : w7.drew.cell? ⟨g3 + 1, 1, none⟩ = some (.slice Y3 R.es.length y3) := B4_wf.out.cells.2
    have HM_wf : Hid (∀ u, Below w7.drew.heap.size w7.drew u → (fun u : World => u.cell? ⟨w.heap.size, 0, none⟩ = some (.slice An g.ns.length cn) ∧ u.cell? ⟨w.heap.size, 1, none⟩ = some (.slice Ae g.es.length ce) ∧ u.cell? ⟨w.heap.size + 1, 0, none⟩ = some (.slice Pn p.ns.length pn) ∧ u.cell? ⟨w.heap.size + 1, 1, none⟩ = some (.slice Pe p.es.length pe) ∧ u.cell? ⟨g1, 0, none⟩ = some (.slice G1 Q.ns.length n1) ∧ u.cell? ⟨g1, 1, none⟩ = some (.slice G2 Q.es.length n2) ∧ u.cell? ⟨g3, 0, none⟩ = some (.slice G3 Q.ns.length n3) ∧ u.cell? ⟨g3, 1, none⟩ = some (.slice G4 Q.es.length n4) ∧ u.cell? ⟨g2, 0, none⟩ = some (.slice X1 R.ns.length x1) ∧ u.cell? ⟨g2, 1, none⟩ = some (.slice Y1 R.es.length y1) ∧ u.cell? ⟨g3 + 1, 0, none⟩ = some (.slice X3 R.ns.length x3) ∧ u.cell? ⟨g3 + 1, 1, none⟩ = some (.slice Y3 R.es.length y3)) u) := Lib.hid fun u hb => ⟨cell_up hb q0, cell_up hb q1, cell_up hb q2, cell_up hb q3, cell_up hb q4, cell_up hb q5, cell_up hb q6, cell_up hb q7, cell_up hb q8, cell_up hb q9, cell_up hb q10, cell_up hb q11⟩
    clear q0 q1 q2 q3 q4 q5 q6 q7 q8 q9 q10 q11
    have WD_wf := Lib.hid (Below.refl w7.drew.heap.size w7.drew)
    refine wp_region_noPanic ?_
    refine wp_region_held_drew (S := (fun u : World => u.cell? ⟨w.heap.size, 0, none⟩ = some (.slice An g.ns.length cn) ∧ u.cell? ⟨w.heap.size, 1, none⟩ = some (.slice Ae g.es.length ce) ∧ u.cell? ⟨w.heap.size + 1, 0, none⟩ = some (.slice Pn p.ns.length pn) ∧ u.cell? ⟨w.heap.size + 1, 1, none⟩ = some (.slice Pe p.es.length pe) ∧ u.cell? ⟨g1, 0, none⟩ = some (.slice G1 Q.ns.length n1) ∧ u.cell? ⟨g1, 1, none⟩ = some (.slice G2 Q.es.length n2) ∧ u.cell? ⟨g3, 0, none⟩ = some (.slice G3 Q.ns.length n3) ∧ u.cell? ⟨g3, 1, none⟩ = some (.slice G4 Q.es.length n4) ∧ u.cell? ⟨g2, 0, none⟩ = some (.slice X1 R.ns.length x1) ∧ u.cell? ⟨g2, 1, none⟩ = some (.slice Y1 R.es.length y1) ∧ u.cell? ⟨g3 + 1, 0, none⟩ = some (.slice X3 R.ns.length x3) ∧ u.cell? ⟨g3 + 1, 1, none⟩ = some (.slice Y3 R.es.length y3))) (by kernel_rfl) (HM_wf.out _ WD_wf.out) (fun hHeld => ?_)
    generalize w7.drew = wf at *
    refine wpAnyH_take (i := 0) (v := ?_) (oper_at (r := _) rfl) (by kernel_rfl) (by kernel_rfl) (by kernel_rfl) (fun _ _ _ h => h) (Or.inl ⟨by rfl, ?_⟩) (by assumption) ?_
    rotate_left
    · intro w hSw; try dsimp only at hSw
      go_simp
      try with_reducible rfl
    try simp only [Act.put, List.setIfInBounds_toArray, List.set_cons_zero, List.set_cons_succ]
    refine wpAnyH_take (i := 1) (v := ?_) (oper_at (r := _) rfl) (by kernel_rfl) (by kernel_rfl) (by kernel_rfl) (fun _ _ _ h => h) (Or.inl ⟨by rfl, ?_⟩) (by assumption) ?_
    rotate_left
    · intro w hSw; try dsimp only at hSw
      go_simp
      try with_reducible rfl
    try simp only [Act.put, List.setIfInBounds_toArray, List.set_cons_zero, List.set_cons_succ]
    refine wpAnyH_take (i := 3) (v := ?_) (oper_at (r := _) rfl) (by kernel_rfl) (by kernel_rfl) (by kernel_rfl) (fun _ _ _ h => h) (Or.inl ⟨by rfl, ?_⟩) (by assumption) ?_
    rotate_left
    · intro w hSw; try dsimp only at hSw
      go_simp
      try with_reducible rfl
    try simp only [Act.put, List.setIfInBounds_toArray, List.set_cons_zero, List.set_cons_succ]
    refine wpAnyH_take (i := 4) (v := ?_) (oper_at (r := _) rfl) (by kernel_rfl) (by kernel_rfl) (by kernel_rfl) (fun _ _ _ h => h) (Or.inl ⟨by rfl, ?_⟩) (by assumption) ?_
    rotate_left
    · intro w hSw; try dsimp only at hSw
      go_simp
      try with_reducible rfl
    try simp only [Act.put, List.setIfInBounds_toArray, List.set_cons_zero, List.set_cons_succ]
    refine wpAnyH_ready (rs := [2]) (by kernel_rfl) (by simp) ?_
    refine AllReadyH.cons (oper_at (r := _) rfl) (fun K hK => ?_) AllReadyH.nil
    go_simp
    refine (HV1.out _ S_wf.out.1 (HPP9.out _ S_wf.out.1)).mono ?_
    rintro e W107 ⟨rfl, hb⟩
    have S_W107 := Lib.hid (S_wf.out.up hb)
    have B1_W107 := Lib.hid (B1_wf.out.up hb)
    have B2_W107 := Lib.hid (B2_wf.out.up hb)
    have GQ_W107 := Lib.hid (GQ_wf.out.up hb)
    have R1_W107 := Lib.hid (Reads.up R1_wf.out hb)
    have R2_W107 := Lib.hid (Reads.up R2_wf.out hb)
    have GS_W107 := Lib.hid (GS_wf.out.up hb)
    have R3_W107 := Lib.hid (Reads.up R3_wf.out hb)
    have R4_W107 := Lib.hid (Reads.up R4_wf.out hb)
    have B3_W107 := Lib.hid (B3_wf.out.up hb)
    have B4_W107 := Lib.hid (B4_wf.out.up hb)
    have RI_W107 := Lib.hid (Reads.up RI_wf.out hb)
    have LB_W107 := Lib.hid (LB_wf.out)
    have RJ_W107 := Lib.hid (Reads.up RJ_wf.out hb)
    have WD_W107 := Lib.hid (WD_wf.out.trans (hb.mono WD_wf.out.size))
    clear S_wf B1_wf B2_wf GQ_wf R1_wf R2_wf GS_wf R3_wf R4_wf B3_wf B4_wf RI_wf LB_wf RJ_wf WD_wf
    clear hb 
    go_wp2_with fail
    refine hK.out _ _ (HM_wf.out _ WD_W107.out) (fun _ => ?_)
    clear hK K
    try simp only [Act.put, List.setIfInBounds_toArray, List.set_cons_zero, List.set_cons_succ]
    refine wpAnyH_ready (rs := [5]) (by kernel_rfl) (by simp) ?_
    refine AllReadyH.cons (oper_at (r := _) rfl) (fun K hK => ?_) AllReadyH.nil
    go_simp
    refine (HV2.out _ S_W107.out.1 (HPP9.out _ S_W107.out.1)).mono ?_
    rintro e W108 ⟨rfl, hb⟩
    have S_W108 := Lib.hid (S_W107.out.up hb)
    have B1_W108 := Lib.hid (B1_W107.out.up hb)
    have B2_W108 := Lib.hid (B2_W107.out.up hb)
    have GQ_W108 := Lib.hid (GQ_W107.out.up hb)
    have R1_W108 := Lib.hid (Reads.up R1_W107.out hb)
    have R2_W108 := Lib.hid (Reads.up R2_W107.out hb)
    have GS_W108 := Lib.hid (GS_W107.out.up hb)
    have R3_W108 := Lib.hid (Reads.up R3_W107.out hb)
    have R4_W108 := Lib.hid (Reads.up R4_W107.out hb)
    have B3_W108 := Lib.hid (B3_W107.out.up hb)
    have B4_W108 := Lib.hid (B4_W107.out.up hb)
    have RI_W108 := Lib.hid (Reads.up RI_W107.out hb)
    have LB_W108 := Lib.hid (LB_W107.out)
    have RJ_W108 := Lib.hid (Reads.up RJ_W107.out hb)
    have WD_W108 := Lib.hid (WD_W107.out.trans (hb.mono WD_W107.out.size))
    clear S_W107 B1_W107 B2_W107 GQ_W107 R1_W107 R2_W107 GS_W107 R3_W107 R4_W107 B3_W107 B4_W107 RI_W107 LB_W107 RJ_W107 WD_W107
    clear hb 
    go_wp2_with fail
    refine hK.out _ _ (HM_wf.out _ WD_W108.out) (fun _ => ?_)
    clear hK K
    try simp only [Act.put, List.setIfInBounds_toArray, List.set_cons_zero, List.set_cons_succ]
    refine wpAnyH_take (i := 6) (v := ?_) (oper_at (r := _) rfl) (by kernel_rfl) (by kernel_rfl) (by kernel_rfl) (fun _ _ _ h => h) (Or.inl ⟨by rfl, ?_⟩) (by assumption) ?_
    rotate_left
    · intro w hSw; try dsimp only at hSw
      go_simp
      try with_reducible rfl
    try simp only [Act.put, List.setIfInBounds_toArray, List.set_cons_zero, List.set_cons_succ]
    refine wpAnyH_take (i := 7) (v := ?_) (oper_at (r := _) rfl) (by kernel_rfl) (by kernel_rfl) (by kernel_rfl) (fun _ _ _ h => h) (Or.inl ⟨by rfl, ?_⟩) (by assumption) ?_
    rotate_left
    · intro w hSw; try dsimp only at hSw
      go_simp
      try with_reducible rfl
    try simp only [Act.put, List.setIfInBounds_toArray, List.set_cons_zero, List.set_cons_succ]
    refine wpAnyH_take (i := 8) (v := ?_) (oper_at (r := _) rfl) (by kernel_rfl) (by kernel_rfl) (by kernel_rfl) (fun _ _ _ h => h) (Or.inl ⟨by rfl, ?_⟩) (by assumption) ?_
    rotate_left
    · intro w hSw; try dsimp only at hSw
      go_simp
      try with_reducible rfl
    try simp only [Act.put, List.setIfInBounds_toArray, List.set_cons_zero, List.set_cons_succ]
    refine wpAnyH_take (i := 9) (v := ?_) (oper_at (r := _) rfl) (by kernel_rfl) (by kernel_rfl) (by kernel_rfl) (fun _ _ _ h => h) (Or.inl ⟨by rfl, ?_⟩) (by assumption) ?_
    rotate_left
    · intro w hSw; try dsimp only at hSw
      go_simp
      try with_reducible rfl
    try simp only [Act.put, List.setIfInBounds_toArray, List.set_cons_zero, List.set_cons_succ]
    have HSA := Lib.hid (sameR_any Q Q G1 n1 G2 n2 G3 n3 G4 n4 W108 GQ_W108.out GS_W108.out)
    rw [decide_eq_true rfl] at HSA
    refine wpAnyH_ready (rs := [10]) (by kernel_rfl) (by simp) ?_
    refine AllReadyH.cons (oper_at (r := _) rfl) (fun K hK => ?_) AllReadyH.nil
    go_simp
    refine (HSA.out).mono ?_
    rintro e W109 ⟨rfl, hb⟩
    have S_W109 := Lib.hid (S_W108.out.up hb)
    have B1_W109 := Lib.hid (B1_W108.out.up hb)
    have B2_W109 := Lib.hid (B2_W108.out.up hb)
    have GQ_W109 := Lib.hid (GQ_W108.out.up hb)
    have R1_W109 := Lib.hid (Reads.up R1_W108.out hb)
    have R2_W109 := Lib.hid (Reads.up R2_W108.out hb)
    have GS_W109 := Lib.hid (GS_W108.out.up hb)
    have R3_W109 := Lib.hid (Reads.up R3_W108.out hb)
    have R4_W109 := Lib.hid (Reads.up R4_W108.out hb)
    have B3_W109 := Lib.hid (B3_W108.out.up hb)
    have B4_W109 := Lib.hid (B4_W108.out.up hb)
    have RI_W109 := Lib.hid (Reads.up RI_W108.out hb)
    have LB_W109 := Lib.hid (LB_W108.out)
    have RJ_W109 := Lib.hid (Reads.up RJ_W108.out hb)
    have WD_W109 := Lib.hid (WD_W108.out.trans (hb.mono WD_W108.out.size))
    clear S_W108 B1_W108 B2_W108 GQ_W108 R1_W108 R2_W108 GS_W108 R3_W108 R4_W108 B3_W108 B4_W108 RI_W108 LB_W108 RJ_W108 WD_W108
    clear hb 
    go_wp2_with fail
    refine hK.out _ _ (HM_wf.out _ WD_W109.out) (fun _ => ?_)
    clear hK K
    try simp only [Act.put, List.setIfInBounds_toArray, List.set_cons_zero, List.set_cons_succ]
    clear HSA
    refine wpAnyH_take (i := 11) (v := ?_) (oper_at (r := _) rfl) (by kernel_rfl) (by kernel_rfl) (by kernel_rfl) (fun _ _ _ h => h) (Or.inl ⟨by rfl, ?_⟩) (by assumption) ?_
    rotate_left
    · intro w hSw; try dsimp only at hSw
      go_simp
      try with_reducible rfl
    try simp only [Act.put, List.setIfInBounds_toArray, List.set_cons_zero, List.set_cons_succ]
    refine wpAnyH_take (i := 12) (v := ?_) (oper_at (r := _) rfl) (by kernel_rfl) (by kernel_rfl) (by kernel_rfl) (fun _ _ _ h => h) (Or.inl ⟨by rfl, ?_⟩) (by assumption) ?_
    rotate_left
    · intro w hSw; try dsimp only at hSw
      go_simp
      try with_reducible rfl
    try simp only [Act.put, List.setIfInBounds_toArray, List.set_cons_zero, List.set_cons_succ]
    refine wpAnyH_take (i := 13) (v := ?_) (oper_at (r := _) rfl) (by kernel_rfl) (by kernel_rfl) (by kernel_rfl) (fun _ _ _ h => h) (Or.inl ⟨by rfl, ?_⟩) (by assumption) ?_
    rotate_left
    · intro w hSw; try dsimp only at hSw
      go_simp
      try with_reducible rfl
    try simp only [Act.put, List.setIfInBounds_toArray, List.set_cons_zero, List.set_cons_succ]
    refine wpAnyH_take (i := 14) (v := ?_) (oper_at (r := _) rfl) (by kernel_rfl) (by kernel_rfl) (by kernel_rfl) (fun _ _ _ h => h) (Or.inl ⟨by rfl, ?_⟩) (by assumption) ?_
    rotate_left
    · intro w hSw; try dsimp only at hSw
      go_simp
      try with_reducible rfl
    try simp only [Act.put, List.setIfInBounds_toArray, List.set_cons_zero, List.set_cons_succ]
    have HSB := Lib.hid (sameR_refl R X1 x1 Y1 y1 X3 x3 Y3 y3 W109 HL1.out R1_W109.out R2_W109.out R3_W109.out R4_W109.out)
    refine wpAnyH_ready (rs := [15]) (by kernel_rfl) (by simp) ?_
    refine AllReadyH.cons (oper_at (r := _) rfl) (fun K hK => ?_) AllReadyH.nil
    go_simp
    refine (HSB.out).mono ?_
    rintro e W110 ⟨rfl, hb⟩
    have S_W110 := Lib.hid (S_W109.out.up hb)
    have B1_W110 := Lib.hid (B1_W109.out.up hb)
    have B2_W110 := Lib.hid (B2_W109.out.up hb)
    have GQ_W110 := Lib.hid (GQ_W109.out.up hb)
    have R1_W110 := Lib.hid (Reads.up R1_W109.out hb)
    have R2_W110 := Lib.hid (Reads.up R2_W109.out hb)
    have GS_W110 := Lib.hid (GS_W109.out.up hb)
    have R3_W110 := Lib.hid (Reads.up R3_W109.out hb)
    have R4_W110 := Lib.hid (Reads.up R4_W109.out hb)
    have B3_W110 := Lib.hid (B3_W109.out.up hb)
    have B4_W110 := Lib.hid (B4_W109.out.up hb)
    have RI_W110 := Lib.hid (Reads.up RI_W109.out hb)
    have LB_W110 := Lib.hid (LB_W109.out)
    have RJ_W110 := Lib.hid (Reads.up RJ_W109.out hb)
    have WD_W110 := Lib.hid (WD_W109.out.trans (hb.mono WD_W109.out.size))
    clear S_W109 B1_W109 B2_W109 GQ_W109 R1_W109 R2_W109 GS_W109 R3_W109 R4_W109 B3_W109 B4_W109 RI_W109 LB_W109 RJ_W109 WD_W109
    clear hb 
    go_wp2_with fail
    refine hK.out _ _ (HM_wf.out _ WD_W110.out) (fun _ => ?_)
    clear hK K
    try simp only [Act.put, List.setIfInBounds_toArray, List.set_cons_zero, List.set_cons_succ]
    clear HSB
    refine wpAnyH_take (i := 16) (v := ?_) (oper_at (r := _) rfl) (by kernel_rfl) (by kernel_rfl) (by kernel_rfl) (fun _ _ _ h => h) (Or.inl ⟨by rfl, ?_⟩) (by assumption) ?_
    rotate_left
    · intro w hSw; try dsimp only at hSw
      go_simp
      try with_reducible rfl
    try simp only [Act.put, List.setIfInBounds_toArray, List.set_cons_zero, List.set_cons_succ]
    refine wpAnyH_take (i := 17) (v := ?_) (oper_at (r := _) rfl) (by kernel_rfl) (by kernel_rfl) (by kernel_rfl) (fun _ _ _ h => h) (Or.inl ⟨by rfl, ?_⟩) (by assumption) ?_
    rotate_left
    · intro w hSw; try dsimp only at hSw
      go_simp
      try with_reducible rfl
    try simp only [Act.put, List.setIfInBounds_toArray, List.set_cons_zero, List.set_cons_succ]
    refine wpAnyH_take (i := 18) (v := ?_) (oper_at (r := _) rfl) (by kernel_rfl) (by kernel_rfl) (by kernel_rfl) (fun _ _ _ h => h) (Or.inl ⟨by rfl, ?_⟩) (by assumption) ?_
    rotate_left
    · intro w hSw; try dsimp only at hSw
      go_simp
      try with_reducible rfl
    try simp only [Act.put, List.setIfInBounds_toArray, List.set_cons_zero, List.set_cons_succ]
    refine wpAnyH_take (i := 19) (v := ?_) (oper_at (r := _) rfl) (by kernel_rfl) (by kernel_rfl) (by kernel_rfl) (fun _ _ _ h => h) (Or.inl ⟨by rfl, ?_⟩) (by assumption) ?_
    rotate_left
    · intro w hSw; try dsimp only at hSw
      go_simp
      try with_reducible rfl
    try simp only [Act.put, List.setIfInBounds_toArray, List.set_cons_zero, List.set_cons_succ]
    refine wpAnyH_take (i := 20) (v := ?_) (oper_at (r := _) rfl) (by kernel_rfl) (by kernel_rfl) (by kernel_rfl) (fun _ _ _ h => h) (Or.inl ⟨by rfl, ?_⟩) (by assumption) ?_
    rotate_left
    · intro w hSw; try dsimp only at hSw
      go_simp
      try with_reducible rfl
    try simp only [Act.put, List.setIfInBounds_toArray, List.set_cons_zero, List.set_cons_succ]
    refine wpAnyH_take (i := 21) (v := ?_) (oper_at (r := _) rfl) (by kernel_rfl) (by kernel_rfl) (by kernel_rfl) (fun _ _ _ h => h) (Or.inl ⟨by rfl, ?_⟩) (by assumption) ?_
    rotate_left
    · intro w hSw; try dsimp only at hSw
      go_simp
      try with_reducible rfl
    try simp only [Act.put, List.setIfInBounds_toArray, List.set_cons_zero, List.set_cons_succ]
    refine wpAnyH_take (i := 22) (v := ?_) (oper_at (r := _) rfl) (by kernel_rfl) (by kernel_rfl) (by kernel_rfl) (fun _ _ _ h => h) (Or.inl ⟨by rfl, ?_⟩) (by assumption) ?_
    rotate_left
    · intro w hSw; try dsimp only at hSw
      go_simp
      try with_reducible rfl
    try simp only [Act.put, List.setIfInBounds_toArray, List.set_cons_zero, List.set_cons_succ]
    refine wpAnyH_take (i := 23) (v := ?_) (oper_at (r := _) rfl) (by kernel_rfl) (by kernel_rfl) (by kernel_rfl) (fun _ _ _ h => h) (Or.inl ⟨by rfl, ?_⟩) (by assumption) ?_
    rotate_left
    · intro w hSw; try dsimp only at hSw
      go_simp
      try with_reducible rfl
    try simp only [Act.put, List.setIfInBounds_toArray, List.set_cons_zero, List.set_cons_succ]
    refine wpAnyH_take (i := 24) (v := ?_) (oper_at (r := _) rfl) (by kernel_rfl) (by kernel_rfl) (by kernel_rfl) (fun _ _ _ h => h) (Or.inl ⟨by rfl, ?_⟩) (by assumption) ?_
    rotate_left
    · intro w hSw; try dsimp only at hSw
      go_simp
      try with_reducible rfl
    try simp only [Act.put, List.setIfInBounds_toArray, List.set_cons_zero, List.set_cons_succ]
    have HSC := Lib.hid (equal_any RB RB X7 X8 W110.heap.size W110.heap.size x7 x8 W110 LB_W110.out RI_W110.out RJ_W110.out)
    rw [decide_eq_true rfl] at HSC
    refine wpAnyH_ready (rs := [25]) (by kernel_rfl) (by simp) ?_
    refine AllReadyH.cons (oper_at (r := _) rfl) (fun K hK => ?_) AllReadyH.nil
    go_simp
    refine (HSC.out).mono ?_
    rintro e W111 ⟨rfl, hb⟩
    have S_W111 := Lib.hid (S_W110.out.up hb)
    have B1_W111 := Lib.hid (B1_W110.out.up hb)
    have B2_W111 := Lib.hid (B2_W110.out.up hb)
    have GQ_W111 := Lib.hid (GQ_W110.out.up hb)
    have R1_W111 := Lib.hid (Reads.up R1_W110.out hb)
    have R2_W111 := Lib.hid (Reads.up R2_W110.out hb)
    have GS_W111 := Lib.hid (GS_W110.out.up hb)
    have R3_W111 := Lib.hid (Reads.up R3_W110.out hb)
    have R4_W111 := Lib.hid (Reads.up R4_W110.out hb)
    have B3_W111 := Lib.hid (B3_W110.out.up hb)
    have B4_W111 := Lib.hid (B4_W110.out.up hb)
    have RI_W111 := Lib.hid (Reads.up RI_W110.out hb)
    have LB_W111 := Lib.hid (LB_W110.out)
    have RJ_W111 := Lib.hid (Reads.up RJ_W110.out hb)
    have WD_W111 := Lib.hid (WD_W110.out.trans (hb.mono WD_W110.out.size))
    clear S_W110 B1_W110 B2_W110 GQ_W110 R1_W110 R2_W110 GS_W110 R3_W110 R4_W110 B3_W110 B4_W110 RI_W110 LB_W110 RJ_W110 WD_W110
    clear hb 
    go_wp2_with fail
    refine hK.out _ _ (HM_wf.out _ WD_W111.out) (fun _ => ?_)
    clear hK K
    try simp only [Act.put, List.setIfInBounds_toArray, List.set_cons_zero, List.set_cons_succ]
    clear HSC
    refine wpAnyH_take (i := 26) (v := ?_) (oper_at (r := _) rfl) (by kernel_rfl) (by kernel_rfl) (by kernel_rfl) (fun _ _ _ h => h) (Or.inl ⟨by rfl, ?_⟩) (by assumption) ?_
    rotate_left
    · intro w hSw; try dsimp only at hSw
      go_simp
      try with_reducible rfl
    try simp only [Act.put, List.setIfInBounds_toArray, List.set_cons_zero, List.set_cons_succ]
    refine wpAnyH_take (i := 27) (v := ?_) (oper_at (r := _) rfl) (by kernel_rfl) (by kernel_rfl) (by kernel_rfl) (fun _ _ _ h => h) (Or.inl ⟨by rfl, ?_⟩) (by assumption) ?_
    rotate_left
    · intro w hSw; try dsimp only at hSw
      go_simp
      try with_reducible rfl
    try simp only [Act.put, List.setIfInBounds_toArray, List.set_cons_zero, List.set_cons_succ]
    refine wpAnyH_take (i := 28) (v := ?_) (oper_at (r := _) rfl) (by kernel_rfl) (by kernel_rfl) (by kernel_rfl) (fun _ _ _ h => h) (Or.inl ⟨by rfl, ?_⟩) (by assumption) ?_
    rotate_left
    · intro w hSw; try dsimp only at hSw
      go_simp
      try with_reducible rfl
    try simp only [Act.put, List.setIfInBounds_toArray, List.set_cons_zero, List.set_cons_succ]
    refine wpAnyH_take (i := 29) (v := ?_) (oper_at (r := _) rfl) (by kernel_rfl) (by kernel_rfl) (by kernel_rfl) (fun _ _ _ h => h) (Or.inl ⟨by rfl, ?_⟩) (by assumption) ?_
    rotate_left
    · intro w hSw; try dsimp only at hSw
      go_simp
      try with_reducible rfl
    try simp only [Act.put, List.setIfInBounds_toArray, List.set_cons_zero, List.set_cons_succ]
    refine wpAnyH_take (i := 30) (v := ?_) (oper_at (r := _) rfl) (by kernel_rfl) (by kernel_rfl) (by kernel_rfl) (fun _ _ _ h => h) (Or.inl ⟨by rfl, ?_⟩) (by assumption) ?_
    rotate_left
    · intro w hSw; try dsimp only at hSw
      go_simp
      try with_reducible rfl
    try simp only [Act.put, List.setIfInBounds_toArray, List.set_cons_zero, List.set_cons_succ]
    refine wpAnyH_take (i := 31) (v := ?_) (oper_at (r := _) rfl) (by kernel_rfl) (by kernel_rfl) (by kernel_rfl) (fun _ _ _ h => h) (Or.inl ⟨by rfl, ?_⟩) (by assumption) ?_
    rotate_left
    · intro w hSw; try dsimp only at hSw
      go_simp
      try with_reducible rfl
    try simp only [Act.put, List.setIfInBounds_toArray, List.set_cons_zero, List.set_cons_succ]
    refine wpAnyH_take (i := 32) (v := ?_) (oper_at (r := _) rfl) (by kernel_rfl) (by kernel_rfl) (by kernel_rfl) (fun _ _ _ h => h) (Or.inl ⟨by rfl, ?_⟩) (by assumption) ?_
    rotate_left
    · intro w hSw; try dsimp only at hSw
      go_simp
      try with_reducible rfl
    try simp only [Act.put, List.setIfInBounds_toArray, List.set_cons_zero, List.set_cons_succ]
    refine wpAnyH_done (by kernel_rfl) ?_ _
    refine NoPanic.normal ?_
    go_wp2_with fail
    go_ret
    exact ⟨rfl, S_W111.out.1⟩

end Go.Proofs.YthnhacncnhknnaaGreatDoor
