import Derived.Test.YthnhacncnhknnaaDoorZ08
/-
  SubgraphClose. Printed by mkl5.py.
-/
namespace Go.Proofs.YthnhacncnhknnaaDoor
open Go.RowKit Go.Shelf

theorem copyG7 (g : Gr) (An : Option Addr) (cn : Nat) (Ae : Option Addr) (ce : Nat) (w : World) (hf : g.ns.length ≤ 1000 ∧ g.es.length ≤ 1000) (hT : GrAt w An cn Ae ce g) :
    Calls Tryd.prog 13 #[gval An g.ns.length cn Ae g.es.length ce] w fun e w' => (∃ Xn xn Xe xe, e = .returned (gval Xn g.ns.length xn Xe g.es.length xe) ∧ GrAt w' Xn xn Xe xe g) ∧ Below w.heap.size w w' := by
  refine (copied_any g An cn Ae ce w hf hT).mono ?_
  rintro e w' ⟨⟨v, u, rfl, h1, h2⟩, hb⟩
  obtain ⟨A1, c1, rfl, r1, a1, b1⟩ := h1.reads_cap
  obtain ⟨A2, c2, rfl, r2, a2, b2⟩ := h2.reads_cap
  exact ⟨⟨A1, c1, A2, c2, rfl, ⟨r1, r2, ⟨a1, b1⟩, ⟨a2, b2⟩⟩⟩, hb⟩
theorem clone7 (l : List Int) (A : Option Addr) (c : Nat) (w : World) (hl : l.length ≤ 1000) (hA : Ints w w.heap.size A l) :
    Calls Tryd.prog 14 #[.slice A l.length c] w fun e w' => (∃ X x, e = .returned (.slice X l.length x) ∧ Ints w' w'.heap.size X l) ∧ Below w.heap.size w w' := by
  refine (cloneI_any l A w.heap.size c w (by omega) hA).mono ?_
  rintro e w' ⟨v, rfl, ho, hb⟩
  obtain ⟨X, x, rfl, hr⟩ := OwnE.reads ho
  exact ⟨⟨X, x, rfl, hr⟩, hb⟩
theorem made_ok {g : Gr} (h : validE g = 0) (set : Nat) : PartOk g (madeP g set) := least_ok h _ _
theorem close_in {g : Gr} {vs xs : List Int} (h : closeE g vs xs = 0) (set : Nat) (hi : inP ⟨vs, xs⟩ (madeP g set) = true) : inP (closeP g vs xs) (madeP g set) = true := by
  obtain ⟨h1, h2, h3⟩ := close_zero.1 h
  obtain ⟨i1, i2⟩ := inP_iff.1 hi
  unfold closeP
  rw [if_pos h]
  exact inP_iff.2 (least_in h1 (made_ok h1 set) (fun i _ hb => i1 _ (inB_iff.1 hb)) (fun i _ hb => i2 _ (inB_iff.1 hb)))
theorem part_len {g : Gr} {p : Mo} (hv : validE g = 0) (h : PartOk g p) : p.ns.length ≤ 1000 ∧ p.es.length ≤ 1000 := by
  obtain ⟨v1, v2, _⟩ := valid_zero hv
  have := asc_len h.an h.rn
  have := asc_len h.ae h.re
  omega
set_option maxRecDepth 100000 in
set_option maxHeartbeats 4000000 in
theorem lawClose7 (hC : CloseC 12) (hB : BndC 35) (hA : AllC 37) (g : Gr) (An : Option Addr) (cn : Nat) (Ae : Option Addr) (ce : Nat) (m : Mo) (En : Option Addr) (en : Nat) (Ee : Option Addr) (ee : Nat) (set : Nat) (w : World) (hT : TabV w) (hg : GrAt w An cn Ae ce g) (m1 : Ints w w.heap.size En m.ns) (m2 : Ints w w.heap.size Ee m.es) (l1 : m.ns.length ≤ 1152921504606846976) (l2 : m.es.length ≤ 1152921504606846976) (hset : set < 18446744073709551616) :
    Calls Tryd.prog 3 #[gval An g.ns.length cn Ae g.es.length ce, gval En m.ns.length en Ee m.es.length ee, .int .u64 (set : Int)] w fun e w' => e = .returned (.bool true) ∧ Below w.heap.size w w' := by
  have HAW := Lib.hid (fun (u : World) (hu : Below w.heap.size w u) => awake7 hC hB hA u (hT.up hu))
  have HSM := Lib.hid (fun (u : World) (hu : Below w.heap.size w u) => small7_any g [] An cn Ae ce none 0 u (by simp) (hg.up hu) (by simp) (.inl rfl))
  have HCP := Lib.hid (fun (h : g.ns.length ≤ 1000 ∧ g.es.length ≤ 1000) (u : World) (hu : Below w.heap.size w u) => copyG7 g An cn Ae ce u h (hg.up hu))
  have HK1 := Lib.hid (fun (h : m.ns.length ≤ 100) (u : World) (hu : Below w.heap.size w u) => clone7 m.ns En en u (by omega) (Reads.up m1 hu))
  have HK2 := Lib.hid (fun (h : m.es.length ≤ 100) (u : World) (hu : Below w.heap.size w u) => clone7 m.es Ee ee u (by omega) (Reads.up m2 hu))
  have HC1 := Lib.hid (fun (h1 : m.ns.length ≤ 100) (h2 : m.es.length ≤ 100) X x Y y A a B b (u : World) (q1 : GrAt u X x Y y g) (q2 : Ints u u.heap.size A m.ns) (q3 : Ints u u.heap.size B m.es) => hC g m.ns m.es X x Y y A a B b u q1 q2 q3 (by omega) (by omega))
  have HC2 := Lib.hid (fun (h1 : m.ns.length ≤ 100) (h2 : m.es.length ≤ 100) (u : World) (hu : Below w.heap.size w u) => close7_any g m.ns m.es An cn Ae ce En en Ee ee u (hg.up hu) (Reads.up m1 hu) (Reads.up m2 hu) (by omega) (by omega))
  have HMD := Lib.hid (fun (h : validE g = 0) (u : World) (hu : Below w.heap.size w u) => made7_any g set An cn Ae ce u h hset (hg.up hu))
  have HPE := Lib.hid (fun (h1 : m.ns.length ≤ 100) (h2 : m.es.length ≤ 100) (u : World) (hu : Below w.heap.size w u) => (show PtAt u En Ee m from ⟨Reads.up m1 hu, Reads.up m2 hu, by omega, by omega⟩))
  have HFL : Hid ((fewB g && [].all (fun (x : PtV) => fewM x.p 150)) = true → g.ns.length ≤ 1000 ∧ g.es.length ≤ 1000) := Lib.hid fun h => by
    unfold fewB at h
    simp only [List.all_nil, Bool.and_true, Bool.and_eq_true, decide_eq_true_eq] at h
    omega
  have HCI := Lib.hid (fun (h : closeE g m.ns m.es = 0) => close_in h set)
  have HCV := Lib.hid (fun (h : closeE g m.ns m.es = 0) => (close_zero.1 h).1)
  have HCL : Hid (closeE g m.ns m.es = 0 → (closeP g m.ns m.es).ns.length ≤ 1000 ∧ (closeP g m.ns m.es).es.length ≤ 1000) := Lib.hid fun h => by
    have hv := (close_zero.1 h).1
    unfold closeP
    rw [if_pos h]
    exact part_len hv (least_ok hv _ _)
  have HML := Lib.hid (fun (h : validE g = 0) => part_len h (made_ok h set))
  have HS0 : Hid (SV w [([.slice An g.ns.length cn, .slice Ae g.es.length ce], 25), ([.slice En m.ns.length en, .slice Ee m.es.length ee], 27)] _) := Lib.hid (SV.push (SV.push (SV.nil w) rfl [.slice An g.ns.length cn, .slice Ae g.es.length ce] 25) (by simp) [.slice En m.ns.length en, .slice Ee m.es.length ee] 27)
  clear hT hC hB hA hg m1 m2
  simp only [List.length_nil] at HSM
  generalize (fewB g && [].all (fun (x : PtV) => fewM x.p 150)) = s1 at *
  generalize closeE g m.ns m.es = E at *
  generalize closeP g m.ns m.es = R at *
  generalize madeP g set = T at *
  go_enter Tryd.func3, Tryd.ntmps3
  go_wp2_with fail
  refine (HAW.out _ (by first | exact HS0.out.1 | exact HS1.out.1 | exact HS2.out.1 | exact HS3.out.1)).mono ?_
  rintro e w1 ⟨rfl, hb⟩
  have HS1 := Lib.hid (HS0.out.up hb)
  clear hb HS0
  have c0 := HS1.out.cell (i := 0) (j := 0) rfl rfl
  have c1 := HS1.out.cell (i := 0) (j := 1) rfl rfl
  have d0 := HS1.out.cell (i := 1) (j := 0) rfl rfl
  have d1 := HS1.out.cell (i := 1) (j := 1) rfl rfl
  simp only [Nat.add_zero] at c0 c1
  go_wp2_with fail
  refine (HSM.out _ HS1.out.1).mono ?_
  rintro e w2 ⟨rfl, hb⟩
  have HS2 := Lib.hid (HS1.out.up hb)
  clear hb HS1 HSM c0 c1 d0 d1
  cases s1
  case false =>
    go_wp2_with fail
    refine (HAW.out _ (by first | exact HS0.out.1 | exact HS1.out.1 | exact HS2.out.1 | exact HS3.out.1)).mono ?_
    rintro e w9 ⟨rfl, hb9⟩
    go_wp2_with fail
    go_ret
    exact ⟨rfl, HS2.out.1.trans (hb9.mono HS2.out.1.size)⟩
  have HFG := Lib.hid (HFL.out rfl)
  have c0 := HS2.out.cell (i := 0) (j := 0) rfl rfl
  have c1 := HS2.out.cell (i := 0) (j := 1) rfl rfl
  have d0 := HS2.out.cell (i := 1) (j := 0) rfl rfl
  have d1 := HS2.out.cell (i := 1) (j := 1) rfl rfl
  simp only [Nat.add_zero] at c0 c1
  by_cases q1 : m.ns.length ≤ 100
  case neg =>
    have t1 : (100 : Int) < (m.ns.length : Int) := by omega
    clear q1
    go_wp2_with fail
    refine (HAW.out _ (by first | exact HS0.out.1 | exact HS1.out.1 | exact HS2.out.1 | exact HS3.out.1)).mono ?_
    rintro e w9 ⟨rfl, hb9⟩
    go_wp2_with fail
    go_ret
    exact ⟨rfl, HS2.out.1.trans (hb9.mono HS2.out.1.size)⟩
  by_cases q2 : m.es.length ≤ 100
  case neg =>
    have t1 : ¬ (100 : Int) < (m.ns.length : Int) := by omega
    have t2 : (100 : Int) < (m.es.length : Int) := by omega
    clear q1 q2
    go_wp2_with fail
    refine (HAW.out _ (by first | exact HS0.out.1 | exact HS1.out.1 | exact HS2.out.1 | exact HS3.out.1)).mono ?_
    rintro e w9 ⟨rfl, hb9⟩
    go_wp2_with fail
    go_ret
    exact ⟨rfl, HS2.out.1.trans (hb9.mono HS2.out.1.size)⟩
  have t1 : ¬ (100 : Int) < (m.ns.length : Int) := by omega
  have t2 : ¬ (100 : Int) < (m.es.length : Int) := by omega
  have HCP9 := Lib.hid (HCP.out HFG.out)
  have HK19 := Lib.hid (HK1.out q1)
  have HK29 := Lib.hid (HK2.out q2)
  have HC19 := Lib.hid (HC1.out q1 q2)
  have HC29 := Lib.hid (HC2.out q1 q2)
  have HPE9 := Lib.hid (HPE.out q1 q2)
  clear HCP HK1 HK2 HC1 HC2 HPE HFL HFG HAW q1 q2
  go_upto_region 3 with fail
  clear t1 t2 c0 c1 d0 d1
  go_cut [7, 8] (fun u v wc => ∃ gx Xn xn Xe xe, u = .pointer (some ⟨gx, 0, none⟩) ∧ v = .int .i64 (E : Nat) ∧ BX gx (.slice Xn R.ns.length xn) (.slice Xe R.es.length xe) 27 wc ∧ Ints wc wc.heap.size Xn R.ns ∧ Ints wc wc.heap.size Xe R.es ∧ R2 R ∧ SV w [([.slice An g.ns.length cn, .slice Ae g.es.length ce], 25), ([.slice En m.ns.length en, .slice Ee m.es.length ee], 27)] wc)
  case first =>
    go_wp2_with fail
    have S_wd := Lib.hid (HS2.out.up (below_d w2))
    clear HS2
    have q0 : w2.drew.cell? ⟨w.heap.size, 0, none⟩ = some (.slice An g.ns.length cn) := S_wd.out.cell (i := 0) (j := 0) rfl rfl
    have q1 : w2.drew.cell? ⟨w.heap.size, 1, none⟩ = some (.slice Ae g.es.length ce) := S_wd.out.cell (i := 0) (j := 1) rfl rfl
    have q2 : w2.drew.cell? ⟨w.heap.size + 1, 0, none⟩ = some (.slice En m.ns.length en) := S_wd.out.cell (i := 1) (j := 0) rfl rfl
    have q3 : w2.drew.cell? ⟨w.heap.size + 1, 1, none⟩ = some (.slice Ee m.es.length ee) := S_wd.out.cell (i := 1) (j := 1) rfl rfl
    have HM_wd : Hid (∀ u, Below w2.drew.heap.size w2.drew u → (fun u : World => u.cell? ⟨w.heap.size, 0, none⟩ = some (.slice An g.ns.length cn) ∧ u.cell? ⟨w.heap.size, 1, none⟩ = some (.slice Ae g.es.length ce) ∧ u.cell? ⟨w.heap.size + 1, 0, none⟩ = some (.slice En m.ns.length en) ∧ u.cell? ⟨w.heap.size + 1, 1, none⟩ = some (.slice Ee m.es.length ee)) u) := Lib.hid fun u hb => ⟨cell_up hb q0, cell_up hb q1, cell_up hb q2, cell_up hb q3⟩
    clear q0 q1 q2 q3
    have WD_wd := Lib.hid (Below.refl w2.drew.heap.size w2.drew)
    refine wp_region_noPanic ?_
    refine wp_region_held_drew (S := (fun u : World => u.cell? ⟨w.heap.size, 0, none⟩ = some (.slice An g.ns.length cn) ∧ u.cell? ⟨w.heap.size, 1, none⟩ = some (.slice Ae g.es.length ce) ∧ u.cell? ⟨w.heap.size + 1, 0, none⟩ = some (.slice En m.ns.length en) ∧ u.cell? ⟨w.heap.size + 1, 1, none⟩ = some (.slice Ee m.es.length ee))) (by kernel_rfl) (HM_wd.out _ WD_wd.out) (fun hHeld => ?_)
    generalize w2.drew = wd at *
    have lsv : w.heap.size + 2 ≤ wd.heap.size := S_wd.out.2.1
    refine wpAnyH_take (i := 0) (v := ?_) (oper_at (r := _) rfl) (by kernel_rfl) (by kernel_rfl) (by kernel_rfl) (fun _ _ _ h => h) (Or.inl ⟨by rfl, ?_⟩) (by assumption) ?_
    rotate_left
    · intro w hSw; try dsimp only at hSw
      go_simp
      try with_reducible rfl
    try simp only [Act.put, List.setIfInBounds_toArray, List.set_cons_zero, List.set_cons_succ]
    refine wpAnyH_take (i := 2) (v := ?_) (oper_at (r := _) rfl) (by kernel_rfl) (by kernel_rfl) (by kernel_rfl) (fun _ _ _ h => h) (Or.inl ⟨by rfl, ?_⟩) (by assumption) ?_
    rotate_left
    · intro w hSw; try dsimp only at hSw
      go_simp
      try with_reducible rfl
    try simp only [Act.put, List.setIfInBounds_toArray, List.set_cons_zero, List.set_cons_succ]
    refine wpAnyH_take (i := 3) (v := ?_) (oper_at (r := _) rfl) (by kernel_rfl) (by kernel_rfl) (by kernel_rfl) (fun _ _ _ h => h) (Or.inl ⟨by rfl, ?_⟩) (by assumption) ?_
    rotate_left
    · intro w hSw; try dsimp only at hSw
      go_simp
      try with_reducible rfl
    try simp only [Act.put, List.setIfInBounds_toArray, List.set_cons_zero, List.set_cons_succ]
    refine wpAnyH_take (i := 5) (v := ?_) (oper_at (r := _) rfl) (by kernel_rfl) (by kernel_rfl) (by kernel_rfl) (fun _ _ _ h => h) (Or.inl ⟨by rfl, ?_⟩) (by assumption) ?_
    rotate_left
    · intro w hSw; try dsimp only at hSw
      go_simp
      try with_reducible rfl
    try simp only [Act.put, List.setIfInBounds_toArray, List.set_cons_zero, List.set_cons_succ]
    refine wpAnyH_take (i := 6) (v := ?_) (oper_at (r := _) rfl) (by kernel_rfl) (by kernel_rfl) (by kernel_rfl) (fun _ _ _ h => h) (Or.inl ⟨by rfl, ?_⟩) (by assumption) ?_
    rotate_left
    · intro w hSw; try dsimp only at hSw
      go_simp
      try with_reducible rfl
    try simp only [Act.put, List.setIfInBounds_toArray, List.set_cons_zero, List.set_cons_succ]
    refine wpAnyH_ready (rs := [1, 12]) (by kernel_rfl) (by simp) ?_
    refine (AllReadyH.cons (oper_at (r := _) rfl) (fun K hK => ?_) (AllReadyH.cons (oper_at (r := _) rfl) (fun K hK => ?_) AllReadyH.nil))
    · skip
      go_simp
      refine (HCP9.out _ S_wd.out.1).mono ?_
      rintro e W1 ⟨⟨G1, k1, G2, k2, rfl, r1⟩, hb⟩
      have S_W1 := Lib.hid (S_wd.out.up hb)
      have WD_W1 := Lib.hid (WD_wd.out.trans (hb.mono WD_wd.out.size))
      clear S_wd WD_wd
      have GR_W1 := Lib.hid r1
      clear hb r1
      go_wp2_with fail
      refine hK.out _ _ (HM_wd.out _ WD_W1.out) (fun _ => ?_)
      clear hK K
      try simp only [Act.put, List.setIfInBounds_toArray, List.set_cons_zero, List.set_cons_succ]
      refine wpAnyH_ready (rs := [4, 12]) (by kernel_rfl) (by simp) ?_
      refine (AllReadyH.cons (oper_at (r := _) rfl) (fun K hK => ?_) (AllReadyH.cons (oper_at (r := _) rfl) (fun K hK => ?_) AllReadyH.nil))
      · skip
        go_simp
        refine (HK19.out _ S_W1.out.1).mono ?_
        rintro e W2 ⟨⟨K1, k3, rfl, r1⟩, hb⟩
        have S_W2 := Lib.hid (S_W1.out.up hb)
        have WD_W2 := Lib.hid (WD_W1.out.trans (hb.mono WD_W1.out.size))
        have GR_W2 := Lib.hid (GR_W1.out.up hb)
        clear S_W1 WD_W1 GR_W1
        have RA_W2 := Lib.hid r1
        clear hb r1
        go_wp2_with fail
        refine hK.out _ _ (HM_wd.out _ WD_W2.out) (fun _ => ?_)
        clear hK K
        try simp only [Act.put, List.setIfInBounds_toArray, List.set_cons_zero, List.set_cons_succ]
        refine wpAnyH_ready (rs := [7, 12]) (by kernel_rfl) (by simp) ?_
        refine (AllReadyH.cons (oper_at (r := _) rfl) (fun K hK => ?_) (AllReadyH.cons (oper_at (r := _) rfl) (fun K hK => ?_) AllReadyH.nil))
        · skip
          go_simp
          refine (HK29.out _ S_W2.out.1).mono ?_
          rintro e W3 ⟨⟨K2, k4, rfl, r1⟩, hb⟩
          have S_W3 := Lib.hid (S_W2.out.up hb)
          have WD_W3 := Lib.hid (WD_W2.out.trans (hb.mono WD_W2.out.size))
          have GR_W3 := Lib.hid (GR_W2.out.up hb)
          have RA_W3 := Lib.hid (Reads.up RA_W2.out hb)
          clear S_W2 WD_W2 GR_W2 RA_W2
          have RB_W3 := Lib.hid r1
          clear hb r1
          go_wp2_with fail
          refine hK.out _ _ (HM_wd.out _ WD_W3.out) (fun _ => ?_)
          clear hK K
          try simp only [Act.put, List.setIfInBounds_toArray, List.set_cons_zero, List.set_cons_succ]
          refine wpAnyH_ready (rs := [8, 12]) (by kernel_rfl) (by simp) ?_
          refine (AllReadyH.cons (oper_at (r := _) rfl) (fun K hK => ?_) (AllReadyH.cons (oper_at (r := _) rfl) (fun K hK => ?_) AllReadyH.nil))
          · skip
            go_simp
            refine (HC19.out G1 k1 G2 k2 K1 k3 K2 k4 _ GR_W3.out RA_W3.out RB_W3.out).mono ?_
            rintro e W4 ⟨⟨X3, x3, Y3, y3, rfl, r1, r2, r3, r4⟩, hb⟩
            have S_W4 := Lib.hid (S_W3.out.up hb)
            have WD_W4 := Lib.hid (WD_W3.out.trans (hb.mono WD_W3.out.size))
            have GR_W4 := Lib.hid (GR_W3.out.up hb)
            have RA_W4 := Lib.hid (Reads.up RA_W3.out hb)
            have RB_W4 := Lib.hid (Reads.up RB_W3.out hb)
            clear S_W3 WD_W3 GR_W3 RA_W3 RB_W3
            have R1_W4 := Lib.hid r1
            have R2_W4 := Lib.hid r2
            have LN_W4 := Lib.hid (And.intro r3 r4)
            clear hb r1 r2
            go_wp2_with fail
            refine hK.out _ _ (HM_wd.out _ WD_W4.out) (fun _ => ?_)
            clear hK K
            try simp only [Act.put, List.setIfInBounds_toArray, List.set_cons_zero, List.set_cons_succ]
            clear r3 r4
            refine wpAnyH_take (i := 9) (v := ?_) (oper_at (r := _) rfl) (by kernel_rfl) (by kernel_rfl) (by kernel_rfl) (fun _ _ _ h => h) (Or.inl ⟨by rfl, ?_⟩) (by assumption) ?_
            rotate_left
            · intro w hSw; try dsimp only at hSw
              go_simp
              try with_reducible rfl
            try simp only [Act.put, List.setIfInBounds_toArray, List.set_cons_zero, List.set_cons_succ]
            refine wpAnyH_take (i := 10) (v := ?_) (oper_at (r := _) rfl) (by kernel_rfl) (by kernel_rfl) (by kernel_rfl) (fun _ _ _ h => h) (Or.inl ⟨by rfl, ?_⟩) (by assumption) ?_
            rotate_left
            · intro w hSw; try dsimp only at hSw
              go_simp
              try with_reducible rfl
            try simp only [Act.put, List.setIfInBounds_toArray, List.set_cons_zero, List.set_cons_succ]
            refine wpAnyH_take (i := 11) (v := ?_) (oper_at (r := _) rfl) (by kernel_rfl) (by kernel_rfl) (by kernel_rfl) (fun _ _ _ h => h) (Or.inl ⟨by rfl, ?_⟩) (by assumption) ?_
            rotate_left
            · intro w hSw; try dsimp only at hSw
              go_simp
              try with_reducible rfl
            try simp only [Act.put, List.setIfInBounds_toArray, List.set_cons_zero, List.set_cons_succ]
            refine wpAnyH_ready (rs := [12]) (by kernel_rfl) (by simp) ?_
            refine AllReadyH.cons (oper_at (r := _) rfl) (fun K hK => ?_) AllReadyH.nil
            obtain ⟨gx, hg⟩ : ∃ g, g = W4.heap.size := ⟨_, rfl⟩
            have lgx : wd.heap.size ≤ gx := by rw [hg]; exact WD_W4.out.size
            have hx : BX gx (.slice none 0 0) (.slice none 0 0) 27 (W4.alloc (.cells #[.slice none 0 0, .slice none 0 0] 27)) := by rw [hg]; exact heap_alloc_new _ _
            have hb : Below W4.heap.size W4 (W4.alloc (.cells #[.slice none 0 0, .slice none 0 0] 27)) := (Below.refl _ _).alloc (Nat.le_refl _) _
            have S_W5 := Lib.hid (S_W4.out.up hb)
            have WD_W5 := Lib.hid (WD_W4.out.trans (hb.mono WD_W4.out.size))
            have R1_W5 := Lib.hid (Reads.up R1_W4.out hb)
            have R2_W5 := Lib.hid (Reads.up R2_W4.out hb)
            have LN_W5 := Lib.hid (LN_W4.out)
            clear S_W4 WD_W4 R1_W4 R2_W4 LN_W4
            have BZ_W5 := Lib.hid hx
            clear hx hb
            go_simp
            refine hK.out _ _ (HM_wd.out _ WD_W5.out) (fun _ => ?_)
            clear hK K
            try simp only [Act.put, List.setIfInBounds_toArray, List.set_cons_zero, List.set_cons_succ]
            generalize W4.alloc (.cells #[.slice none 0 0, .slice none 0 0] 27) = W5 at *
            try rw [← hg]
            clear hg
            refine wpAnyH_ready (rs := [13]) (by kernel_rfl) (by simp) ?_
            refine AllReadyH.cons (oper_at (r := _) rfl) (fun K hK => ?_) AllReadyH.nil
            have fr0 := BZ_W5.out.free 0
            have fr1 := BZ_W5.out.free 1
            obtain ⟨e0, e1⟩ := BZ_W5.out.cells
            go_simp
            clear fr0 fr1 e0 e1
            have S_W6 := Lib.hid (S_W5.out.set (g := gx) (by simp; omega) ((.slice X3 R.ns.length x3)) ((.slice Y3 R.es.length y3)))
            have WD_W6 := Lib.hid ((WD_W5.out.setCell (p := ⟨gx, 0, none⟩) (by show wd.heap.size ≤ gx; omega) ((.slice X3 R.ns.length x3))).setCell (p := ⟨gx, 1, none⟩) (by show wd.heap.size ≤ gx; omega) ((.slice Y3 R.es.length y3)))
            have R1_W6 := Lib.hid (ints_set' R1_W5.out BZ_W5.out ((.slice X3 R.ns.length x3)) ((.slice Y3 R.es.length y3)))
            have R2_W6 := Lib.hid (ints_set' R2_W5.out BZ_W5.out ((.slice X3 R.ns.length x3)) ((.slice Y3 R.es.length y3)))
            have LN_W6 := Lib.hid (LN_W5.out)
            have BZ_W6 := Lib.hid (BZ_W5.out.put ((.slice X3 R.ns.length x3)) ((.slice Y3 R.es.length y3)))
            clear S_W5 WD_W5 R1_W5 R2_W5 LN_W5 BZ_W5
            refine hK.out _ _ (HM_wd.out _ WD_W6.out) (fun _ => ?_)
            clear hK K
            try simp only [Act.put, List.setIfInBounds_toArray, List.set_cons_zero, List.set_cons_succ]
            generalize (W5.setCell ⟨gx, 0, none⟩ ((.slice X3 R.ns.length x3))).setCell ⟨gx, 1, none⟩ ((.slice Y3 R.es.length y3)) = W6 at *
            refine wpAnyH_take (i := 14) (v := ?_) (oper_at (r := _) rfl) (by kernel_rfl) (by kernel_rfl) (by kernel_rfl) (fun _ _ _ h => h) (Or.inl ⟨by rfl, ?_⟩) (by assumption) ?_
            rotate_left
            · intro w hSw; try dsimp only at hSw
              go_simp
              try with_reducible rfl
            try simp only [Act.put, List.setIfInBounds_toArray, List.set_cons_zero, List.set_cons_succ]
            refine wpAnyH_done (by kernel_rfl) ?_ _
            refine NoPanic.normal ?_
            go_wp2_with fail
            go_meet
            exact ⟨gx, X3, x3, Y3, y3, rfl, rfl, BZ_W6.out, R1_W6.out, R2_W6.out, LN_W6.out, S_W6.out⟩
          · skip
            obtain ⟨gx, hg⟩ : ∃ g, g = W3.heap.size := ⟨_, rfl⟩
            have lgx : wd.heap.size ≤ gx := by rw [hg]; exact WD_W3.out.size
            have hx : BX gx (.slice none 0 0) (.slice none 0 0) 27 (W3.alloc (.cells #[.slice none 0 0, .slice none 0 0] 27)) := by rw [hg]; exact heap_alloc_new _ _
            have hb : Below W3.heap.size W3 (W3.alloc (.cells #[.slice none 0 0, .slice none 0 0] 27)) := (Below.refl _ _).alloc (Nat.le_refl _) _
            have S_W7 := Lib.hid (S_W3.out.up hb)
            have WD_W7 := Lib.hid (WD_W3.out.trans (hb.mono WD_W3.out.size))
            have GR_W7 := Lib.hid (GR_W3.out.up hb)
            have RA_W7 := Lib.hid (Reads.up RA_W3.out hb)
            have RB_W7 := Lib.hid (Reads.up RB_W3.out hb)
            clear S_W3 WD_W3 GR_W3 RA_W3 RB_W3
            have BZ_W7 := Lib.hid hx
            clear hx hb
            go_simp
            refine hK.out _ _ (HM_wd.out _ WD_W7.out) (fun _ => ?_)
            clear hK K
            try simp only [Act.put, List.setIfInBounds_toArray, List.set_cons_zero, List.set_cons_succ]
            generalize W3.alloc (.cells #[.slice none 0 0, .slice none 0 0] 27) = W7 at *
            try rw [← hg]
            clear hg
            refine wpAnyH_ready (rs := [8]) (by kernel_rfl) (by simp) ?_
            refine AllReadyH.cons (oper_at (r := _) rfl) (fun K hK => ?_) AllReadyH.nil
            go_simp
            refine (HC19.out G1 k1 G2 k2 K1 k3 K2 k4 _ GR_W7.out RA_W7.out RB_W7.out).mono ?_
            rintro e W8 ⟨⟨X3, x3, Y3, y3, rfl, r1, r2, r3, r4⟩, hb⟩
            have S_W8 := Lib.hid (S_W7.out.up hb)
            have WD_W8 := Lib.hid (WD_W7.out.trans (hb.mono WD_W7.out.size))
            have GR_W8 := Lib.hid (GR_W7.out.up hb)
            have RA_W8 := Lib.hid (Reads.up RA_W7.out hb)
            have RB_W8 := Lib.hid (Reads.up RB_W7.out hb)
            have BZ_W8 := Lib.hid (BZ_W7.out.up hb)
            clear S_W7 WD_W7 GR_W7 RA_W7 RB_W7 BZ_W7
            have R1_W8 := Lib.hid r1
            have R2_W8 := Lib.hid r2
            have LN_W8 := Lib.hid (And.intro r3 r4)
            clear hb r1 r2
            go_wp2_with fail
            refine hK.out _ _ (HM_wd.out _ WD_W8.out) (fun _ => ?_)
            clear hK K
            try simp only [Act.put, List.setIfInBounds_toArray, List.set_cons_zero, List.set_cons_succ]
            clear r3 r4
            refine wpAnyH_take (i := 9) (v := ?_) (oper_at (r := _) rfl) (by kernel_rfl) (by kernel_rfl) (by kernel_rfl) (fun _ _ _ h => h) (Or.inl ⟨by rfl, ?_⟩) (by assumption) ?_
            rotate_left
            · intro w hSw; try dsimp only at hSw
              go_simp
              try with_reducible rfl
            try simp only [Act.put, List.setIfInBounds_toArray, List.set_cons_zero, List.set_cons_succ]
            refine wpAnyH_take (i := 10) (v := ?_) (oper_at (r := _) rfl) (by kernel_rfl) (by kernel_rfl) (by kernel_rfl) (fun _ _ _ h => h) (Or.inl ⟨by rfl, ?_⟩) (by assumption) ?_
            rotate_left
            · intro w hSw; try dsimp only at hSw
              go_simp
              try with_reducible rfl
            try simp only [Act.put, List.setIfInBounds_toArray, List.set_cons_zero, List.set_cons_succ]
            refine wpAnyH_take (i := 11) (v := ?_) (oper_at (r := _) rfl) (by kernel_rfl) (by kernel_rfl) (by kernel_rfl) (fun _ _ _ h => h) (Or.inl ⟨by rfl, ?_⟩) (by assumption) ?_
            rotate_left
            · intro w hSw; try dsimp only at hSw
              go_simp
              try with_reducible rfl
            try simp only [Act.put, List.setIfInBounds_toArray, List.set_cons_zero, List.set_cons_succ]
            refine wpAnyH_ready (rs := [13]) (by kernel_rfl) (by simp) ?_
            refine AllReadyH.cons (oper_at (r := _) rfl) (fun K hK => ?_) AllReadyH.nil
            have fr0 := BZ_W8.out.free 0
            have fr1 := BZ_W8.out.free 1
            obtain ⟨e0, e1⟩ := BZ_W8.out.cells
            go_simp
            clear fr0 fr1 e0 e1
            have S_W9 := Lib.hid (S_W8.out.set (g := gx) (by simp; omega) ((.slice X3 R.ns.length x3)) ((.slice Y3 R.es.length y3)))
            have WD_W9 := Lib.hid ((WD_W8.out.setCell (p := ⟨gx, 0, none⟩) (by show wd.heap.size ≤ gx; omega) ((.slice X3 R.ns.length x3))).setCell (p := ⟨gx, 1, none⟩) (by show wd.heap.size ≤ gx; omega) ((.slice Y3 R.es.length y3)))
            have BZ_W9 := Lib.hid (BZ_W8.out.put ((.slice X3 R.ns.length x3)) ((.slice Y3 R.es.length y3)))
            have R1_W9 := Lib.hid (ints_set' R1_W8.out BZ_W8.out ((.slice X3 R.ns.length x3)) ((.slice Y3 R.es.length y3)))
            have R2_W9 := Lib.hid (ints_set' R2_W8.out BZ_W8.out ((.slice X3 R.ns.length x3)) ((.slice Y3 R.es.length y3)))
            have LN_W9 := Lib.hid (LN_W8.out)
            clear S_W8 WD_W8 BZ_W8 R1_W8 R2_W8 LN_W8
            refine hK.out _ _ (HM_wd.out _ WD_W9.out) (fun _ => ?_)
            clear hK K
            try simp only [Act.put, List.setIfInBounds_toArray, List.set_cons_zero, List.set_cons_succ]
            generalize (W8.setCell ⟨gx, 0, none⟩ ((.slice X3 R.ns.length x3))).setCell ⟨gx, 1, none⟩ ((.slice Y3 R.es.length y3)) = W9 at *
            refine wpAnyH_take (i := 14) (v := ?_) (oper_at (r := _) rfl) (by kernel_rfl) (by kernel_rfl) (by kernel_rfl) (fun _ _ _ h => h) (Or.inl ⟨by rfl, ?_⟩) (by assumption) ?_
            rotate_left
            · intro w hSw; try dsimp only at hSw
              go_simp
              try with_reducible rfl
            try simp only [Act.put, List.setIfInBounds_toArray, List.set_cons_zero, List.set_cons_succ]
            refine wpAnyH_done (by kernel_rfl) ?_ _
            refine NoPanic.normal ?_
            go_wp2_with fail
            go_meet
            exact ⟨gx, X3, x3, Y3, y3, rfl, rfl, BZ_W9.out, R1_W9.out, R2_W9.out, LN_W9.out, S_W9.out⟩
        · skip
          obtain ⟨gx, hg⟩ : ∃ g, g = W2.heap.size := ⟨_, rfl⟩
          have lgx : wd.heap.size ≤ gx := by rw [hg]; exact WD_W2.out.size
          have hx : BX gx (.slice none 0 0) (.slice none 0 0) 27 (W2.alloc (.cells #[.slice none 0 0, .slice none 0 0] 27)) := by rw [hg]; exact heap_alloc_new _ _
          have hb : Below W2.heap.size W2 (W2.alloc (.cells #[.slice none 0 0, .slice none 0 0] 27)) := (Below.refl _ _).alloc (Nat.le_refl _) _
          have S_W10 := Lib.hid (S_W2.out.up hb)
          have WD_W10 := Lib.hid (WD_W2.out.trans (hb.mono WD_W2.out.size))
          have GR_W10 := Lib.hid (GR_W2.out.up hb)
          have RA_W10 := Lib.hid (Reads.up RA_W2.out hb)
          clear S_W2 WD_W2 GR_W2 RA_W2
          have BZ_W10 := Lib.hid hx
          clear hx hb
          go_simp
          refine hK.out _ _ (HM_wd.out _ WD_W10.out) (fun _ => ?_)
          clear hK K
          try simp only [Act.put, List.setIfInBounds_toArray, List.set_cons_zero, List.set_cons_succ]
          generalize W2.alloc (.cells #[.slice none 0 0, .slice none 0 0] 27) = W10 at *
          try rw [← hg]
          clear hg
          refine wpAnyH_ready (rs := [7]) (by kernel_rfl) (by simp) ?_
          refine AllReadyH.cons (oper_at (r := _) rfl) (fun K hK => ?_) AllReadyH.nil
          go_simp
          refine (HK29.out _ S_W10.out.1).mono ?_
          rintro e W11 ⟨⟨K2, k4, rfl, r1⟩, hb⟩
          have S_W11 := Lib.hid (S_W10.out.up hb)
          have WD_W11 := Lib.hid (WD_W10.out.trans (hb.mono WD_W10.out.size))
          have GR_W11 := Lib.hid (GR_W10.out.up hb)
          have RA_W11 := Lib.hid (Reads.up RA_W10.out hb)
          have BZ_W11 := Lib.hid (BZ_W10.out.up hb)
          clear S_W10 WD_W10 GR_W10 RA_W10 BZ_W10
          have RB_W11 := Lib.hid r1
          clear hb r1
          go_wp2_with fail
          refine hK.out _ _ (HM_wd.out _ WD_W11.out) (fun _ => ?_)
          clear hK K
          try simp only [Act.put, List.setIfInBounds_toArray, List.set_cons_zero, List.set_cons_succ]
          refine wpAnyH_ready (rs := [8]) (by kernel_rfl) (by simp) ?_
          refine AllReadyH.cons (oper_at (r := _) rfl) (fun K hK => ?_) AllReadyH.nil
          go_simp
          refine (HC19.out G1 k1 G2 k2 K1 k3 K2 k4 _ GR_W11.out RA_W11.out RB_W11.out).mono ?_
          rintro e W12 ⟨⟨X3, x3, Y3, y3, rfl, r1, r2, r3, r4⟩, hb⟩
          have S_W12 := Lib.hid (S_W11.out.up hb)
          have WD_W12 := Lib.hid (WD_W11.out.trans (hb.mono WD_W11.out.size))
          have GR_W12 := Lib.hid (GR_W11.out.up hb)
          have RA_W12 := Lib.hid (Reads.up RA_W11.out hb)
          have BZ_W12 := Lib.hid (BZ_W11.out.up hb)
          have RB_W12 := Lib.hid (Reads.up RB_W11.out hb)
          clear S_W11 WD_W11 GR_W11 RA_W11 BZ_W11 RB_W11
          have R1_W12 := Lib.hid r1
          have R2_W12 := Lib.hid r2
          have LN_W12 := Lib.hid (And.intro r3 r4)
          clear hb r1 r2
          go_wp2_with fail
          refine hK.out _ _ (HM_wd.out _ WD_W12.out) (fun _ => ?_)
          clear hK K
          try simp only [Act.put, List.setIfInBounds_toArray, List.set_cons_zero, List.set_cons_succ]
          clear r3 r4
          refine wpAnyH_take (i := 9) (v := ?_) (oper_at (r := _) rfl) (by kernel_rfl) (by kernel_rfl) (by kernel_rfl) (fun _ _ _ h => h) (Or.inl ⟨by rfl, ?_⟩) (by assumption) ?_
          rotate_left
          · intro w hSw; try dsimp only at hSw
            go_simp
            try with_reducible rfl
          try simp only [Act.put, List.setIfInBounds_toArray, List.set_cons_zero, List.set_cons_succ]
          refine wpAnyH_take (i := 10) (v := ?_) (oper_at (r := _) rfl) (by kernel_rfl) (by kernel_rfl) (by kernel_rfl) (fun _ _ _ h => h) (Or.inl ⟨by rfl, ?_⟩) (by assumption) ?_
          rotate_left
          · intro w hSw; try dsimp only at hSw
            go_simp
            try with_reducible rfl
          try simp only [Act.put, List.setIfInBounds_toArray, List.set_cons_zero, List.set_cons_succ]
          refine wpAnyH_take (i := 11) (v := ?_) (oper_at (r := _) rfl) (by kernel_rfl) (by kernel_rfl) (by kernel_rfl) (fun _ _ _ h => h) (Or.inl ⟨by rfl, ?_⟩) (by assumption) ?_
          rotate_left
          · intro w hSw; try dsimp only at hSw
            go_simp
            try with_reducible rfl
          try simp only [Act.put, List.setIfInBounds_toArray, List.set_cons_zero, List.set_cons_succ]
          refine wpAnyH_ready (rs := [13]) (by kernel_rfl) (by simp) ?_
          refine AllReadyH.cons (oper_at (r := _) rfl) (fun K hK => ?_) AllReadyH.nil
          have fr0 := BZ_W12.out.free 0
          have fr1 := BZ_W12.out.free 1
          obtain ⟨e0, e1⟩ := BZ_W12.out.cells
          go_simp
          clear fr0 fr1 e0 e1
          have S_W13 := Lib.hid (S_W12.out.set (g := gx) (by simp; omega) ((.slice X3 R.ns.length x3)) ((.slice Y3 R.es.length y3)))
          have WD_W13 := Lib.hid ((WD_W12.out.setCell (p := ⟨gx, 0, none⟩) (by show wd.heap.size ≤ gx; omega) ((.slice X3 R.ns.length x3))).setCell (p := ⟨gx, 1, none⟩) (by show wd.heap.size ≤ gx; omega) ((.slice Y3 R.es.length y3)))
          have BZ_W13 := Lib.hid (BZ_W12.out.put ((.slice X3 R.ns.length x3)) ((.slice Y3 R.es.length y3)))
          have R1_W13 := Lib.hid (ints_set' R1_W12.out BZ_W12.out ((.slice X3 R.ns.length x3)) ((.slice Y3 R.es.length y3)))
          have R2_W13 := Lib.hid (ints_set' R2_W12.out BZ_W12.out ((.slice X3 R.ns.length x3)) ((.slice Y3 R.es.length y3)))
          have LN_W13 := Lib.hid (LN_W12.out)
          clear S_W12 WD_W12 BZ_W12 R1_W12 R2_W12 LN_W12
          refine hK.out _ _ (HM_wd.out _ WD_W13.out) (fun _ => ?_)
          clear hK K
          try simp only [Act.put, List.setIfInBounds_toArray, List.set_cons_zero, List.set_cons_succ]
          generalize (W12.setCell ⟨gx, 0, none⟩ ((.slice X3 R.ns.length x3))).setCell ⟨gx, 1, none⟩ ((.slice Y3 R.es.length y3)) = W13 at *
          refine wpAnyH_take (i := 14) (v := ?_) (oper_at (r := _) rfl) (by kernel_rfl) (by kernel_rfl) (by kernel_rfl) (fun _ _ _ h => h) (Or.inl ⟨by rfl, ?_⟩) (by assumption) ?_
          rotate_left
          · intro w hSw; try dsimp only at hSw
            go_simp
            try with_reducible rfl
          try simp only [Act.put, List.setIfInBounds_toArray, List.set_cons_zero, List.set_cons_succ]
          refine wpAnyH_done (by kernel_rfl) ?_ _
          refine NoPanic.normal ?_
          go_wp2_with fail
          go_meet
          exact ⟨gx, X3, x3, Y3, y3, rfl, rfl, BZ_W13.out, R1_W13.out, R2_W13.out, LN_W13.out, S_W13.out⟩
      · skip
        obtain ⟨gx, hg⟩ : ∃ g, g = W1.heap.size := ⟨_, rfl⟩
        have lgx : wd.heap.size ≤ gx := by rw [hg]; exact WD_W1.out.size
        have hx : BX gx (.slice none 0 0) (.slice none 0 0) 27 (W1.alloc (.cells #[.slice none 0 0, .slice none 0 0] 27)) := by rw [hg]; exact heap_alloc_new _ _
        have hb : Below W1.heap.size W1 (W1.alloc (.cells #[.slice none 0 0, .slice none 0 0] 27)) := (Below.refl _ _).alloc (Nat.le_refl _) _
        have S_W14 := Lib.hid (S_W1.out.up hb)
        have WD_W14 := Lib.hid (WD_W1.out.trans (hb.mono WD_W1.out.size))
        have GR_W14 := Lib.hid (GR_W1.out.up hb)
        clear S_W1 WD_W1 GR_W1
        have BZ_W14 := Lib.hid hx
        clear hx hb
        go_simp
        refine hK.out _ _ (HM_wd.out _ WD_W14.out) (fun _ => ?_)
        clear hK K
        try simp only [Act.put, List.setIfInBounds_toArray, List.set_cons_zero, List.set_cons_succ]
        generalize W1.alloc (.cells #[.slice none 0 0, .slice none 0 0] 27) = W14 at *
        try rw [← hg]
        clear hg
        refine wpAnyH_ready (rs := [4]) (by kernel_rfl) (by simp) ?_
        refine AllReadyH.cons (oper_at (r := _) rfl) (fun K hK => ?_) AllReadyH.nil
        go_simp
        refine (HK19.out _ S_W14.out.1).mono ?_
        rintro e W15 ⟨⟨K1, k3, rfl, r1⟩, hb⟩
        have S_W15 := Lib.hid (S_W14.out.up hb)
        have WD_W15 := Lib.hid (WD_W14.out.trans (hb.mono WD_W14.out.size))
        have GR_W15 := Lib.hid (GR_W14.out.up hb)
        have BZ_W15 := Lib.hid (BZ_W14.out.up hb)
        clear S_W14 WD_W14 GR_W14 BZ_W14
        have RA_W15 := Lib.hid r1
        clear hb r1
        go_wp2_with fail
        refine hK.out _ _ (HM_wd.out _ WD_W15.out) (fun _ => ?_)
        clear hK K
        try simp only [Act.put, List.setIfInBounds_toArray, List.set_cons_zero, List.set_cons_succ]
        refine wpAnyH_ready (rs := [7]) (by kernel_rfl) (by simp) ?_
        refine AllReadyH.cons (oper_at (r := _) rfl) (fun K hK => ?_) AllReadyH.nil
        go_simp
        refine (HK29.out _ S_W15.out.1).mono ?_
        rintro e W16 ⟨⟨K2, k4, rfl, r1⟩, hb⟩
        have S_W16 := Lib.hid (S_W15.out.up hb)
        have WD_W16 := Lib.hid (WD_W15.out.trans (hb.mono WD_W15.out.size))
        have GR_W16 := Lib.hid (GR_W15.out.up hb)
        have BZ_W16 := Lib.hid (BZ_W15.out.up hb)
        have RA_W16 := Lib.hid (Reads.up RA_W15.out hb)
        clear S_W15 WD_W15 GR_W15 BZ_W15 RA_W15
        have RB_W16 := Lib.hid r1
        clear hb r1
        go_wp2_with fail
        refine hK.out _ _ (HM_wd.out _ WD_W16.out) (fun _ => ?_)
        clear hK K
        try simp only [Act.put, List.setIfInBounds_toArray, List.set_cons_zero, List.set_cons_succ]
        refine wpAnyH_ready (rs := [8]) (by kernel_rfl) (by simp) ?_
        refine AllReadyH.cons (oper_at (r := _) rfl) (fun K hK => ?_) AllReadyH.nil
        go_simp
        refine (HC19.out G1 k1 G2 k2 K1 k3 K2 k4 _ GR_W16.out RA_W16.out RB_W16.out).mono ?_
        rintro e W17 ⟨⟨X3, x3, Y3, y3, rfl, r1, r2, r3, r4⟩, hb⟩
        have S_W17 := Lib.hid (S_W16.out.up hb)
        have WD_W17 := Lib.hid (WD_W16.out.trans (hb.mono WD_W16.out.size))
        have GR_W17 := Lib.hid (GR_W16.out.up hb)
        have BZ_W17 := Lib.hid (BZ_W16.out.up hb)
        have RA_W17 := Lib.hid (Reads.up RA_W16.out hb)
        have RB_W17 := Lib.hid (Reads.up RB_W16.out hb)
        clear S_W16 WD_W16 GR_W16 BZ_W16 RA_W16 RB_W16
        have R1_W17 := Lib.hid r1
        have R2_W17 := Lib.hid r2
        have LN_W17 := Lib.hid (And.intro r3 r4)
        clear hb r1 r2
        go_wp2_with fail
        refine hK.out _ _ (HM_wd.out _ WD_W17.out) (fun _ => ?_)
        clear hK K
        try simp only [Act.put, List.setIfInBounds_toArray, List.set_cons_zero, List.set_cons_succ]
        clear r3 r4
        refine wpAnyH_take (i := 9) (v := ?_) (oper_at (r := _) rfl) (by kernel_rfl) (by kernel_rfl) (by kernel_rfl) (fun _ _ _ h => h) (Or.inl ⟨by rfl, ?_⟩) (by assumption) ?_
        rotate_left
        · intro w hSw; try dsimp only at hSw
          go_simp
          try with_reducible rfl
        try simp only [Act.put, List.setIfInBounds_toArray, List.set_cons_zero, List.set_cons_succ]
        refine wpAnyH_take (i := 10) (v := ?_) (oper_at (r := _) rfl) (by kernel_rfl) (by kernel_rfl) (by kernel_rfl) (fun _ _ _ h => h) (Or.inl ⟨by rfl, ?_⟩) (by assumption) ?_
        rotate_left
        · intro w hSw; try dsimp only at hSw
          go_simp
          try with_reducible rfl
        try simp only [Act.put, List.setIfInBounds_toArray, List.set_cons_zero, List.set_cons_succ]
        refine wpAnyH_take (i := 11) (v := ?_) (oper_at (r := _) rfl) (by kernel_rfl) (by kernel_rfl) (by kernel_rfl) (fun _ _ _ h => h) (Or.inl ⟨by rfl, ?_⟩) (by assumption) ?_
        rotate_left
        · intro w hSw; try dsimp only at hSw
          go_simp
          try with_reducible rfl
        try simp only [Act.put, List.setIfInBounds_toArray, List.set_cons_zero, List.set_cons_succ]
        refine wpAnyH_ready (rs := [13]) (by kernel_rfl) (by simp) ?_
        refine AllReadyH.cons (oper_at (r := _) rfl) (fun K hK => ?_) AllReadyH.nil
        have fr0 := BZ_W17.out.free 0
        have fr1 := BZ_W17.out.free 1
        obtain ⟨e0, e1⟩ := BZ_W17.out.cells
        go_simp
        clear fr0 fr1 e0 e1
        have S_W18 := Lib.hid (S_W17.out.set (g := gx) (by simp; omega) ((.slice X3 R.ns.length x3)) ((.slice Y3 R.es.length y3)))
        have WD_W18 := Lib.hid ((WD_W17.out.setCell (p := ⟨gx, 0, none⟩) (by show wd.heap.size ≤ gx; omega) ((.slice X3 R.ns.length x3))).setCell (p := ⟨gx, 1, none⟩) (by show wd.heap.size ≤ gx; omega) ((.slice Y3 R.es.length y3)))
        have BZ_W18 := Lib.hid (BZ_W17.out.put ((.slice X3 R.ns.length x3)) ((.slice Y3 R.es.length y3)))
        have R1_W18 := Lib.hid (ints_set' R1_W17.out BZ_W17.out ((.slice X3 R.ns.length x3)) ((.slice Y3 R.es.length y3)))
        have R2_W18 := Lib.hid (ints_set' R2_W17.out BZ_W17.out ((.slice X3 R.ns.length x3)) ((.slice Y3 R.es.length y3)))
        have LN_W18 := Lib.hid (LN_W17.out)
        clear S_W17 WD_W17 BZ_W17 R1_W17 R2_W17 LN_W17
        refine hK.out _ _ (HM_wd.out _ WD_W18.out) (fun _ => ?_)
        clear hK K
        try simp only [Act.put, List.setIfInBounds_toArray, List.set_cons_zero, List.set_cons_succ]
        generalize (W17.setCell ⟨gx, 0, none⟩ ((.slice X3 R.ns.length x3))).setCell ⟨gx, 1, none⟩ ((.slice Y3 R.es.length y3)) = W18 at *
        refine wpAnyH_take (i := 14) (v := ?_) (oper_at (r := _) rfl) (by kernel_rfl) (by kernel_rfl) (by kernel_rfl) (fun _ _ _ h => h) (Or.inl ⟨by rfl, ?_⟩) (by assumption) ?_
        rotate_left
        · intro w hSw; try dsimp only at hSw
          go_simp
          try with_reducible rfl
        try simp only [Act.put, List.setIfInBounds_toArray, List.set_cons_zero, List.set_cons_succ]
        refine wpAnyH_done (by kernel_rfl) ?_ _
        refine NoPanic.normal ?_
        go_wp2_with fail
        go_meet
        exact ⟨gx, X3, x3, Y3, y3, rfl, rfl, BZ_W18.out, R1_W18.out, R2_W18.out, LN_W18.out, S_W18.out⟩
    · skip
      obtain ⟨gx, hg⟩ : ∃ g, g = wd.heap.size := ⟨_, rfl⟩
      have lgx : wd.heap.size ≤ gx := by rw [hg]; exact WD_wd.out.size
      have hx : BX gx (.slice none 0 0) (.slice none 0 0) 27 (wd.alloc (.cells #[.slice none 0 0, .slice none 0 0] 27)) := by rw [hg]; exact heap_alloc_new _ _
      have hb : Below wd.heap.size wd (wd.alloc (.cells #[.slice none 0 0, .slice none 0 0] 27)) := (Below.refl _ _).alloc (Nat.le_refl _) _
      have S_W19 := Lib.hid (S_wd.out.up hb)
      have WD_W19 := Lib.hid (WD_wd.out.trans (hb.mono WD_wd.out.size))
      clear S_wd WD_wd
      have BZ_W19 := Lib.hid hx
      clear hx hb
      go_simp
      refine hK.out _ _ (HM_wd.out _ WD_W19.out) (fun _ => ?_)
      clear hK K
      try simp only [Act.put, List.setIfInBounds_toArray, List.set_cons_zero, List.set_cons_succ]
      generalize wd.alloc (.cells #[.slice none 0 0, .slice none 0 0] 27) = W19 at *
      try rw [← hg]
      clear hg
      refine wpAnyH_ready (rs := [1]) (by kernel_rfl) (by simp) ?_
      refine AllReadyH.cons (oper_at (r := _) rfl) (fun K hK => ?_) AllReadyH.nil
      go_simp
      refine (HCP9.out _ S_W19.out.1).mono ?_
      rintro e W20 ⟨⟨G1, k1, G2, k2, rfl, r1⟩, hb⟩
      have S_W20 := Lib.hid (S_W19.out.up hb)
      have WD_W20 := Lib.hid (WD_W19.out.trans (hb.mono WD_W19.out.size))
      have BZ_W20 := Lib.hid (BZ_W19.out.up hb)
      clear S_W19 WD_W19 BZ_W19
      have GR_W20 := Lib.hid r1
      clear hb r1
      go_wp2_with fail
      refine hK.out _ _ (HM_wd.out _ WD_W20.out) (fun _ => ?_)
      clear hK K
      try simp only [Act.put, List.setIfInBounds_toArray, List.set_cons_zero, List.set_cons_succ]
      refine wpAnyH_ready (rs := [4]) (by kernel_rfl) (by simp) ?_
      refine AllReadyH.cons (oper_at (r := _) rfl) (fun K hK => ?_) AllReadyH.nil
      go_simp
      refine (HK19.out _ S_W20.out.1).mono ?_
      rintro e W21 ⟨⟨K1, k3, rfl, r1⟩, hb⟩
      have S_W21 := Lib.hid (S_W20.out.up hb)
      have WD_W21 := Lib.hid (WD_W20.out.trans (hb.mono WD_W20.out.size))
      have BZ_W21 := Lib.hid (BZ_W20.out.up hb)
      have GR_W21 := Lib.hid (GR_W20.out.up hb)
      clear S_W20 WD_W20 BZ_W20 GR_W20
      have RA_W21 := Lib.hid r1
      clear hb r1
      go_wp2_with fail
      refine hK.out _ _ (HM_wd.out _ WD_W21.out) (fun _ => ?_)
      clear hK K
      try simp only [Act.put, List.setIfInBounds_toArray, List.set_cons_zero, List.set_cons_succ]
      refine wpAnyH_ready (rs := [7]) (by kernel_rfl) (by simp) ?_
      refine AllReadyH.cons (oper_at (r := _) rfl) (fun K hK => ?_) AllReadyH.nil
      go_simp
      refine (HK29.out _ S_W21.out.1).mono ?_
      rintro e W22 ⟨⟨K2, k4, rfl, r1⟩, hb⟩
      have S_W22 := Lib.hid (S_W21.out.up hb)
      have WD_W22 := Lib.hid (WD_W21.out.trans (hb.mono WD_W21.out.size))
      have BZ_W22 := Lib.hid (BZ_W21.out.up hb)
      have GR_W22 := Lib.hid (GR_W21.out.up hb)
      have RA_W22 := Lib.hid (Reads.up RA_W21.out hb)
      clear S_W21 WD_W21 BZ_W21 GR_W21 RA_W21
      have RB_W22 := Lib.hid r1
      clear hb r1
      go_wp2_with fail
      refine hK.out _ _ (HM_wd.out _ WD_W22.out) (fun _ => ?_)
      clear hK K
      try simp only [Act.put, List.setIfInBounds_toArray, List.set_cons_zero, List.set_cons_succ]
      refine wpAnyH_ready (rs := [8]) (by kernel_rfl) (by simp) ?_
      refine AllReadyH.cons (oper_at (r := _) rfl) (fun K hK => ?_) AllReadyH.nil
      go_simp
      refine (HC19.out G1 k1 G2 k2 K1 k3 K2 k4 _ GR_W22.out RA_W22.out RB_W22.out).mono ?_
      rintro e W23 ⟨⟨X3, x3, Y3, y3, rfl, r1, r2, r3, r4⟩, hb⟩
      have S_W23 := Lib.hid (S_W22.out.up hb)
      have WD_W23 := Lib.hid (WD_W22.out.trans (hb.mono WD_W22.out.size))
      have BZ_W23 := Lib.hid (BZ_W22.out.up hb)
      have GR_W23 := Lib.hid (GR_W22.out.up hb)
      have RA_W23 := Lib.hid (Reads.up RA_W22.out hb)
      have RB_W23 := Lib.hid (Reads.up RB_W22.out hb)
      clear S_W22 WD_W22 BZ_W22 GR_W22 RA_W22 RB_W22
      have R1_W23 := Lib.hid r1
      have R2_W23 := Lib.hid r2
      have LN_W23 := Lib.hid (And.intro r3 r4)
      clear hb r1 r2
      go_wp2_with fail
      refine hK.out _ _ (HM_wd.out _ WD_W23.out) (fun _ => ?_)
      clear hK K
      try simp only [Act.put, List.setIfInBounds_toArray, List.set_cons_zero, List.set_cons_succ]
      clear r3 r4
      refine wpAnyH_take (i := 9) (v := ?_) (oper_at (r := _) rfl) (by kernel_rfl) (by kernel_rfl) (by kernel_rfl) (fun _ _ _ h => h) (Or.inl ⟨by rfl, ?_⟩) (by assumption) ?_
      rotate_left
      · intro w hSw; try dsimp only at hSw
        go_simp
        try with_reducible rfl
      try simp only [Act.put, List.setIfInBounds_toArray, List.set_cons_zero, List.set_cons_succ]
      refine wpAnyH_take (i := 10) (v := ?_) (oper_at (r := _) rfl) (by kernel_rfl) (by kernel_rfl) (by kernel_rfl) (fun _ _ _ h => h) (Or.inl ⟨by rfl, ?_⟩) (by assumption) ?_
      rotate_left
      · intro w hSw; try dsimp only at hSw
        go_simp
        try with_reducible rfl
      try simp only [Act.put, List.setIfInBounds_toArray, List.set_cons_zero, List.set_cons_succ]
      refine wpAnyH_take (i := 11) (v := ?_) (oper_at (r := _) rfl) (by kernel_rfl) (by kernel_rfl) (by kernel_rfl) (fun _ _ _ h => h) (Or.inl ⟨by rfl, ?_⟩) (by assumption) ?_
      rotate_left
      · intro w hSw; try dsimp only at hSw
        go_simp
        try with_reducible rfl
      try simp only [Act.put, List.setIfInBounds_toArray, List.set_cons_zero, List.set_cons_succ]
      refine wpAnyH_ready (rs := [13]) (by kernel_rfl) (by simp) ?_
      refine AllReadyH.cons (oper_at (r := _) rfl) (fun K hK => ?_) AllReadyH.nil
      have fr0 := BZ_W23.out.free 0
      have fr1 := BZ_W23.out.free 1
      obtain ⟨e0, e1⟩ := BZ_W23.out.cells
      go_simp
      clear fr0 fr1 e0 e1
      have S_W24 := Lib.hid (S_W23.out.set (g := gx) (by simp; omega) ((.slice X3 R.ns.length x3)) ((.slice Y3 R.es.length y3)))
      have WD_W24 := Lib.hid ((WD_W23.out.setCell (p := ⟨gx, 0, none⟩) (by show wd.heap.size ≤ gx; omega) ((.slice X3 R.ns.length x3))).setCell (p := ⟨gx, 1, none⟩) (by show wd.heap.size ≤ gx; omega) ((.slice Y3 R.es.length y3)))
      have BZ_W24 := Lib.hid (BZ_W23.out.put ((.slice X3 R.ns.length x3)) ((.slice Y3 R.es.length y3)))
      have R1_W24 := Lib.hid (ints_set' R1_W23.out BZ_W23.out ((.slice X3 R.ns.length x3)) ((.slice Y3 R.es.length y3)))
      have R2_W24 := Lib.hid (ints_set' R2_W23.out BZ_W23.out ((.slice X3 R.ns.length x3)) ((.slice Y3 R.es.length y3)))
      have LN_W24 := Lib.hid (LN_W23.out)
      clear S_W23 WD_W23 BZ_W23 R1_W23 R2_W23 LN_W23
      refine hK.out _ _ (HM_wd.out _ WD_W24.out) (fun _ => ?_)
      clear hK K
      try simp only [Act.put, List.setIfInBounds_toArray, List.set_cons_zero, List.set_cons_succ]
      generalize (W23.setCell ⟨gx, 0, none⟩ ((.slice X3 R.ns.length x3))).setCell ⟨gx, 1, none⟩ ((.slice Y3 R.es.length y3)) = W24 at *
      refine wpAnyH_take (i := 14) (v := ?_) (oper_at (r := _) rfl) (by kernel_rfl) (by kernel_rfl) (by kernel_rfl) (fun _ _ _ h => h) (Or.inl ⟨by rfl, ?_⟩) (by assumption) ?_
      rotate_left
      · intro w hSw; try dsimp only at hSw
        go_simp
        try with_reducible rfl
      try simp only [Act.put, List.setIfInBounds_toArray, List.set_cons_zero, List.set_cons_succ]
      refine wpAnyH_done (by kernel_rfl) ?_ _
      refine NoPanic.normal ?_
      go_wp2_with fail
      go_meet
      exact ⟨gx, X3, x3, Y3, y3, rfl, rfl, BZ_W24.out, R1_W24.out, R2_W24.out, LN_W24.out, S_W24.out⟩
  case rest =>
    obtain ⟨g1, X1, x1, Y1, y1, rfl, rfl, hbx, r1, r2, hl, hS⟩ := hcut
    have B1_wc := Lib.hid hbx
    have R11_wc := Lib.hid r1
    have R21_wc := Lib.hid r2
    have HL1 := Lib.hid hl
    have HS3 := Lib.hid hS
    clear hbx r1 r2 hl hS HS2
    have c0 := HS3.out.cell (i := 0) (j := 0) rfl rfl
    have c1 := HS3.out.cell (i := 0) (j := 1) rfl rfl
    have d0 := HS3.out.cell (i := 1) (j := 0) rfl rfl
    have d1 := HS3.out.cell (i := 1) (j := 1) rfl rfl
    simp only [Nat.add_zero] at c0 c1
    go_wp2_with fail
    refine (HC29.out _ HS3.out.1).mono ?_
    rintro e v2 ⟨⟨X2, x2, Y2, y2, rfl, r1, r2, r3, r4⟩, hb⟩
    have S_v2 := Lib.hid (HS3.out.up hb)
    have B1_v2 := Lib.hid (B1_wc.out.up hb)
    have R11_v2 := Lib.hid (Reads.up R11_wc.out hb)
    have R21_v2 := Lib.hid (Reads.up R21_wc.out hb)
    clear HS3 B1_wc R11_wc R21_wc
    have R1_v2 := Lib.hid r1
    have R2_v2 := Lib.hid r2
    have HL := Lib.hid (And.intro r3 r4)
    clear r1 r2 r3 r4 hb c0 c1 d0 d1
    go_upto_region 5 with fail
    have hb : Below v2.heap.size v2 (v2.alloc (.cells #[.slice X2 R.ns.length x2, .slice Y2 R.es.length y2] 27)) := (Below.refl _ _).alloc (Nat.le_refl _) _
    have hx : BX v2.heap.size (.slice X2 R.ns.length x2) (.slice Y2 R.es.length y2) 27 (v2.alloc (.cells #[.slice X2 R.ns.length x2, .slice Y2 R.es.length y2] 27)) := heap_alloc_new _ _
    have S_V2 := Lib.hid (S_v2.out.up hb)
    have B1_V2 := Lib.hid (B1_v2.out.up hb)
    have R11_V2 := Lib.hid (Reads.up R11_v2.out hb)
    have R21_V2 := Lib.hid (Reads.up R21_v2.out hb)
    have R12_V2 := Lib.hid (Reads.up R1_v2.out hb)
    have R22_V2 := Lib.hid (Reads.up R2_v2.out hb)
    clear S_v2 B1_v2 R11_v2 R21_v2 R1_v2 R2_v2
    have B2_V2 := Lib.hid hx
    clear hb hx
    generalize v2.alloc (.cells #[.slice X2 R.ns.length x2, .slice Y2 R.es.length y2] 27) = V2 at *
    generalize v2.heap.size = g2 at *
    obtain ⟨m10, m11⟩ := B1_V2.out.cells
    obtain ⟨m20, m21⟩ := B2_V2.out.cells
    go_wp2_with fail
    refine (same7_refl R X1 x1 Y1 y1 X2 x2 Y2 y2 _ HL1.out R11_V2.out R21_V2.out R12_V2.out R22_V2.out).mono ?_
    rintro e w4 ⟨rfl, hb⟩
    have S_w4 := Lib.hid (S_V2.out.up hb)
    have B1_w4 := Lib.hid (B1_V2.out.up hb)
    have R11_w4 := Lib.hid (Reads.up R11_V2.out hb)
    have R21_w4 := Lib.hid (Reads.up R21_V2.out hb)
    have R12_w4 := Lib.hid (Reads.up R12_V2.out hb)
    have R22_w4 := Lib.hid (Reads.up R22_V2.out hb)
    have B2_w4 := Lib.hid (B2_V2.out.up hb)
    clear S_V2 B1_V2 R11_V2 R21_V2 R12_V2 R22_V2 B2_V2
    clear hb m10 m11 m20 m21
    by_cases hE : E = 0
    case neg =>
      have t1 : ((E : Int) != 0) = true := by simp; omega
      clear hE
      obtain ⟨m10, m11⟩ := B1_w4.out.cells
      obtain ⟨m20, m21⟩ := B2_w4.out.cells
      go_wp2_with fail
      refine (same7_refl R X1 x1 Y1 y1 X2 x2 Y2 y2 _ HL1.out R11_w4.out R21_w4.out R12_w4.out R22_w4.out).mono ?_
      rintro e w5 ⟨rfl, hb⟩
      have HBZ := Lib.hid (S_w4.out.1.trans (hb.mono S_w4.out.1.size))
      clear hb m10 m11 m20 m21
      go_wp2_with fail
      go_ret
      exact ⟨rfl, HBZ.out⟩
    have hV := HCV.out hE
    have HMD9 := Lib.hid (HMD.out hV)
    have HML9 := Lib.hid (HML.out hV)
    have HCL9 := Lib.hid (HCL.out hE)
    have HCI9 := Lib.hid (HCI.out hE)
    have t1 : ((E : Int) != 0) = false := by simp; omega
    clear hE hV HMD HML HCL HCI HCV
    have c0 := S_w4.out.cell (i := 0) (j := 0) rfl rfl
    have c1 := S_w4.out.cell (i := 0) (j := 1) rfl rfl
    have d0 := S_w4.out.cell (i := 1) (j := 0) rfl rfl
    have d1 := S_w4.out.cell (i := 1) (j := 1) rfl rfl
    simp only [Nat.add_zero] at c0 c1
    obtain ⟨m10, m11⟩ := B1_w4.out.cells
    obtain ⟨m20, m21⟩ := B2_w4.out.cells
    go_wp2_with fail
    refine (HMD9.out _ S_w4.out.1).mono ?_
    rintro e w5 ⟨⟨v, rfl, X5, x5, Y5, y5, rfl, hm⟩, hb⟩
    have S_w5 := Lib.hid (S_w4.out.up hb)
    have B1_w5 := Lib.hid (B1_w4.out.up hb)
    have R11_w5 := Lib.hid (Reads.up R11_w4.out hb)
    have R21_w5 := Lib.hid (Reads.up R21_w4.out hb)
    have R12_w5 := Lib.hid (Reads.up R12_w4.out hb)
    have R22_w5 := Lib.hid (Reads.up R22_w4.out hb)
    have B2_w5 := Lib.hid (B2_w4.out.up hb)
    clear S_w4 B1_w4 R11_w4 R21_w4 R12_w4 R22_w4 B2_w4
    have RT1_w5 := Lib.hid hm.ns
    have RT2_w5 := Lib.hid hm.es
    clear hb hm c0 c1 d0 d1 m10 m11 m20 m21 t1
    go_upto_region 8 with fail
    have hb : Below w5.heap.size w5 (w5.alloc (.cells #[.slice X5 T.ns.length x5, .slice Y5 T.es.length y5] 27)) := (Below.refl _ _).alloc (Nat.le_refl _) _
    have B5_W5 : Hid (BX w5.heap.size (.slice X5 T.ns.length x5) (.slice Y5 T.es.length y5) 27 (w5.alloc (.cells #[.slice X5 T.ns.length x5, .slice Y5 T.es.length y5] 27))) := Lib.hid (heap_alloc_new _ _)
    have S_W5 := Lib.hid (S_w5.out.up hb)
    have B1_W5 := Lib.hid (B1_w5.out.up hb)
    have R11_W5 := Lib.hid (Reads.up R11_w5.out hb)
    have R21_W5 := Lib.hid (Reads.up R21_w5.out hb)
    have R12_W5 := Lib.hid (Reads.up R12_w5.out hb)
    have R22_W5 := Lib.hid (Reads.up R22_w5.out hb)
    have B2_W5 := Lib.hid (B2_w5.out.up hb)
    have RT1_W5 := Lib.hid (Reads.up RT1_w5.out hb)
    have RT2_W5 := Lib.hid (Reads.up RT2_w5.out hb)
    clear S_w5 B1_w5 R11_w5 R21_w5 R12_w5 R22_w5 B2_w5 RT1_w5 RT2_w5
    clear hb
    generalize w5.alloc (.cells #[.slice X5 T.ns.length x5, .slice Y5 T.es.length y5] 27) = W5 at *
    generalize w5.heap.size = g5 at *
    have c0 := S_W5.out.cell (i := 0) (j := 0) rfl rfl
    have c1 := S_W5.out.cell (i := 0) (j := 1) rfl rfl
    have d0 := S_W5.out.cell (i := 1) (j := 0) rfl rfl
    have d1 := S_W5.out.cell (i := 1) (j := 1) rfl rfl
    simp only [Nat.add_zero] at c0 c1
    obtain ⟨m10, m11⟩ := B1_W5.out.cells
    obtain ⟨m50, m51⟩ := B5_W5.out.cells
    go_wp2_with fail
    refine (in7_any m T En en Ee ee X5 x5 Y5 y5 _ (HPE9.out _ S_W5.out.1) ⟨RT1_W5.out, RT2_W5.out, HML9.out.1, HML9.out.2⟩).mono ?_
    rintro e w6 ⟨rfl, hb⟩
    have S_w6 := Lib.hid (S_W5.out.up hb)
    have B1_w6 := Lib.hid (B1_W5.out.up hb)
    have R11_w6 := Lib.hid (Reads.up R11_W5.out hb)
    have R21_w6 := Lib.hid (Reads.up R21_W5.out hb)
    have R12_w6 := Lib.hid (Reads.up R12_W5.out hb)
    have R22_w6 := Lib.hid (Reads.up R22_W5.out hb)
    have B2_w6 := Lib.hid (B2_W5.out.up hb)
    have RT1_w6 := Lib.hid (Reads.up RT1_W5.out hb)
    have RT2_w6 := Lib.hid (Reads.up RT2_W5.out hb)
    have B5_w6 := Lib.hid (B5_W5.out.up hb)
    clear S_W5 B1_W5 R11_W5 R21_W5 R12_W5 R22_W5 B2_W5 RT1_W5 RT2_W5 B5_W5
    clear hb c0 c1 d0 d1 m10 m11 m50 m51
    cases hz : inP m T
    case false =>
      clear hz
      go_wp2_with fail
      go_ret
      exact ⟨rfl, S_w6.out.1⟩
    case true =>
      have HIN := Lib.hid (HCI9.out hz)
      clear hz
      obtain ⟨m10, m11⟩ := B1_w6.out.cells
      obtain ⟨m50, m51⟩ := B5_w6.out.cells
      have HQI := Lib.hid (in7_any R T X1 x1 Y1 y1 X5 x5 Y5 y5 w6 ⟨R11_w6.out, R21_w6.out, HCL9.out.1, HCL9.out.2⟩ ⟨RT1_w6.out, RT2_w6.out, HML9.out.1, HML9.out.2⟩)
      rw [HIN.out] at HQI
      go_wp2_with fail
      refine HQI.out.mono ?_
      rintro e w7 ⟨rfl, hb⟩
      have HBZ := Lib.hid (S_w6.out.1.trans (hb.mono S_w6.out.1.size))
      clear hb m10 m11 m50 m51
      go_wp2_with fail
      go_ret
      exact ⟨rfl, HBZ.out⟩

end Go.Proofs.YthnhacncnhknnaaDoor
