import Derived.Test.YtaeelanbkdkppaaDoorZ15
import Derived.Test.YtaeelanbkdkppaaDoorChecked
import Derived.Test.YtaeelanbkdkppaaDoorRows
import Derived.Test.YtaeelanbkdkppaaDoorTie
import Derived.Test.YtaeelanbkdkppaaDoorCards
import Derived.SizedLaws
/-
  MorphismInverse. Printed by mkl6.py.
-/
namespace Go.Proofs.YtaeelanbkdkppaaDoor
open Go.RowKit Go.Shelf

theorem inv_lens {a b : Gr} {m : Mo} (h : invE a b m = 0) : (a.ns.length ≤ 1000 ∧ a.es.length ≤ 1000) ∧ b.ns.length ≤ 1000 ∧ b.es.length ≤ 1000 := by
  have hi := iso_of h
  obtain ⟨v1, v2, _⟩ := valid_zero hi.ok.va
  obtain ⟨v3, v4, _⟩ := valid_zero hi.ok.vb
  exact ⟨⟨by omega, by omega⟩, by omega, by omega⟩
theorem inv_comp_facts {a b : Gr} {m : Mo} (h : invE a b m = 0) : (invR a b m).ns.length ≤ 1000 ∧ (invR a b m).es.length ≤ 1000 ∧ cmpE a b a m (invR a b m) = 0 ∧ cmpR a b a m (invR a b m) = idM a ∧ cmpE b a b (invR a b m) m = 0 ∧ cmpR b a b (invR a b m) m = idM b := by
  have hi := iso_of h
  have hr : invR a b m = invM b m := by unfold invR; rw [if_pos h]
  have hk := inv_ok hi
  rw [hr]
  have hl := (inv_lens h).2
  have z1 := mor_zero.2 hi.ok
  have z2 := mor_zero.2 hk
  have e1 : cmpE a b a m (invM b m) = 0 := by unfold cmpE; rw [if_neg (fun k => k z1)]; exact z2
  have e2 : cmpE b a b (invM b m) m = 0 := by unfold cmpE; rw [if_neg (fun k => k z2)]; exact z1
  exact ⟨by rw [hk.ln]; exact hl.1, by rw [hk.le]; exact hl.2, e1, by unfold cmpR; rw [if_pos e1]; exact inv_first hi, e2, by unfold cmpR; rw [if_pos e2]; exact inv_second hi⟩

set_option maxRecDepth 100000 in
set_option maxHeartbeats 4000000 in
theorem lawInverse (a : Gr) (An : Option Addr) (cn : Nat) (Ae : Option Addr) (ce : Nat) (x : Ar) (w : World) (h00 : 0 < w.heap.size) (hT : TabW w) (hTa : GrAt w An cn Ae ce a) (hx : ArAt w x) :
    Calls Tryd.prog 6 #[gval An a.ns.length cn Ae a.es.length ce, x.val] w fun e w' => e = .returned (.bool true) ∧ Below w.heap.size w w' := by
  have HAW := Lib.hid (awk h00 hT)
  have HFW := Lib.hid (fun (u : World) (hu : Below w.heap.size w u) k c (hB : ArsAt u k [x]) => fewL_any a [x] An cn Ae ce k c u (by simp) (hTa.up hu) (fun y hy => by rw [List.mem_singleton.1 hy]; exact hx.up hu) hB)
  have HQ : Hid (∀ h : ([x].all fewA && fewB a) = true, x.m.ns.length ≤ 1000 ∧ x.m.es.length ≤ 1000) := Lib.hid fun h => fewA_len (by simp at h; exact h.1)
  generalize ([x].all fewA && fewB a) = Q at *
  have HARS := Lib.hid (fun (W : World) => ars_one W x 29)
  obtain ⟨b, m, Bn, dn, Be, de, Mn, mn, Me, me⟩ := x
  obtain ⟨hTb, hm1, hm2, -, -⟩ := hx
  dsimp only [Ar.val] at *
  have HIM := Lib.hid (fun (l1 : m.ns.length ≤ 1000) (l2 : m.es.length ≤ 1000) (u : World) (hu : Below w.heap.size w u) Xn xn Xe xe (r1 : Ints u u.heap.size Xn m.ns) (r2 : Ints u u.heap.size Xe m.es) => givesM (inverseM_any a b m An cn Ae ce Bn dn Be de Xn xn Xe xe u (hTa.up hu) (hTb.up hu) r1 r2 l1 l2))
  have HIR := Lib.hid (fun (l1 : m.ns.length ≤ 1000) (l2 : m.es.length ≤ 1000) (u : World) (hu : Below w.heap.size w u) => givesM (inverseR_any a b m An cn Ae ce Bn dn Be de Mn mn Me me u (hTa.up hu) (hTb.up hu) (Reads.up hm1 hu) (Reads.up hm2 hu) l1 l2))
  have HCP := Lib.hid (fun (l1 : m.ns.length ≤ 1000) (l2 : m.es.length ≤ 1000) (u : World) (hu : Below w.heap.size w u) => copied2 m Mn mn Me me u (Reads.up hm1 hu) (Reads.up hm2 hu) l1 l2)
  have HC1 := Lib.hid (fun (l1 : m.ns.length ≤ 1000) (l2 : m.es.length ≤ 1000) (hz : invE a b m = 0) (u : World) (hu : Below w.heap.size w u) Xn xn Xe xe (r1 : Ints u u.heap.size Xn (invR a b m).ns) (r2 : Ints u u.heap.size Xe (invR a b m).es) => by
    have hi := iso_of hz
    obtain ⟨q1, q2, q3, q4, q5, q6⟩ := inv_comp_facts hz
    have h := composeM_any a b a m (invR a b m) An cn Ae ce Bn dn Be de An cn Ae ce Mn mn Me me Xn xn Xe xe u (hTa.up hu) (hTb.up hu) (hTa.up hu) (Reads.up hm1 hu) (Reads.up hm2 hu) l1 l2 r1 r2 q1 q2
    rw [q3, q4] at h
    exact givesM h)
  have HC2 := Lib.hid (fun (l1 : m.ns.length ≤ 1000) (l2 : m.es.length ≤ 1000) (hz : invE a b m = 0) (u : World) (hu : Below w.heap.size w u) Xn xn Xe xe (r1 : Ints u u.heap.size Xn (invR a b m).ns) (r2 : Ints u u.heap.size Xe (invR a b m).es) => by
    have hi := iso_of hz
    obtain ⟨q1, q2, q3, q4, q5, q6⟩ := inv_comp_facts hz
    have h := composeM_any b a b (invR a b m) m Bn dn Be de An cn Ae ce Bn dn Be de Xn xn Xe xe Mn mn Me me u (hTb.up hu) (hTa.up hu) (hTb.up hu) r1 r2 q1 q2 (Reads.up hm1 hu) (Reads.up hm2 hu) l1 l2
    rw [q5, q6] at h
    exact givesM h)
  have HO1 := Lib.hid (fun (hz : invE a b m = 0) u => of2 a An cn Ae ce u (inv_lens hz).1.1 (inv_lens hz).1.2)
  have HO2 := Lib.hid (fun (hz : invE a b m = 0) u => of2 b Bn dn Be de u (inv_lens hz).2.1 (inv_lens hz).2.2)
  have HS0 : Hid (SV w [([.slice An a.ns.length cn, .slice Ae a.es.length ce], 25), ([.slice Bn b.ns.length dn, .slice Be b.es.length de, .slice Mn m.ns.length mn, .slice Me m.es.length me], 29)] _) := Lib.hid (SV.push (SV.push (SV.nil w) rfl [.slice An a.ns.length cn, .slice Ae a.es.length ce] 25) (by simp) [.slice Bn b.ns.length dn, .slice Be b.es.length de, .slice Mn m.ns.length mn, .slice Me m.es.length me] 29)
  clear hT h00 hTa hTb hm1 hm2
  generalize invR a b m = R at *
  generalize invE a b m = E at *
  generalize idM a = IA at *
  generalize idM b = IB at *
  go_enter Tryd.func6, Tryd.ntmps6
  go_wp2_with fail
  refine (HAW.out _ HS0.out.1).mono ?_
  rintro e w1 ⟨rfl, hb1⟩
  have HS1 := Lib.hid (HS0.out.up hb1)
  clear hb1 HS0
  have c0 := HS1.out.cell (i := 0) (j := 0) rfl rfl
  have c1 := HS1.out.cell (i := 0) (j := 1) rfl rfl
  simp only [Nat.add_zero] at c0 c1
  have d0 := HS1.out.cell (i := 1) (j := 0) rfl rfl
  have d1 := HS1.out.cell (i := 1) (j := 1) rfl rfl
  have d2 := HS1.out.cell (i := 1) (j := 2) rfl rfl
  have d3 := HS1.out.cell (i := 1) (j := 3) rfl rfl
  go_wp2_with fail
  have hb0 : Below w1.heap.size w1 (w1.alloc (.cells #[.slice Bn b.ns.length dn, .slice Be b.es.length de, .slice Mn m.ns.length mn, .slice Me m.es.length me] 29)) := (Below.refl _ _).alloc (Nat.le_refl _) _
  refine (HFW.out _ (HS1.out.1.trans (hb0.mono HS1.out.1.size)) _ 1 (HARS.out w1)).mono ?_
  rintro e w2 ⟨rfl, hb2⟩
  have HS2 := Lib.hid (HS1.out.up (hb0.trans (hb2.mono hb0.size)))
  clear hb0 hb2 HS1 c0 c1 d0 d1 d2 d3
  cases hQ : Q
  · clear hQ
    go_wp2_with fail
    refine (HAW.out _ HS2.out.1).mono ?_
    rintro e w3 ⟨rfl, hb3⟩
    go_wp2_with fail
    go_ret
    exact ⟨rfl, HS2.out.1.trans (hb3.mono HS2.out.1.size)⟩
  obtain ⟨l1, l2⟩ := HQ.out hQ
  have HIM := Lib.hid (HIM.out l1 l2)
  have HIR := Lib.hid (HIR.out l1 l2)
  have HCP := Lib.hid (HCP.out l1 l2)
  have HD1 := Lib.hid (HC1.out l1 l2)
  have HD2 := Lib.hid (HC2.out l1 l2)
  clear HC1 HC2 hQ HQ l1 l2 HAW HFW HARS
  go_upto_region 3 with fail
  go_cut [5, 6] (fun u v wc => ∃ gx Xn xn Xe xe, u = .pointer (some ⟨gx, 0, none⟩) ∧ v = .int .i64 (E : Nat) ∧ BX gx (.slice Xn R.ns.length xn) (.slice Xe R.es.length xe) 27 wc ∧ Ints wc wc.heap.size Xn R.ns ∧ Ints wc wc.heap.size Xe R.es ∧ R2 R ∧ SV w [([.slice An a.ns.length cn, .slice Ae a.es.length ce], 25), ([.slice Bn b.ns.length dn, .slice Be b.es.length de, .slice Mn m.ns.length mn, .slice Me m.es.length me], 29)] wc)
  case first =>
    go_wp2_with fail
    have SV_wd := Lib.hid (HS2.out.up (below_d w2))
    clear HS2
    have q0 : w2.drew.cell? ⟨w.heap.size, 0, none⟩ = some (.slice An a.ns.length cn) := SV_wd.out.cell (i := 0) (j := 0) rfl rfl
    have q1 : w2.drew.cell? ⟨w.heap.size, 1, none⟩ = some (.slice Ae a.es.length ce) := SV_wd.out.cell (i := 0) (j := 1) rfl rfl
    have q2 : w2.drew.cell? ⟨w.heap.size + 1, 0, none⟩ = some (.slice Bn b.ns.length dn) := SV_wd.out.cell (i := 1) (j := 0) rfl rfl
    have q3 : w2.drew.cell? ⟨w.heap.size + 1, 1, none⟩ = some (.slice Be b.es.length de) := SV_wd.out.cell (i := 1) (j := 1) rfl rfl
    have q4 : w2.drew.cell? ⟨w.heap.size + 1, 2, none⟩ = some (.slice Mn m.ns.length mn) := SV_wd.out.cell (i := 1) (j := 2) rfl rfl
    have q5 : w2.drew.cell? ⟨w.heap.size + 1, 3, none⟩ = some (.slice Me m.es.length me) := SV_wd.out.cell (i := 1) (j := 3) rfl rfl
    have HM_wd : Hid (∀ u, Below w2.drew.heap.size w2.drew u → (fun u : World => u.cell? ⟨w.heap.size, 0, none⟩ = some (.slice An a.ns.length cn) ∧ u.cell? ⟨w.heap.size, 1, none⟩ = some (.slice Ae a.es.length ce) ∧ u.cell? ⟨w.heap.size + 1, 0, none⟩ = some (.slice Bn b.ns.length dn) ∧ u.cell? ⟨w.heap.size + 1, 1, none⟩ = some (.slice Be b.es.length de) ∧ u.cell? ⟨w.heap.size + 1, 2, none⟩ = some (.slice Mn m.ns.length mn) ∧ u.cell? ⟨w.heap.size + 1, 3, none⟩ = some (.slice Me m.es.length me)) u) := Lib.hid fun u hb => ⟨cell_up hb q0, cell_up hb q1, cell_up hb q2, cell_up hb q3, cell_up hb q4, cell_up hb q5⟩
    clear q0 q1 q2 q3 q4 q5
    have WD_wd := Lib.hid (Below.refl w2.drew.heap.size w2.drew)
    refine wp_region_noPanic ?_
    refine wp_region_held_drew (S := (fun u : World => u.cell? ⟨w.heap.size, 0, none⟩ = some (.slice An a.ns.length cn) ∧ u.cell? ⟨w.heap.size, 1, none⟩ = some (.slice Ae a.es.length ce) ∧ u.cell? ⟨w.heap.size + 1, 0, none⟩ = some (.slice Bn b.ns.length dn) ∧ u.cell? ⟨w.heap.size + 1, 1, none⟩ = some (.slice Be b.es.length de) ∧ u.cell? ⟨w.heap.size + 1, 2, none⟩ = some (.slice Mn m.ns.length mn) ∧ u.cell? ⟨w.heap.size + 1, 3, none⟩ = some (.slice Me m.es.length me))) (by kernel_rfl) (HM_wd.out _ WD_wd.out) (fun hHeld => ?_)
    generalize w2.drew = wd at *
    have lsv : w.heap.size + 2 ≤ wd.heap.size := SV_wd.out.2.1
    refine wpAnyH_take (i := 0) (v := ?_) (oper_at (r := _) rfl) (by kernel_rfl) (by kernel_rfl) (by kernel_rfl) (fun _ _ _ h => h) (Or.inl ⟨by rfl, ?_⟩) (by assumption) ?_
    rotate_left
    · intro w hSw; try dsimp only at hSw
      go_simp
      try with_reducible rfl
    try simp only [Act.put, List.setIfInBounds_toArray, List.set_cons_zero, List.set_cons_succ]
    refine wpAnyH_take (i := 1) (v := ?_) (oper_at (r := _) rfl) (by kernel_rfl) (by kernel_rfl) (by kernel_rfl) (fun _ _ _ h => h) (Or.inl ⟨by rfl, ?_⟩) (by assumption) ?_
    rotate_left
    · intro w hSw; try dsimp only at hSw
      go_simp
      try with_reducible rfl
    try simp only [Act.put, List.setIfInBounds_toArray, List.set_cons_zero, List.set_cons_succ]
    refine wpAnyH_take (i := 2) (v := ?_) (oper_at (r := _) rfl) (by kernel_rfl) (by kernel_rfl) (by kernel_rfl) (fun _ _ _ h => h) (Or.inl ⟨by rfl, ?_⟩) (by assumption) ?_
    rotate_left
    · intro w hSw; try dsimp only at hSw
      go_simp
      try with_reducible rfl
    try simp only [Act.put, List.setIfInBounds_toArray, List.set_cons_zero, List.set_cons_succ]
    refine wpAnyH_take (i := 3) (v := ?_) (oper_at (r := _) rfl) (by kernel_rfl) (by kernel_rfl) (by kernel_rfl) (fun _ _ _ h => h) (Or.inl ⟨by rfl, ?_⟩) (by assumption) ?_
    rotate_left
    · intro w hSw; try dsimp only at hSw
      go_simp
      try with_reducible rfl
    try simp only [Act.put, List.setIfInBounds_toArray, List.set_cons_zero, List.set_cons_succ]
    refine wpAnyH_take (i := 4) (v := ?_) (oper_at (r := _) rfl) (by kernel_rfl) (by kernel_rfl) (by kernel_rfl) (fun _ _ _ h => h) (Or.inl ⟨by rfl, ?_⟩) (by assumption) ?_
    rotate_left
    · intro w hSw; try dsimp only at hSw
      go_simp
      try with_reducible rfl
    try simp only [Act.put, List.setIfInBounds_toArray, List.set_cons_zero, List.set_cons_succ]
    refine wpAnyH_ready (rs := [5, 10]) (by kernel_rfl) (by simp) ?_
    refine (AllReadyH.cons (oper_at (r := _) rfl) (fun K hK => ?_) (AllReadyH.cons (oper_at (r := _) rfl) (fun K hK => ?_) AllReadyH.nil))
    · skip
      go_simp
      refine (HCP.out _ SV_wd.out.1).mono ?_
      rintro e W1 ⟨⟨X1, x1, Y1, y1, rfl, r1, r2⟩, hb⟩
      have SV_W1 := Lib.hid (SV_wd.out.up hb)
      have WD_W1 := Lib.hid (WD_wd.out.trans (hb.mono WD_wd.out.size))
      clear SV_wd WD_wd
      have R1_W1 := Lib.hid r1
      have R2_W1 := Lib.hid r2
      clear hb r1 r2
      go_wp2_with fail
      refine hK.out _ _ (HM_wd.out _ WD_W1.out) (fun _ => ?_)
      clear hK K
      try simp only [Act.put, List.setIfInBounds_toArray, List.set_cons_zero, List.set_cons_succ]
      refine wpAnyH_ready (rs := [6, 10]) (by kernel_rfl) (by simp) ?_
      refine (AllReadyH.cons (oper_at (r := _) rfl) (fun K hK => ?_) (AllReadyH.cons (oper_at (r := _) rfl) (fun K hK => ?_) AllReadyH.nil))
      · skip
        go_simp
        refine (HIM.out _ SV_W1.out.1 X1 x1 Y1 y1 R1_W1.out R2_W1.out).mono ?_
        rintro e W2 ⟨⟨X3, x3, Y3, y3, rfl, r1, r2, r3, r4⟩, hb⟩
        have SV_W2 := Lib.hid (SV_W1.out.up hb)
        have WD_W2 := Lib.hid (WD_W1.out.trans (hb.mono WD_W1.out.size))
        have R1_W2 := Lib.hid (Reads.up R1_W1.out hb)
        have R2_W2 := Lib.hid (Reads.up R2_W1.out hb)
        clear SV_W1 WD_W1 R1_W1 R2_W1
        have R5_W2 := Lib.hid r1
        have R6_W2 := Lib.hid r2
        have LN_W2 := Lib.hid (And.intro r3 r4)
        clear hb r1 r2
        go_wp2_with fail
        refine hK.out _ _ (HM_wd.out _ WD_W2.out) (fun _ => ?_)
        clear hK K
        try simp only [Act.put, List.setIfInBounds_toArray, List.set_cons_zero, List.set_cons_succ]
        clear r3 r4
        refine wpAnyH_take (i := 7) (v := ?_) (oper_at (r := _) rfl) (by kernel_rfl) (by kernel_rfl) (by kernel_rfl) (fun _ _ _ h => h) (Or.inl ⟨by rfl, ?_⟩) (by assumption) ?_
        rotate_left
        · intro w hSw; try dsimp only at hSw
          go_simp
          try with_reducible rfl
        try simp only [Act.put, List.setIfInBounds_toArray, List.set_cons_zero, List.set_cons_succ]
        refine wpAnyH_take (i := 8) (v := ?_) (oper_at (r := _) rfl) (by kernel_rfl) (by kernel_rfl) (by kernel_rfl) (fun _ _ _ h => h) (Or.inl ⟨by rfl, ?_⟩) (by assumption) ?_
        rotate_left
        · intro w hSw; try dsimp only at hSw
          go_simp
          try with_reducible rfl
        try simp only [Act.put, List.setIfInBounds_toArray, List.set_cons_zero, List.set_cons_succ]
        refine wpAnyH_take (i := 9) (v := ?_) (oper_at (r := _) rfl) (by kernel_rfl) (by kernel_rfl) (by kernel_rfl) (fun _ _ _ h => h) (Or.inl ⟨by rfl, ?_⟩) (by assumption) ?_
        rotate_left
        · intro w hSw; try dsimp only at hSw
          go_simp
          try with_reducible rfl
        try simp only [Act.put, List.setIfInBounds_toArray, List.set_cons_zero, List.set_cons_succ]
        refine wpAnyH_ready (rs := [10]) (by kernel_rfl) (by simp) ?_
        refine AllReadyH.cons (oper_at (r := _) rfl) (fun K hK => ?_) AllReadyH.nil
        obtain ⟨gx, hg⟩ : ∃ g, g = W2.heap.size := ⟨_, rfl⟩
        have lgx : wd.heap.size ≤ gx := by rw [hg]; exact WD_W2.out.size
        have hx : BX gx (.slice none 0 0) (.slice none 0 0) 27 (W2.alloc (.cells #[.slice none 0 0, .slice none 0 0] 27)) := by rw [hg]; exact heap_alloc_new _ _
        have hb : Below W2.heap.size W2 (W2.alloc (.cells #[.slice none 0 0, .slice none 0 0] 27)) := (Below.refl _ _).alloc (Nat.le_refl _) _
        have SV_W3 := Lib.hid (SV_W2.out.up hb)
        have WD_W3 := Lib.hid (WD_W2.out.trans (hb.mono WD_W2.out.size))
        have R5_W3 := Lib.hid (Reads.up R5_W2.out hb)
        have R6_W3 := Lib.hid (Reads.up R6_W2.out hb)
        have LN_W3 := Lib.hid (LN_W2.out)
        clear SV_W2 WD_W2 R5_W2 R6_W2 LN_W2
        have B_W3 := Lib.hid hx
        clear hx hb
        go_simp
        refine hK.out _ _ (HM_wd.out _ WD_W3.out) (fun _ => ?_)
        clear hK K
        try simp only [Act.put, List.setIfInBounds_toArray, List.set_cons_zero, List.set_cons_succ]
        generalize W2.alloc (.cells #[.slice none 0 0, .slice none 0 0] 27) = W3 at *
        try rw [← hg]
        clear hg
        refine wpAnyH_ready (rs := [11]) (by kernel_rfl) (by simp) ?_
        refine AllReadyH.cons (oper_at (r := _) rfl) (fun K hK => ?_) AllReadyH.nil
        have fr0 := B_W3.out.free 0
        have fr1 := B_W3.out.free 1
        obtain ⟨e0, e1⟩ := B_W3.out.cells
        go_simp
        clear fr0 fr1 e0 e1
        have SV_W4 := Lib.hid (SV_W3.out.set (g := gx) (by simp; omega) (.slice X3 R.ns.length x3) (.slice Y3 R.es.length y3))
        have WD_W4 := Lib.hid ((WD_W3.out.setCell (p := ⟨gx, 0, none⟩) (by show wd.heap.size ≤ gx; omega) (.slice X3 R.ns.length x3)).setCell (p := ⟨gx, 1, none⟩) (by show wd.heap.size ≤ gx; omega) (.slice Y3 R.es.length y3))
        have R5_W4 := Lib.hid (ints_set' R5_W3.out B_W3.out (.slice X3 R.ns.length x3) (.slice Y3 R.es.length y3))
        have R6_W4 := Lib.hid (ints_set' R6_W3.out B_W3.out (.slice X3 R.ns.length x3) (.slice Y3 R.es.length y3))
        have LN_W4 := Lib.hid (LN_W3.out)
        have B_W4 := Lib.hid (B_W3.out.put (.slice X3 R.ns.length x3) (.slice Y3 R.es.length y3))
        clear SV_W3 WD_W3 R5_W3 R6_W3 LN_W3 B_W3
        refine hK.out _ _ (HM_wd.out _ WD_W4.out) (fun _ => ?_)
        clear hK K
        try simp only [Act.put, List.setIfInBounds_toArray, List.set_cons_zero, List.set_cons_succ]
        generalize (W3.setCell ⟨gx, 0, none⟩ (.slice X3 R.ns.length x3)).setCell ⟨gx, 1, none⟩ (.slice Y3 R.es.length y3) = W4 at *
        refine wpAnyH_take (i := 12) (v := ?_) (oper_at (r := _) rfl) (by kernel_rfl) (by kernel_rfl) (by kernel_rfl) (fun _ _ _ h => h) (Or.inl ⟨by rfl, ?_⟩) (by assumption) ?_
        rotate_left
        · intro w hSw; try dsimp only at hSw
          go_simp
          try with_reducible rfl
        try simp only [Act.put, List.setIfInBounds_toArray, List.set_cons_zero, List.set_cons_succ]
        refine wpAnyH_done (by kernel_rfl) ?_ _
        refine NoPanic.normal ?_
        go_wp2_with fail
        go_meet
        exact ⟨gx, X3, x3, Y3, y3, rfl, rfl, B_W4.out, R5_W4.out, R6_W4.out, LN_W4.out, SV_W4.out⟩
      · skip
        obtain ⟨gx, hg⟩ : ∃ g, g = W1.heap.size := ⟨_, rfl⟩
        have lgx : wd.heap.size ≤ gx := by rw [hg]; exact WD_W1.out.size
        have hx : BX gx (.slice none 0 0) (.slice none 0 0) 27 (W1.alloc (.cells #[.slice none 0 0, .slice none 0 0] 27)) := by rw [hg]; exact heap_alloc_new _ _
        have hb : Below W1.heap.size W1 (W1.alloc (.cells #[.slice none 0 0, .slice none 0 0] 27)) := (Below.refl _ _).alloc (Nat.le_refl _) _
        have SV_W5 := Lib.hid (SV_W1.out.up hb)
        have WD_W5 := Lib.hid (WD_W1.out.trans (hb.mono WD_W1.out.size))
        have R1_W5 := Lib.hid (Reads.up R1_W1.out hb)
        have R2_W5 := Lib.hid (Reads.up R2_W1.out hb)
        clear SV_W1 WD_W1 R1_W1 R2_W1
        have B_W5 := Lib.hid hx
        clear hx hb
        go_simp
        refine hK.out _ _ (HM_wd.out _ WD_W5.out) (fun _ => ?_)
        clear hK K
        try simp only [Act.put, List.setIfInBounds_toArray, List.set_cons_zero, List.set_cons_succ]
        generalize W1.alloc (.cells #[.slice none 0 0, .slice none 0 0] 27) = W5 at *
        try rw [← hg]
        clear hg
        refine wpAnyH_ready (rs := [6]) (by kernel_rfl) (by simp) ?_
        refine AllReadyH.cons (oper_at (r := _) rfl) (fun K hK => ?_) AllReadyH.nil
        go_simp
        refine (HIM.out _ SV_W5.out.1 X1 x1 Y1 y1 R1_W5.out R2_W5.out).mono ?_
        rintro e W6 ⟨⟨X3, x3, Y3, y3, rfl, r1, r2, r3, r4⟩, hb⟩
        have SV_W6 := Lib.hid (SV_W5.out.up hb)
        have WD_W6 := Lib.hid (WD_W5.out.trans (hb.mono WD_W5.out.size))
        have R1_W6 := Lib.hid (Reads.up R1_W5.out hb)
        have R2_W6 := Lib.hid (Reads.up R2_W5.out hb)
        have B_W6 := Lib.hid (B_W5.out.up hb)
        clear SV_W5 WD_W5 R1_W5 R2_W5 B_W5
        have R5_W6 := Lib.hid r1
        have R6_W6 := Lib.hid r2
        have LN_W6 := Lib.hid (And.intro r3 r4)
        clear hb r1 r2
        go_wp2_with fail
        refine hK.out _ _ (HM_wd.out _ WD_W6.out) (fun _ => ?_)
        clear hK K
        try simp only [Act.put, List.setIfInBounds_toArray, List.set_cons_zero, List.set_cons_succ]
        clear r3 r4
        refine wpAnyH_take (i := 7) (v := ?_) (oper_at (r := _) rfl) (by kernel_rfl) (by kernel_rfl) (by kernel_rfl) (fun _ _ _ h => h) (Or.inl ⟨by rfl, ?_⟩) (by assumption) ?_
        rotate_left
        · intro w hSw; try dsimp only at hSw
          go_simp
          try with_reducible rfl
        try simp only [Act.put, List.setIfInBounds_toArray, List.set_cons_zero, List.set_cons_succ]
        refine wpAnyH_take (i := 8) (v := ?_) (oper_at (r := _) rfl) (by kernel_rfl) (by kernel_rfl) (by kernel_rfl) (fun _ _ _ h => h) (Or.inl ⟨by rfl, ?_⟩) (by assumption) ?_
        rotate_left
        · intro w hSw; try dsimp only at hSw
          go_simp
          try with_reducible rfl
        try simp only [Act.put, List.setIfInBounds_toArray, List.set_cons_zero, List.set_cons_succ]
        refine wpAnyH_take (i := 9) (v := ?_) (oper_at (r := _) rfl) (by kernel_rfl) (by kernel_rfl) (by kernel_rfl) (fun _ _ _ h => h) (Or.inl ⟨by rfl, ?_⟩) (by assumption) ?_
        rotate_left
        · intro w hSw; try dsimp only at hSw
          go_simp
          try with_reducible rfl
        try simp only [Act.put, List.setIfInBounds_toArray, List.set_cons_zero, List.set_cons_succ]
        refine wpAnyH_ready (rs := [11]) (by kernel_rfl) (by simp) ?_
        refine AllReadyH.cons (oper_at (r := _) rfl) (fun K hK => ?_) AllReadyH.nil
        have fr0 := B_W6.out.free 0
        have fr1 := B_W6.out.free 1
        obtain ⟨e0, e1⟩ := B_W6.out.cells
        go_simp
        clear fr0 fr1 e0 e1
        have SV_W7 := Lib.hid (SV_W6.out.set (g := gx) (by simp; omega) (.slice X3 R.ns.length x3) (.slice Y3 R.es.length y3))
        have WD_W7 := Lib.hid ((WD_W6.out.setCell (p := ⟨gx, 0, none⟩) (by show wd.heap.size ≤ gx; omega) (.slice X3 R.ns.length x3)).setCell (p := ⟨gx, 1, none⟩) (by show wd.heap.size ≤ gx; omega) (.slice Y3 R.es.length y3))
        have B_W7 := Lib.hid (B_W6.out.put (.slice X3 R.ns.length x3) (.slice Y3 R.es.length y3))
        have R5_W7 := Lib.hid (ints_set' R5_W6.out B_W6.out (.slice X3 R.ns.length x3) (.slice Y3 R.es.length y3))
        have R6_W7 := Lib.hid (ints_set' R6_W6.out B_W6.out (.slice X3 R.ns.length x3) (.slice Y3 R.es.length y3))
        have LN_W7 := Lib.hid (LN_W6.out)
        clear SV_W6 WD_W6 B_W6 R5_W6 R6_W6 LN_W6
        refine hK.out _ _ (HM_wd.out _ WD_W7.out) (fun _ => ?_)
        clear hK K
        try simp only [Act.put, List.setIfInBounds_toArray, List.set_cons_zero, List.set_cons_succ]
        generalize (W6.setCell ⟨gx, 0, none⟩ (.slice X3 R.ns.length x3)).setCell ⟨gx, 1, none⟩ (.slice Y3 R.es.length y3) = W7 at *
        refine wpAnyH_take (i := 12) (v := ?_) (oper_at (r := _) rfl) (by kernel_rfl) (by kernel_rfl) (by kernel_rfl) (fun _ _ _ h => h) (Or.inl ⟨by rfl, ?_⟩) (by assumption) ?_
        rotate_left
        · intro w hSw; try dsimp only at hSw
          go_simp
          try with_reducible rfl
        try simp only [Act.put, List.setIfInBounds_toArray, List.set_cons_zero, List.set_cons_succ]
        refine wpAnyH_done (by kernel_rfl) ?_ _
        refine NoPanic.normal ?_
        go_wp2_with fail
        go_meet
        exact ⟨gx, X3, x3, Y3, y3, rfl, rfl, B_W7.out, R5_W7.out, R6_W7.out, LN_W7.out, SV_W7.out⟩
    · skip
      obtain ⟨gx, hg⟩ : ∃ g, g = wd.heap.size := ⟨_, rfl⟩
      have lgx : wd.heap.size ≤ gx := by rw [hg]; exact WD_wd.out.size
      have hx : BX gx (.slice none 0 0) (.slice none 0 0) 27 (wd.alloc (.cells #[.slice none 0 0, .slice none 0 0] 27)) := by rw [hg]; exact heap_alloc_new _ _
      have hb : Below wd.heap.size wd (wd.alloc (.cells #[.slice none 0 0, .slice none 0 0] 27)) := (Below.refl _ _).alloc (Nat.le_refl _) _
      have SV_W8 := Lib.hid (SV_wd.out.up hb)
      have WD_W8 := Lib.hid (WD_wd.out.trans (hb.mono WD_wd.out.size))
      clear SV_wd WD_wd
      have B_W8 := Lib.hid hx
      clear hx hb
      go_simp
      refine hK.out _ _ (HM_wd.out _ WD_W8.out) (fun _ => ?_)
      clear hK K
      try simp only [Act.put, List.setIfInBounds_toArray, List.set_cons_zero, List.set_cons_succ]
      generalize wd.alloc (.cells #[.slice none 0 0, .slice none 0 0] 27) = W8 at *
      try rw [← hg]
      clear hg
      refine wpAnyH_ready (rs := [5]) (by kernel_rfl) (by simp) ?_
      refine AllReadyH.cons (oper_at (r := _) rfl) (fun K hK => ?_) AllReadyH.nil
      go_simp
      refine (HCP.out _ SV_W8.out.1).mono ?_
      rintro e W9 ⟨⟨X1, x1, Y1, y1, rfl, r1, r2⟩, hb⟩
      have SV_W9 := Lib.hid (SV_W8.out.up hb)
      have WD_W9 := Lib.hid (WD_W8.out.trans (hb.mono WD_W8.out.size))
      have B_W9 := Lib.hid (B_W8.out.up hb)
      clear SV_W8 WD_W8 B_W8
      have R1_W9 := Lib.hid r1
      have R2_W9 := Lib.hid r2
      clear hb r1 r2
      go_wp2_with fail
      refine hK.out _ _ (HM_wd.out _ WD_W9.out) (fun _ => ?_)
      clear hK K
      try simp only [Act.put, List.setIfInBounds_toArray, List.set_cons_zero, List.set_cons_succ]
      refine wpAnyH_ready (rs := [6]) (by kernel_rfl) (by simp) ?_
      refine AllReadyH.cons (oper_at (r := _) rfl) (fun K hK => ?_) AllReadyH.nil
      go_simp
      refine (HIM.out _ SV_W9.out.1 X1 x1 Y1 y1 R1_W9.out R2_W9.out).mono ?_
      rintro e W10 ⟨⟨X3, x3, Y3, y3, rfl, r1, r2, r3, r4⟩, hb⟩
      have SV_W10 := Lib.hid (SV_W9.out.up hb)
      have WD_W10 := Lib.hid (WD_W9.out.trans (hb.mono WD_W9.out.size))
      have B_W10 := Lib.hid (B_W9.out.up hb)
      have R1_W10 := Lib.hid (Reads.up R1_W9.out hb)
      have R2_W10 := Lib.hid (Reads.up R2_W9.out hb)
      clear SV_W9 WD_W9 B_W9 R1_W9 R2_W9
      have R5_W10 := Lib.hid r1
      have R6_W10 := Lib.hid r2
      have LN_W10 := Lib.hid (And.intro r3 r4)
      clear hb r1 r2
      go_wp2_with fail
      refine hK.out _ _ (HM_wd.out _ WD_W10.out) (fun _ => ?_)
      clear hK K
      try simp only [Act.put, List.setIfInBounds_toArray, List.set_cons_zero, List.set_cons_succ]
      clear r3 r4
      refine wpAnyH_take (i := 7) (v := ?_) (oper_at (r := _) rfl) (by kernel_rfl) (by kernel_rfl) (by kernel_rfl) (fun _ _ _ h => h) (Or.inl ⟨by rfl, ?_⟩) (by assumption) ?_
      rotate_left
      · intro w hSw; try dsimp only at hSw
        go_simp
        try with_reducible rfl
      try simp only [Act.put, List.setIfInBounds_toArray, List.set_cons_zero, List.set_cons_succ]
      refine wpAnyH_take (i := 8) (v := ?_) (oper_at (r := _) rfl) (by kernel_rfl) (by kernel_rfl) (by kernel_rfl) (fun _ _ _ h => h) (Or.inl ⟨by rfl, ?_⟩) (by assumption) ?_
      rotate_left
      · intro w hSw; try dsimp only at hSw
        go_simp
        try with_reducible rfl
      try simp only [Act.put, List.setIfInBounds_toArray, List.set_cons_zero, List.set_cons_succ]
      refine wpAnyH_take (i := 9) (v := ?_) (oper_at (r := _) rfl) (by kernel_rfl) (by kernel_rfl) (by kernel_rfl) (fun _ _ _ h => h) (Or.inl ⟨by rfl, ?_⟩) (by assumption) ?_
      rotate_left
      · intro w hSw; try dsimp only at hSw
        go_simp
        try with_reducible rfl
      try simp only [Act.put, List.setIfInBounds_toArray, List.set_cons_zero, List.set_cons_succ]
      refine wpAnyH_ready (rs := [11]) (by kernel_rfl) (by simp) ?_
      refine AllReadyH.cons (oper_at (r := _) rfl) (fun K hK => ?_) AllReadyH.nil
      have fr0 := B_W10.out.free 0
      have fr1 := B_W10.out.free 1
      obtain ⟨e0, e1⟩ := B_W10.out.cells
      go_simp
      clear fr0 fr1 e0 e1
      have SV_W11 := Lib.hid (SV_W10.out.set (g := gx) (by simp; omega) (.slice X3 R.ns.length x3) (.slice Y3 R.es.length y3))
      have WD_W11 := Lib.hid ((WD_W10.out.setCell (p := ⟨gx, 0, none⟩) (by show wd.heap.size ≤ gx; omega) (.slice X3 R.ns.length x3)).setCell (p := ⟨gx, 1, none⟩) (by show wd.heap.size ≤ gx; omega) (.slice Y3 R.es.length y3))
      have B_W11 := Lib.hid (B_W10.out.put (.slice X3 R.ns.length x3) (.slice Y3 R.es.length y3))
      have R5_W11 := Lib.hid (ints_set' R5_W10.out B_W10.out (.slice X3 R.ns.length x3) (.slice Y3 R.es.length y3))
      have R6_W11 := Lib.hid (ints_set' R6_W10.out B_W10.out (.slice X3 R.ns.length x3) (.slice Y3 R.es.length y3))
      have LN_W11 := Lib.hid (LN_W10.out)
      clear SV_W10 WD_W10 B_W10 R5_W10 R6_W10 LN_W10
      refine hK.out _ _ (HM_wd.out _ WD_W11.out) (fun _ => ?_)
      clear hK K
      try simp only [Act.put, List.setIfInBounds_toArray, List.set_cons_zero, List.set_cons_succ]
      generalize (W10.setCell ⟨gx, 0, none⟩ (.slice X3 R.ns.length x3)).setCell ⟨gx, 1, none⟩ (.slice Y3 R.es.length y3) = W11 at *
      refine wpAnyH_take (i := 12) (v := ?_) (oper_at (r := _) rfl) (by kernel_rfl) (by kernel_rfl) (by kernel_rfl) (fun _ _ _ h => h) (Or.inl ⟨by rfl, ?_⟩) (by assumption) ?_
      rotate_left
      · intro w hSw; try dsimp only at hSw
        go_simp
        try with_reducible rfl
      try simp only [Act.put, List.setIfInBounds_toArray, List.set_cons_zero, List.set_cons_succ]
      refine wpAnyH_done (by kernel_rfl) ?_ _
      refine NoPanic.normal ?_
      go_wp2_with fail
      go_meet
      exact ⟨gx, X3, x3, Y3, y3, rfl, rfl, B_W11.out, R5_W11.out, R6_W11.out, LN_W11.out, SV_W11.out⟩
  case rest =>
    obtain ⟨gx, X1, x1, Y1, y1, rfl, rfl, hB, hR1, hR2, hL, hS⟩ := hcut
    have B1 := Lib.hid hB
    have R11 := Lib.hid hR1
    have R21 := Lib.hid hR2
    have HL0 := Lib.hid hL
    have HS := Lib.hid hS
    clear hB hR1 hR2 hL hS HS2 HIM HCP
    have c0 := HS.out.cell (i := 0) (j := 0) rfl rfl
    have c1 := HS.out.cell (i := 0) (j := 1) rfl rfl
    simp only [Nat.add_zero] at c0 c1
    have d0 := HS.out.cell (i := 1) (j := 0) rfl rfl
    have d1 := HS.out.cell (i := 1) (j := 1) rfl rfl
    have d2 := HS.out.cell (i := 1) (j := 2) rfl rfl
    have d3 := HS.out.cell (i := 1) (j := 3) rfl rfl
    go_wp2_with fail
    refine (HIR.out _ HS.out.1).mono ?_
    rintro e v2 ⟨⟨X2, x2, Y2, y2, rfl, r1, r2, r3, r4⟩, hb⟩
    have SV_v2 := Lib.hid (HS.out.up hb)
    have B1_v2 := Lib.hid (B1.out.up hb)
    have R11_v2 := Lib.hid (Reads.up R11.out hb)
    have R21_v2 := Lib.hid (Reads.up R21.out hb)
    clear HS B1 R11 R21
    have R1_v2 := Lib.hid r1
    have R2_v2 := Lib.hid r2
    have HL := Lib.hid (And.intro r3 r4)
    clear r1 r2 r3 r4 hb c0 c1 d0 d1 d2 d3
    go_upto_region 5 with fail
    have hb : Below v2.heap.size v2 (v2.alloc (.cells #[.slice X2 R.ns.length x2, .slice Y2 R.es.length y2] 27)) := (Below.refl _ _).alloc (Nat.le_refl _) _
    have hx : BX v2.heap.size (.slice X2 R.ns.length x2) (.slice Y2 R.es.length y2) 27 (v2.alloc (.cells #[.slice X2 R.ns.length x2, .slice Y2 R.es.length y2] 27)) := heap_alloc_new _ _
    have SV_V2 := Lib.hid (SV_v2.out.up hb)
    have B1_V2 := Lib.hid (B1_v2.out.up hb)
    have R11_V2 := Lib.hid (Reads.up R11_v2.out hb)
    have R21_V2 := Lib.hid (Reads.up R21_v2.out hb)
    have R12_V2 := Lib.hid (Reads.up R1_v2.out hb)
    have R22_V2 := Lib.hid (Reads.up R2_v2.out hb)
    clear SV_v2 B1_v2 R11_v2 R21_v2 R1_v2 R2_v2
    have B2_V2 := Lib.hid hx
    clear hb hx
    generalize v2.alloc (.cells #[.slice X2 R.ns.length x2, .slice Y2 R.es.length y2] 27) = V2 at *
    generalize v2.heap.size = gy at *
    obtain ⟨b0, b1⟩ := B1_V2.out.cells
    obtain ⟨b2, b3⟩ := B2_V2.out.cells
    go_wp2_with fail
    refine (sameR_refl R X1 x1 Y1 y1 X2 x2 Y2 y2 _ HL.out R11_V2.out R21_V2.out R12_V2.out R22_V2.out).mono ?_
    rintro e w8 ⟨rfl, hb⟩
    have SV_w8 := Lib.hid (SV_V2.out.up hb)
    have B1_w8 := Lib.hid (B1_V2.out.up hb)
    have R11_w8 := Lib.hid (Reads.up R11_V2.out hb)
    have R21_w8 := Lib.hid (Reads.up R21_V2.out hb)
    have R12_w8 := Lib.hid (Reads.up R12_V2.out hb)
    have R22_w8 := Lib.hid (Reads.up R22_V2.out hb)
    have B2_w8 := Lib.hid (B2_V2.out.up hb)
    clear SV_V2 B1_V2 R11_V2 R21_V2 R12_V2 R22_V2 B2_V2
    clear hb b0 b1 b2 b3
    by_cases hz : E = 0
    case neg =>
      have t1 : ((E : Int) != 0) = true := by simp; omega
      clear hz
      obtain ⟨b0, b1⟩ := B1_w8.out.cells
      obtain ⟨b2, b3⟩ := B2_w8.out.cells
      go_wp2_with fail
      refine (sameR_refl R X1 x1 Y1 y1 X2 x2 Y2 y2 _ HL.out R11_w8.out R21_w8.out R12_w8.out R22_w8.out).mono ?_
      rintro e w9 ⟨rfl, hb⟩
      have SV_w9 := Lib.hid (SV_w8.out.up hb)
      have B1_w9 := Lib.hid (B1_w8.out.up hb)
      have R11_w9 := Lib.hid (Reads.up R11_w8.out hb)
      have R21_w9 := Lib.hid (Reads.up R21_w8.out hb)
      have R12_w9 := Lib.hid (Reads.up R12_w8.out hb)
      have R22_w9 := Lib.hid (Reads.up R22_w8.out hb)
      have B2_w9 := Lib.hid (B2_w8.out.up hb)
      clear SV_w8 B1_w8 R11_w8 R21_w8 R12_w8 R22_w8 B2_w8
      clear hb b0 b1 b2 b3
      go_wp2_with fail
      go_ret
      exact ⟨rfl, SV_w9.out.1⟩
    subst hz
    have HE1 := Lib.hid (HD1.out rfl)
    have HE2 := Lib.hid (HD2.out rfl)
    have HP1 := Lib.hid (HO1.out rfl)
    have HP2 := Lib.hid (HO2.out rfl)
    clear HIR HD1 HD2 HO1 HO2
    obtain ⟨b0, b1⟩ := B1_w8.out.cells
    have c0 := SV_w8.out.cell (i := 0) (j := 0) rfl rfl
    have c1 := SV_w8.out.cell (i := 0) (j := 1) rfl rfl
    simp only [Nat.add_zero] at c0 c1
    have d0 := SV_w8.out.cell (i := 1) (j := 0) rfl rfl
    have d1 := SV_w8.out.cell (i := 1) (j := 1) rfl rfl
    have d2 := SV_w8.out.cell (i := 1) (j := 2) rfl rfl
    have d3 := SV_w8.out.cell (i := 1) (j := 3) rfl rfl
    go_wp2_with fail
    refine (HE1.out _ SV_w8.out.1 X1 x1 Y1 y1 R11_w8.out R21_w8.out).mono ?_
    rintro e v3 ⟨⟨X3, x3, Y3, y3, rfl, r1, r2, r3, r4⟩, hb⟩
    have SV_v3 := Lib.hid (SV_w8.out.up hb)
    have B1_v3 := Lib.hid (B1_w8.out.up hb)
    have R11_v3 := Lib.hid (Reads.up R11_w8.out hb)
    have R21_v3 := Lib.hid (Reads.up R21_w8.out hb)
    clear SV_w8 B1_w8 R11_w8 R21_w8
    have R1_v3 := Lib.hid r1
    have R2_v3 := Lib.hid r2
    have HL := Lib.hid (And.intro r3 r4)
    clear r1 r2 r3 r4 hb c0 c1 d0 d1 d2 d3
    go_upto_region 8 with fail
    have hb : Below v3.heap.size v3 (v3.alloc (.cells #[.slice X3 IA.ns.length x3, .slice Y3 IA.es.length y3] 27)) := (Below.refl _ _).alloc (Nat.le_refl _) _
    have hx : BX v3.heap.size (.slice X3 IA.ns.length x3) (.slice Y3 IA.es.length y3) 27 (v3.alloc (.cells #[.slice X3 IA.ns.length x3, .slice Y3 IA.es.length y3] 27)) := heap_alloc_new _ _
    have SV_V3 := Lib.hid (SV_v3.out.up hb)
    have B1_V3 := Lib.hid (B1_v3.out.up hb)
    have R11_V3 := Lib.hid (Reads.up R11_v3.out hb)
    have R21_V3 := Lib.hid (Reads.up R21_v3.out hb)
    have R13_V3 := Lib.hid (Reads.up R1_v3.out hb)
    have R23_V3 := Lib.hid (Reads.up R2_v3.out hb)
    clear SV_v3 B1_v3 R11_v3 R21_v3 R1_v3 R2_v3
    have B3_V3 := Lib.hid hx
    clear hb hx
    generalize v3.alloc (.cells #[.slice X3 IA.ns.length x3, .slice Y3 IA.es.length y3] 27) = V3 at *
    generalize v3.heap.size = gp at *
    have HL3 := HL
    clear b0 b1
    obtain ⟨b0, b1⟩ := B1_V3.out.cells
    have c0 := SV_V3.out.cell (i := 0) (j := 0) rfl rfl
    have c1 := SV_V3.out.cell (i := 0) (j := 1) rfl rfl
    simp only [Nat.add_zero] at c0 c1
    have d0 := SV_V3.out.cell (i := 1) (j := 0) rfl rfl
    have d1 := SV_V3.out.cell (i := 1) (j := 1) rfl rfl
    have d2 := SV_V3.out.cell (i := 1) (j := 2) rfl rfl
    have d3 := SV_V3.out.cell (i := 1) (j := 3) rfl rfl
    go_wp2_with fail
    refine (HE2.out _ SV_V3.out.1 X1 x1 Y1 y1 R11_V3.out R21_V3.out).mono ?_
    rintro e v4 ⟨⟨X4, x4, Y4, y4, rfl, r1, r2, r3, r4⟩, hb⟩
    have SV_v4 := Lib.hid (SV_V3.out.up hb)
    have B1_v4 := Lib.hid (B1_V3.out.up hb)
    have R11_v4 := Lib.hid (Reads.up R11_V3.out hb)
    have R21_v4 := Lib.hid (Reads.up R21_V3.out hb)
    have R13_v4 := Lib.hid (Reads.up R13_V3.out hb)
    have R23_v4 := Lib.hid (Reads.up R23_V3.out hb)
    have B3_v4 := Lib.hid (B3_V3.out.up hb)
    clear SV_V3 B1_V3 R11_V3 R21_V3 R13_V3 R23_V3 B3_V3
    have R1_v4 := Lib.hid r1
    have R2_v4 := Lib.hid r2
    have HL := Lib.hid (And.intro r3 r4)
    clear r1 r2 r3 r4 hb c0 c1 d0 d1 d2 d3
    go_upto_region 9 with fail
    have hb : Below v4.heap.size v4 (v4.alloc (.cells #[.slice X4 IB.ns.length x4, .slice Y4 IB.es.length y4] 27)) := (Below.refl _ _).alloc (Nat.le_refl _) _
    have hx : BX v4.heap.size (.slice X4 IB.ns.length x4) (.slice Y4 IB.es.length y4) 27 (v4.alloc (.cells #[.slice X4 IB.ns.length x4, .slice Y4 IB.es.length y4] 27)) := heap_alloc_new _ _
    have SV_V4 := Lib.hid (SV_v4.out.up hb)
    have B1_V4 := Lib.hid (B1_v4.out.up hb)
    have R11_V4 := Lib.hid (Reads.up R11_v4.out hb)
    have R21_V4 := Lib.hid (Reads.up R21_v4.out hb)
    have R13_V4 := Lib.hid (Reads.up R13_v4.out hb)
    have R23_V4 := Lib.hid (Reads.up R23_v4.out hb)
    have B3_V4 := Lib.hid (B3_v4.out.up hb)
    have R14_V4 := Lib.hid (Reads.up R1_v4.out hb)
    have R24_V4 := Lib.hid (Reads.up R2_v4.out hb)
    clear SV_v4 B1_v4 R11_v4 R21_v4 R13_v4 R23_v4 B3_v4 R1_v4 R2_v4
    have B4_V4 := Lib.hid hx
    clear hb hx
    generalize v4.alloc (.cells #[.slice X4 IB.ns.length x4, .slice Y4 IB.es.length y4] 27) = V4 at *
    generalize v4.heap.size = gq at *
    clear b0 b1 HE1 HE2
    go_wp2_with fail
    have SV_wf := Lib.hid (SV_V4.out.up (below_d V4))
    have R13_wf := Lib.hid (Reads.up R13_V4.out (below_d V4))
    have R23_wf := Lib.hid (Reads.up R23_V4.out (below_d V4))
    have B3_wf := Lib.hid (B3_V4.out.up (below_d V4))
    have R14_wf := Lib.hid (Reads.up R14_V4.out (below_d V4))
    have R24_wf := Lib.hid (Reads.up R24_V4.out (below_d V4))
    have B4_wf := Lib.hid (B4_V4.out.up (below_d V4))
    clear SV_V4 R13_V4 R23_V4 B3_V4 R14_V4 R24_V4 B4_V4
    have q0 : V4.drew.cell? ⟨w.heap.size, 0, none⟩ = some (.slice An a.ns.length cn) := SV_wf.out.cell (i := 0) (j := 0) rfl rfl
    have q1 : V4.drew.cell? ⟨w.heap.size, 1, none⟩ = some (.slice Ae a.es.length ce) := SV_wf.out.cell (i := 0) (j := 1) rfl rfl
    have q2 : V4.drew.cell? ⟨w.heap.size + 1, 0, none⟩ = some (.slice Bn b.ns.length dn) := SV_wf.out.cell (i := 1) (j := 0) rfl rfl
    have q3 : V4.drew.cell? ⟨w.heap.size + 1, 1, none⟩ = some (.slice Be b.es.length de) := SV_wf.out.cell (i := 1) (j := 1) rfl rfl
    have q4 : V4.drew.cell? ⟨gp, 0, none⟩ = some (.slice X3 IA.ns.length x3) := B3_wf.out.cells.1
    have q5 : V4.drew.cell? ⟨gp, 1, none⟩ = some (.slice Y3 IA.es.length y3) := B3_wf.out.cells.2
    have q6 : V4.drew.cell? ⟨gq, 0, none⟩ = some (.slice X4 IB.ns.length x4) := B4_wf.out.cells.1
    have q7 : V4.drew.cell? ⟨gq, 1, none⟩ = some (.slice Y4 IB.es.length y4) := B4_wf.out.cells.2
    have HM_wf : Hid (∀ u, Below V4.drew.heap.size V4.drew u → (fun u : World => u.cell? ⟨w.heap.size, 0, none⟩ = some (.slice An a.ns.length cn) ∧ u.cell? ⟨w.heap.size, 1, none⟩ = some (.slice Ae a.es.length ce) ∧ u.cell? ⟨w.heap.size + 1, 0, none⟩ = some (.slice Bn b.ns.length dn) ∧ u.cell? ⟨w.heap.size + 1, 1, none⟩ = some (.slice Be b.es.length de) ∧ u.cell? ⟨gp, 0, none⟩ = some (.slice X3 IA.ns.length x3) ∧ u.cell? ⟨gp, 1, none⟩ = some (.slice Y3 IA.es.length y3) ∧ u.cell? ⟨gq, 0, none⟩ = some (.slice X4 IB.ns.length x4) ∧ u.cell? ⟨gq, 1, none⟩ = some (.slice Y4 IB.es.length y4)) u) := Lib.hid fun u hb => ⟨cell_up hb q0, cell_up hb q1, cell_up hb q2, cell_up hb q3, cell_up hb q4, cell_up hb q5, cell_up hb q6, cell_up hb q7⟩
    clear q0 q1 q2 q3 q4 q5 q6 q7
    have WD_wf := Lib.hid (Below.refl V4.drew.heap.size V4.drew)
    refine wp_region_noPanic ?_
    refine wp_region_held_drew (S := (fun u : World => u.cell? ⟨w.heap.size, 0, none⟩ = some (.slice An a.ns.length cn) ∧ u.cell? ⟨w.heap.size, 1, none⟩ = some (.slice Ae a.es.length ce) ∧ u.cell? ⟨w.heap.size + 1, 0, none⟩ = some (.slice Bn b.ns.length dn) ∧ u.cell? ⟨w.heap.size + 1, 1, none⟩ = some (.slice Be b.es.length de) ∧ u.cell? ⟨gp, 0, none⟩ = some (.slice X3 IA.ns.length x3) ∧ u.cell? ⟨gp, 1, none⟩ = some (.slice Y3 IA.es.length y3) ∧ u.cell? ⟨gq, 0, none⟩ = some (.slice X4 IB.ns.length x4) ∧ u.cell? ⟨gq, 1, none⟩ = some (.slice Y4 IB.es.length y4))) (by kernel_rfl) (HM_wf.out _ WD_wf.out) (fun hHeld => ?_)
    generalize V4.drew = wf at *
    refine wpAnyH_take (i := 0) (v := ?_) (oper_at (r := _) rfl) (by kernel_rfl) (by kernel_rfl) (by kernel_rfl) (fun _ _ _ h => h) (Or.inl ⟨by rfl, ?_⟩) (by assumption) ?_
    rotate_left
    · intro w hSw; try dsimp only at hSw
      go_simp
      try with_reducible rfl
    try simp only [Act.put, List.setIfInBounds_toArray, List.set_cons_zero, List.set_cons_succ]
    refine wpAnyH_take (i := 1) (v := ?_) (oper_at (r := _) rfl) (by kernel_rfl) (by kernel_rfl) (by kernel_rfl) (fun _ _ _ h => h) (Or.inl ⟨by rfl, ?_⟩) (by assumption) ?_
    rotate_left
    · intro w hSw; try dsimp only at hSw
      go_simp
      try with_reducible rfl
    try simp only [Act.put, List.setIfInBounds_toArray, List.set_cons_zero, List.set_cons_succ]
    refine wpAnyH_take (i := 2) (v := ?_) (oper_at (r := _) rfl) (by kernel_rfl) (by kernel_rfl) (by kernel_rfl) (fun _ _ _ h => h) (Or.inl ⟨by rfl, ?_⟩) (by assumption) ?_
    rotate_left
    · intro w hSw; try dsimp only at hSw
      go_simp
      try with_reducible rfl
    try simp only [Act.put, List.setIfInBounds_toArray, List.set_cons_zero, List.set_cons_succ]
    refine wpAnyH_take (i := 3) (v := ?_) (oper_at (r := _) rfl) (by kernel_rfl) (by kernel_rfl) (by kernel_rfl) (fun _ _ _ h => h) (Or.inl ⟨by rfl, ?_⟩) (by assumption) ?_
    rotate_left
    · intro w hSw; try dsimp only at hSw
      go_simp
      try with_reducible rfl
    try simp only [Act.put, List.setIfInBounds_toArray, List.set_cons_zero, List.set_cons_succ]
    refine wpAnyH_take (i := 4) (v := ?_) (oper_at (r := _) rfl) (by kernel_rfl) (by kernel_rfl) (by kernel_rfl) (fun _ _ _ h => h) (Or.inl ⟨by rfl, ?_⟩) (by assumption) ?_
    rotate_left
    · intro w hSw; try dsimp only at hSw
      go_simp
      try with_reducible rfl
    try simp only [Act.put, List.setIfInBounds_toArray, List.set_cons_zero, List.set_cons_succ]
    refine wpAnyH_take (i := 5) (v := ?_) (oper_at (r := _) rfl) (by kernel_rfl) (by kernel_rfl) (by kernel_rfl) (fun _ _ _ h => h) (Or.inl ⟨by rfl, ?_⟩) (by assumption) ?_
    rotate_left
    · intro w hSw; try dsimp only at hSw
      go_simp
      try with_reducible rfl
    try simp only [Act.put, List.setIfInBounds_toArray, List.set_cons_zero, List.set_cons_succ]
    refine wpAnyH_take (i := 6) (v := ?_) (oper_at (r := _) rfl) (by kernel_rfl) (by kernel_rfl) (by kernel_rfl) (fun _ _ _ h => h) (Or.inl ⟨by rfl, ?_⟩) (by assumption) ?_
    rotate_left
    · intro w hSw; try dsimp only at hSw
      go_simp
      try with_reducible rfl
    try simp only [Act.put, List.setIfInBounds_toArray, List.set_cons_zero, List.set_cons_succ]
    refine wpAnyH_take (i := 7) (v := ?_) (oper_at (r := _) rfl) (by kernel_rfl) (by kernel_rfl) (by kernel_rfl) (fun _ _ _ h => h) (Or.inl ⟨by rfl, ?_⟩) (by assumption) ?_
    rotate_left
    · intro w hSw; try dsimp only at hSw
      go_simp
      try with_reducible rfl
    try simp only [Act.put, List.setIfInBounds_toArray, List.set_cons_zero, List.set_cons_succ]
    refine wpAnyH_take (i := 8) (v := ?_) (oper_at (r := _) rfl) (by kernel_rfl) (by kernel_rfl) (by kernel_rfl) (fun _ _ _ h => h) (Or.inl ⟨by rfl, ?_⟩) (by assumption) ?_
    rotate_left
    · intro w hSw; try dsimp only at hSw
      go_simp
      try with_reducible rfl
    try simp only [Act.put, List.setIfInBounds_toArray, List.set_cons_zero, List.set_cons_succ]
    refine wpAnyH_ready (rs := [9]) (by kernel_rfl) (by simp) ?_
    refine AllReadyH.cons (oper_at (r := _) rfl) (fun K hK => ?_) AllReadyH.nil
    go_simp
    refine (HP1.out _).mono ?_
    rintro e W12 ⟨⟨X5, x5, Y5, y5, rfl, r1, r2⟩, hb⟩
    have SV_W12 := Lib.hid (SV_wf.out.up hb)
    have R13_W12 := Lib.hid (Reads.up R13_wf.out hb)
    have R23_W12 := Lib.hid (Reads.up R23_wf.out hb)
    have B3_W12 := Lib.hid (B3_wf.out.up hb)
    have R14_W12 := Lib.hid (Reads.up R14_wf.out hb)
    have R24_W12 := Lib.hid (Reads.up R24_wf.out hb)
    have B4_W12 := Lib.hid (B4_wf.out.up hb)
    have WD_W12 := Lib.hid (WD_wf.out.trans (hb.mono WD_wf.out.size))
    clear SV_wf R13_wf R23_wf B3_wf R14_wf R24_wf B4_wf WD_wf
    have S1_W12 := Lib.hid r1
    have S2_W12 := Lib.hid r2
    clear hb r1 r2
    go_wp2_with fail
    refine hK.out _ _ (HM_wf.out _ WD_W12.out) (fun _ => ?_)
    clear hK K
    try simp only [Act.put, List.setIfInBounds_toArray, List.set_cons_zero, List.set_cons_succ]
    refine wpAnyH_ready (rs := [10]) (by kernel_rfl) (by simp) ?_
    refine AllReadyH.cons (oper_at (r := _) rfl) (fun K hK => ?_) AllReadyH.nil
    go_simp
    refine (sameR_refl IA X3 x3 Y3 y3 X5 x5 Y5 y5 _ HL3.out R13_W12.out R23_W12.out S1_W12.out S2_W12.out).mono ?_
    rintro e W13 ⟨rfl, hb⟩
    have SV_W13 := Lib.hid (SV_W12.out.up hb)
    have R13_W13 := Lib.hid (Reads.up R13_W12.out hb)
    have R23_W13 := Lib.hid (Reads.up R23_W12.out hb)
    have B3_W13 := Lib.hid (B3_W12.out.up hb)
    have R14_W13 := Lib.hid (Reads.up R14_W12.out hb)
    have R24_W13 := Lib.hid (Reads.up R24_W12.out hb)
    have B4_W13 := Lib.hid (B4_W12.out.up hb)
    have WD_W13 := Lib.hid (WD_W12.out.trans (hb.mono WD_W12.out.size))
    have S1_W13 := Lib.hid (Reads.up S1_W12.out hb)
    have S2_W13 := Lib.hid (Reads.up S2_W12.out hb)
    clear SV_W12 R13_W12 R23_W12 B3_W12 R14_W12 R24_W12 B4_W12 WD_W12 S1_W12 S2_W12
    clear hb 
    go_wp2_with fail
    refine hK.out _ _ (HM_wf.out _ WD_W13.out) (fun _ => ?_)
    clear hK K
    try simp only [Act.put, List.setIfInBounds_toArray, List.set_cons_zero, List.set_cons_succ]
    refine wpAnyH_take (i := 11) (v := ?_) (oper_at (r := _) rfl) (by kernel_rfl) (by kernel_rfl) (by kernel_rfl) (fun _ _ _ h => h) (Or.inl ⟨by rfl, ?_⟩) (by assumption) ?_
    rotate_left
    · intro w hSw; try dsimp only at hSw
      go_simp
      try with_reducible rfl
    try simp only [Act.put, List.setIfInBounds_toArray, List.set_cons_zero, List.set_cons_succ]
    refine wpAnyH_take (i := 12) (v := ?_) (oper_at (r := _) rfl) (by kernel_rfl) (by kernel_rfl) (by kernel_rfl) (fun _ _ _ h => h) (Or.inl ⟨by rfl, ?_⟩) (by assumption) ?_
    rotate_left
    · intro w hSw; try dsimp only at hSw
      go_simp
      try with_reducible rfl
    try simp only [Act.put, List.setIfInBounds_toArray, List.set_cons_zero, List.set_cons_succ]
    refine wpAnyH_take (i := 13) (v := ?_) (oper_at (r := _) rfl) (by kernel_rfl) (by kernel_rfl) (by kernel_rfl) (fun _ _ _ h => h) (Or.inl ⟨by rfl, ?_⟩) (by assumption) ?_
    rotate_left
    · intro w hSw; try dsimp only at hSw
      go_simp
      try with_reducible rfl
    try simp only [Act.put, List.setIfInBounds_toArray, List.set_cons_zero, List.set_cons_succ]
    refine wpAnyH_take (i := 14) (v := ?_) (oper_at (r := _) rfl) (by kernel_rfl) (by kernel_rfl) (by kernel_rfl) (fun _ _ _ h => h) (Or.inl ⟨by rfl, ?_⟩) (by assumption) ?_
    rotate_left
    · intro w hSw; try dsimp only at hSw
      go_simp
      try with_reducible rfl
    try simp only [Act.put, List.setIfInBounds_toArray, List.set_cons_zero, List.set_cons_succ]
    refine wpAnyH_take (i := 15) (v := ?_) (oper_at (r := _) rfl) (by kernel_rfl) (by kernel_rfl) (by kernel_rfl) (fun _ _ _ h => h) (Or.inl ⟨by rfl, ?_⟩) (by assumption) ?_
    rotate_left
    · intro w hSw; try dsimp only at hSw
      go_simp
      try with_reducible rfl
    try simp only [Act.put, List.setIfInBounds_toArray, List.set_cons_zero, List.set_cons_succ]
    refine wpAnyH_ready (rs := [16]) (by kernel_rfl) (by simp) ?_
    refine AllReadyH.cons (oper_at (r := _) rfl) (fun K hK => ?_) AllReadyH.nil
    go_simp
    refine (HP2.out _).mono ?_
    rintro e W14 ⟨⟨X6, x6, Y6, y6, rfl, r1, r2⟩, hb⟩
    have SV_W14 := Lib.hid (SV_W13.out.up hb)
    have B3_W14 := Lib.hid (B3_W13.out.up hb)
    have R14_W14 := Lib.hid (Reads.up R14_W13.out hb)
    have R24_W14 := Lib.hid (Reads.up R24_W13.out hb)
    have B4_W14 := Lib.hid (B4_W13.out.up hb)
    have WD_W14 := Lib.hid (WD_W13.out.trans (hb.mono WD_W13.out.size))
    clear SV_W13 B3_W13 R14_W13 R24_W13 B4_W13 WD_W13
    have S1_W14 := Lib.hid r1
    have S2_W14 := Lib.hid r2
    clear hb r1 r2
    go_wp2_with fail
    refine hK.out _ _ (HM_wf.out _ WD_W14.out) (fun _ => ?_)
    clear hK K
    try simp only [Act.put, List.setIfInBounds_toArray, List.set_cons_zero, List.set_cons_succ]
    refine wpAnyH_ready (rs := [17]) (by kernel_rfl) (by simp) ?_
    refine AllReadyH.cons (oper_at (r := _) rfl) (fun K hK => ?_) AllReadyH.nil
    go_simp
    refine (sameR_refl IB X4 x4 Y4 y4 X6 x6 Y6 y6 _ HL.out R14_W14.out R24_W14.out S1_W14.out S2_W14.out).mono ?_
    rintro e W15 ⟨rfl, hb⟩
    have SV_W15 := Lib.hid (SV_W14.out.up hb)
    have B3_W15 := Lib.hid (B3_W14.out.up hb)
    have R14_W15 := Lib.hid (Reads.up R14_W14.out hb)
    have R24_W15 := Lib.hid (Reads.up R24_W14.out hb)
    have B4_W15 := Lib.hid (B4_W14.out.up hb)
    have WD_W15 := Lib.hid (WD_W14.out.trans (hb.mono WD_W14.out.size))
    have S1_W15 := Lib.hid (Reads.up S1_W14.out hb)
    have S2_W15 := Lib.hid (Reads.up S2_W14.out hb)
    clear SV_W14 B3_W14 R14_W14 R24_W14 B4_W14 WD_W14 S1_W14 S2_W14
    clear hb 
    go_wp2_with fail
    refine hK.out _ _ (HM_wf.out _ WD_W15.out) (fun _ => ?_)
    clear hK K
    try simp only [Act.put, List.setIfInBounds_toArray, List.set_cons_zero, List.set_cons_succ]
    refine wpAnyH_take (i := 18) (v := ?_) (oper_at (r := _) rfl) (by kernel_rfl) (by kernel_rfl) (by kernel_rfl) (fun _ _ _ h => h) (Or.inl ⟨by rfl, ?_⟩) (by assumption) ?_
    rotate_left
    · intro w hSw; try dsimp only at hSw
      go_simp
      try with_reducible rfl
    try simp only [Act.put, List.setIfInBounds_toArray, List.set_cons_zero, List.set_cons_succ]
    refine wpAnyH_take (i := 19) (v := ?_) (oper_at (r := _) rfl) (by kernel_rfl) (by kernel_rfl) (by kernel_rfl) (fun _ _ _ h => h) (Or.inl ⟨by rfl, ?_⟩) (by assumption) ?_
    rotate_left
    · intro w hSw; try dsimp only at hSw
      go_simp
      try with_reducible rfl
    try simp only [Act.put, List.setIfInBounds_toArray, List.set_cons_zero, List.set_cons_succ]
    refine wpAnyH_done (by kernel_rfl) ?_ _
    refine NoPanic.normal ?_
    go_wp2_with fail
    go_ret
    exact ⟨rfl, SV_W15.out.1⟩

end Go.Proofs.YtaeelanbkdkppaaDoor

/-
  The statement MorphismInverse: the law answers true for every input, and its arguments read as they did; its card.
-/
namespace Go.Proofs.YtaeelanbkdkppaaDoor.morphismInverse
open Go.ChangeShapes Go.WideShapes Go.ChangeAt Go.RowKit Go.Deep

set_option maxRecDepth 100000 in
theorem lifted (os : Os) (started : os.Started) (H : Type) (enc : TypeId × Value → H) :
    ReturnsInHanded {} Tryd.checked os 6 .any (fun w args => (Rows.morphismInverseSpec.pre enc Tryd.prog Tryd.f6 Rows.morphismInverseRow.domain false w args ∧ laidMetH Tryd.prog laidL w) ∧ sizedMet enc Tryd.prog Tryd.f6 (OpenSpec.ofChange Rows.morphismInverseSpec) false w args)
      (Rows.morphismInverseSpec.post enc Tryd.prog Tryd.f6 false true false false) := by
  refine returnsInHanded_of_change_and (C := Tryd.checked) (X := fun w _ => laidMetH Tryd.prog laidL w) (fun _ _ _ hh h => h.of_heap hh) ownNone started (by kernel_rfl) Tryd.func6
    (ChangeSpec.witness_shaped (enc := enc) (C := Tryd.checked) (os := os) (X := fun w _ => laidMetH Tryd.prog laidL w) false (World.laidAll Tryd.prog os laidL) #[.agg #[.slice none 0 0, .slice none 0 0], .agg #[.slice none 0 0, .slice none 0 0, .slice none 0 0, .slice none 0 0]] 8 (World.laidAll_os _ _ _)
      (shaped os _) (by kernel_rfl) (by kernel_rfl) (by kernel_rfl) (met os _)) ?_
  intro W base args ds gs before hval0 hW hcnd hsz0 hL _
  have hval : ∀ (j : Nat) t v, Tryd.f6.params[j]? = some t → args[j]? = some v → Value.okWide Tryd.prog W .any base t v := hval0
  have hsz : (DataW.weightsEach Tryd.prog (Tryd.f6.params.toList ++ Rows.morphismInverseSpec.plain.varTypes Tryd.prog) (ds ++ gs)).all (· ≤ reachBytes) = true := hsz0
  obtain ⟨hTab, h00⟩ := tab_of_laid hL
  have hW' := hW
  obtain ⟨p, q, hA0, hV, rfl, hfz, hnd⟩ := hW
  have hA : DataW.TrodAll enc Tryd.prog W 0 (fun _ => true) true Tryd.f6.params.toList args.toList ds p := hA0
  rw [Tryd.params6] at hA hval hsz
  obtain ⟨v0, v1, d0, d1, p0, p1, rfl, rfl, rfl, h0, h1⟩ := trodAll_two hA
  obtain ⟨rfl, rfl⟩ := trodVars_none hV
  clear hA0 hval0 hsz0 hL hcnd
  simp only [List.append_nil] at hW'
  have hlt : ∀ x ∈ p0 ++ p1, x.block < W.heap.size := fun x hx => by simpa using hW'.lt x (by simpa using hx)
  have k0 := h0
  obtain ⟨cs0, rfl, _⟩ := okWide_struct Tryd.underlying25 (hval 0 25 v0 rfl rfl)
  obtain ⟨f0, g0⟩ := h0
  obtain ⟨t0, An0, cn0, Ae0, ce0, e0, hT0⟩ := open_G g0
  obtain rfl := agg_of (e0)
  have k1 := h1
  obtain ⟨cs1, rfl, _⟩ := okWide_struct Tryd.underlying29 (hval 1 29 v1 rfl rfl)
  obtain ⟨f1, g1⟩ := h1
  obtain ⟨t1, e1, hT1⟩ := open_R g1 (fun n hn => by simpa using List.all_eq_true.1 hsz n (DataW.weights_mem_each (j := 1) rfl rfl n hn))
  obtain rfl := agg_of (e1)
  refine (lawInverse t0 An0 cn0 Ae0 ce0 t1 W h00 hTab hT0 hT1).mono fun e W' ⟨he, hg⟩ => ?_
  subst he
  exact ⟨_, rfl, _, _, _, [], p0 ++ p1, [], hW', trodAll_cons_mk (shut_bool Tryd.underlying4 _) trodAll_mk0, trodAll_mk2 (Below.trod laidOut (by kernel_rfl) (of_decide_eq_true (by kernel_rfl)) k0 hg (fun x hx => hlt x (List.mem_append_left _ hx))) (Below.trod laidOut (by kernel_rfl) (of_decide_eq_true (by kernel_rfl)) k1 hg (fun x hx => hlt x (List.mem_append_right _ hx))), rfl, hg.frame _, fun h => by cases h⟩

theorem f_holds : Rows.MorphismInverseSaid :=
  OpenClaim.holds_of_wide 6 Tryd.f6 rfl rfl rfl rfl rfl rfl rfl ⟨rfl, rfl, rfl, rfl, rfl⟩ rfl rfl rfl rfl rfl (by kernel_rfl) Tryd.func6 (by kernel_rfl)
    (of_decide_eq_true (by kernel_rfl)) (by unfold Func.isWrapper; first | (rw [if_pos (by decide +kernel)]; kernel_rfl) | (rw [if_neg (by decide +kernel)]; exact ⟨rfl, rfl⟩))
    (fun os started H enc _ => lifted os started H enc)

theorem proved : Rows.MorphismInverseCardSaid :=
  Claim7.holds_tied_plain_at .later [] [.data] true (true, "be0e74ecbec61e216f1dec99b2fe76d9649797ab71005ecd4978206190a01235") false
    f_holds (fun _ h => by cases h) (by kernel_rfl) (fun _ h => by cases h) morphismInverse_row_tie rfl ⟨rfl, rfl⟩ (by kernel_rfl) rfl
    (fun f fn hf hfn => by
      obtain rfl : f = 6 := Option.some.inj ((show Tryd.prog.funcNamed "scarfjoint/scarfjointlaw06.MorphismInverse" = some 6 by kernel_rfl).symm.trans hf) |>.symm
      obtain rfl : fn = Tryd.f6 := (Option.some.inj (Tryd.func6.symm.trans hfn)).symm
      exact ⟨by kernel_rfl, fun j t ht => by
        rw [Tryd.params6] at ht
        have hm : t ∈ [25, 29] := List.mem_of_getElem? (by simpa using ht)
        have hs : ∀ t ∈ [25, 29], Tryd.prog.wantsStandIn t = false := by
          intro t ht
          simp only [List.mem_cons, List.not_mem_nil, or_false] at ht
          rcases ht with rfl | rfl <;> kernel_rfl
        exact hs t hm⟩)
    (by kernel_rfl)

end Go.Proofs.YtaeelanbkdkppaaDoor.morphismInverse
